import PyProof.Rows.All
import Wide.All
import OpenK.AllK
import Wide.FinOn
import HandS.ForMost
import HandS.Evl
import HandS.IsInst
import HandS.Wide
import HandS.WideMore
import HandS.Zip
import HandS.TupAny
import HandS.TupLe
import HandS.TupMul
import HandS.DictComp
import KE.SortData
import PyProof.ReprRoads
import KE.DataEq
import HandS.Conv
import KE.GoesMore
import HandS.Walk
import PyProof.AutoSeq1
import HandS.Style
import KE.KRevSl
import HandS.Dict
import PyProof.RulesMatchSeq
import PyProof.Rows.MatchSeqLen
import KE.DataAny
import KE.DataMinMax
import PyProof.P3In
import KE.GoesNew
import HandS.Star
import PySem.Challenge.RW_tiewheel_k05_whole_parts_again
set_option Elab.async false
set_option linter.all false
set_option maxRecDepth 100000
set_option maxHeartbeats 2000000

/-! ## Tw: values as data, slots as data, readings as partial functions on slots -/
namespace Tw
open PySem PySem.Spec PyProof.Rows L2
open Evl (Ex)

def keyD : Key → PyData
  | .inl i => .int i
  | .inr x => .str x

/-- a list to be read: tracked, locked, or one of the module's own -/
def RL (K : PySem.W.Frag) (H : Hp) (a : Addr) (xs : List V) : Prop := Rd H a (.lst xs) ∨
  ∃ (its : List Value) (n : Nat), K.lookup a = some { cls := .type "list", data := .seq its.toArray n } ∧ Vals xs its ∧ xs.length ≤ sizeLine
theorem RL.of {K : PySem.W.Frag} {H : Hp} {a : Addr} {xs : List V} (h : H a = some (.lst xs)) : RL K H a xs := .inl (Rd.of h)
theorem RL.mono {K : PySem.W.Frag} {H H' : Hp} {a : Addr} {xs : List V} (h : RL K H a xs) (e : Ex H H') : RL K H' a xs := h.imp (fun q => Evl.ex_rd e q) id
theorem RL.sq {K : PySem.W.Frag} {H : Hp} {a : Addr} {xs : List V} (h : RL K H a xs) : SqL K H a xs := h.imp id fun ⟨its, n, e, v, z⟩ => ⟨_, its.toArray, n, e, rfl, rfl, rfl, by rw [List.size_toArray, ← v.length]; exact z, by simpa using v⟩
mutual
inductive Dt (K : PySem.W.Frag) (G : Hp) : V → PyData → Prop
  | nn : Dt K G .non .none
  | bb (b : Bool) : Dt K G (.bl b) (.bool b)
  | ii (i : Int) : Dt K G (.int i) (.int i)
  | ss (x : Str) : Dt K G (.str x) (.str x)
  | ll {a : Addr} {xs : List V} {ds : List PyData} (h : RL K G a xs) (t : Da K G xs ds) :
      Dt K G (.ref a) (.list ds)
  | tt {a : Addr} {xs : List V} {ds : List PyData} (h : SqT K G a xs) (t : Da K G xs ds) :
      Dt K G (.ref a) (.tuple ds)
  | dd {a : Addr} {kvs : List (Key × V)} {ds : List PyData} (h : G a = some (.dK kvs)) (t : Da K G (kvs.map (·.2)) ds) :
      Dt K G (.ref a) (.dict ((kvs.map fun p => keyD p.1).zip ds))
inductive Da (K : PySem.W.Frag) (G : Hp) : List V → List PyData → Prop
  | nil : Da K G [] []
  | cons {v : V} {vs : List V} {d : PyData} {ds : List PyData} (h : Dt K G v d) (t : Da K G vs ds) :
      Da K G (v :: vs) (d :: ds)
end

section
variable {K : PySem.W.Frag} {G G' : Hp}
mutual
theorem Dt.mono (e : Ex G G') : ∀ {v : V} {d : PyData}, Dt K G v d → Dt K G' v d
  | _, _, .nn => .nn
  | _, _, .bb b => .bb b
  | _, _, .ii i => .ii i
  | _, _, .ss x => .ss x
  | _, _, .ll h t => .ll ((h.mono e)) (Da.mono e t)
  | _, _, .tt h t => .tt (Evl.ex_t e h) (Da.mono e t)
  | _, _, .dd h t => .dd (e _ _ h) (Da.mono e t)
theorem Da.mono (e : Ex G G') : ∀ {vs : List V} {ds : List PyData}, Da K G vs ds → Da K G' vs ds
  | _, _, .nil => .nil
  | _, _, .cons h t => .cons (Dt.mono e h) (Da.mono e t)
end
theorem Da.len : ∀ {vs : List V} {ds : List PyData}, Da K G vs ds → vs.length = ds.length
  | _, _, .nil => rfl
  | _, _, .cons _ t => congrArg (· + 1) (Da.len t)
theorem Da.get : ∀ {vs : List V} {ds : List PyData} {i : Nat} {d : PyData}, Da K G vs ds → ds[i]? = some d → ∃ v, vs[i]? = some v ∧ Dt K G v d
  | _, _, _, _, .nil, e => by simp at e
  | _, _, 0, _, .cons h _, e => by
    simp at e; subst e; exact ⟨_, rfl, h⟩
  | _, _, i + 1, _, .cons _ t, e => by
    obtain ⟨v, h1, h2⟩ := Da.get (i := i) t (by simpa using e)
    exact ⟨v, by simpa using h1, h2⟩
theorem Da.getV : ∀ {vs : List V} {ds : List PyData} {i : Nat} {v : V}, Da K G vs ds → vs[i]? = some v → ∃ d, ds[i]? = some d ∧ Dt K G v d
  | _, _, _, _, .nil, e => by simp at e
  | _, _, 0, _, .cons h _, e => by
    simp at e; subst e; exact ⟨_, rfl, h⟩
  | _, _, i + 1, _, .cons _ t, e => by
    obtain ⟨v, h1, h2⟩ := Da.getV (i := i) t (by simpa using e)
    exact ⟨v, by simpa using h1, h2⟩
theorem Da.app : ∀ {vs ws : List V} {ds es : List PyData}, Da K G vs ds → Da K G ws es → Da K G (vs ++ ws) (ds ++ es)
  | _, _, _, _, .nil, s => s
  | _, _, _, _, .cons h t, s => .cons h (Da.app t s)
theorem Da.one {v : V} {d : PyData} (h : Dt K G v d) : Da K G [v] [d] := .cons h .nil
theorem Da.take : ∀ {vs : List V} {ds : List PyData} (n : Nat), Da K G vs ds → Da K G (vs.take n) (ds.take n)
  | _, _, 0, _ => .nil
  | _, _, _ + 1, .nil => .nil
  | _, _, n + 1, .cons h t => .cons h (Da.take n t)
theorem Da.drop : ∀ {vs : List V} {ds : List PyData} (n : Nat), Da K G vs ds → Da K G (vs.drop n) (ds.drop n)
  | _, _, 0, s => s
  | _, _, _ + 1, .nil => .nil
  | _, _, n + 1, .cons _ t => Da.drop n t
theorem Da.set : ∀ {vs : List V} {ds : List PyData} {v : V} {d : PyData} (i : Nat), Dt K G v d → Da K G vs ds → Da K G (vs.set i v) (ds.set i d)
  | _, _, _, _, _, _, .nil => .nil
  | _, _, _, _, 0, q, .cons _ t => .cons q t
  | _, _, _, _, i + 1, q, .cons h t => .cons h (Da.set i q t)
theorem Da.rev {vs : List V} {ds : List PyData} (h : Da K G vs ds) : Da K G vs.reverse ds.reverse := by
  induction vs generalizing ds with
  | nil => cases h; exact .nil
  | cons v vs ih =>
    cases h with
    | cons h t =>
      rw [List.reverse_cons, List.reverse_cons]
      exact (ih t).app (Da.one h)
theorem Da.of_map {α : Type} {f : α → V} {g : α → PyData} (h : ∀ a, Dt K G (f a) (g a)) : ∀ l : List α, Da K G (l.map f) (l.map g)
  | [] => .nil
  | a :: l => .cons (h a) (Da.of_map h l)
theorem Da.ints (l : List Int) : Da K G (l.map V.int) (l.map PyData.int) := Da.of_map (fun i => .ii i) l
end

/-! ### what the data are in the model's heap -/
theorem key_read {h : Heap} {k : Key} {u : Value} (e : keyIs k u = true) : ∃ as, Reads h u (keyD k) as := by
  rcases keyIs_shape e with ⟨i, t, rfl, rfl⟩ | ⟨x, t, rfl, rfl⟩
  · exact ⟨_, .int i t⟩
  · exact ⟨_, .str x t⟩
theorem keys_read {P : Program} {w : World} {h : Heap} : ∀ {kvs : List (Key × V)} {vs : List (Key × Value)} {es : List DictEntry}, KV kvs vs → Pairs (mixKind P w) es vs →
    (∃ as, ReadsAll h (es.map (·.key)) (kvs.map fun p => keyD p.1) as) ∧ Vals (kvs.map (·.2)) (es.map (·.val))
  | _, _, _, .nil, .nil => ⟨⟨_, .nil⟩, .nil⟩
  | _, _, _, .cons r t, .cons e1 e2 e3 => by
    obtain ⟨⟨as, q1⟩, q2⟩ := keys_read (h := h) t e3
    have e1' : keyIs _ _ = true := e1
    rw [← r.1] at e1'
    obtain ⟨bs, q3⟩ := key_read (h := h) e1'
    refine ⟨⟨_, .cons q3 q1⟩, .cons ?_ q2⟩
    dsimp only
    rw [e2]
    exact r.2
section
variable {X : Cx} {pins : List (Addr × Obj)} {σ : L2.St} {H : Hp} {s : Shared}
mutual
theorem Dt.reads (I : Inv X pins σ H s) : ∀ {v : V} {d : PyData} {u : Value}, Dt X.K H v d → RelV v u → ∃ as, Reads s.heap u d as
  | _, _, _, .nn, r => by
    cases r; exact ⟨_, .none⟩
  | _, _, _, .bb b, r => by
    cases r; exact ⟨_, .bool b⟩
  | _, _, _, .ii i, r => by
    obtain ⟨t, rfl⟩ := r; exact ⟨_, .int i t⟩
  | _, _, _, .ss x, r => by
    obtain ⟨t, rfl⟩ := r; exact ⟨_, .str x t⟩
  | _, _, _, .ll h t, r => by
    cases r
    obtain ⟨its, rv, ⟨o, n, ho, hc, _, hd⟩, _⟩ := I.list h.sq
    obtain ⟨as, hr⟩ := Da.reads I t rv
    exact ⟨_, .list ho hc hd hr⟩
  | _, _, _, .tt h t, r => by
    cases r
    obtain ⟨its, rv, ⟨o, ho, hc, n, hd⟩, _⟩ := I.tuple h
    obtain ⟨as, hr⟩ := Da.reads I t rv
    exact ⟨_, .tuple ho hc hd hr⟩
  | _, _, _, .dd (a := a) (kvs := kvs) (ds := ds) h t, r => by
    cases r
    obtain ⟨_, _, vs, rk, o, es, ep, ho, hx, hd, hk, hp, _⟩ := (show ObjOk X.prog X.w H s.heap a (.dK kvs) from I.hok a _ h)
    obtain ⟨⟨as, q⟩, qv⟩ := keys_read (h := s.heap) rk hp
    obtain ⟨bs, q2⟩ := Da.reads I t qv
    have hl : (kvs.map fun p => keyD p.1).length = ds.length := by
      rw [List.length_map, ← t.len, List.length_map]
    refine ⟨_, .dict (as := as) (bs := bs) ho hx.1 hd ?_ ?_⟩
    · rw [List.map_fst_zip (Nat.le_of_eq hl)]
      exact q
    · rw [List.map_snd_zip (Nat.le_of_eq hl.symm)]
      exact q2
theorem Da.reads (I : Inv X pins σ H s) : ∀ {vs : List V} {ds : List PyData} {us : List Value}, Da X.K H vs ds → Vals vs us → ∃ as, ReadsAll s.heap us ds as
  | _, _, _, .nil, r => by
    cases r; exact ⟨_, .nil⟩
  | _, _, _, .cons h t, r => by
    cases r with
    | cons r1 r2 =>
      obtain ⟨as, q1⟩ := Dt.reads I h r1
      obtain ⟨bs, q2⟩ := Da.reads I t r2
      exact ⟨_, .cons q1 q2⟩
end
end
/-! ### slots -/
/-- what a slot holds: nothing that is known, data, a list of one's own that may change -/
inductive Mu where
  | l (xs : List PyData)
  | k (es : List (PyData × PyData))
instance : Coe (List PyData) Mu := ⟨Mu.l⟩
inductive Sl where
  | un
  | d (x : PyData)
  | m (o : Mu)
abbrev Rho := List Sl
/-- what a changing thing of one's own holds -/
inductive MuOk (K : PySem.W.Frag) (G : Hp) : HO → Mu → Prop
  | l {xs : List V} {ds : List PyData} (h : Da K G xs ds) : MuOk K G (.lst xs) (.l ds)
  | k {kvs : List (Key × V)} {ds : List PyData} (h : Da K G (kvs.map (·.2)) ds) : MuOk K G (.dK kvs) (.k ((kvs.map fun p => keyD p.1).zip ds))
theorem MuOk.mono {K : PySem.W.Frag} {G G' : Hp} {o : HO} {u : Mu} (h : MuOk K G o u) (e : Ex G G') : MuOk K G' o u := by
  cases h with
  | l h => exact .l (h.mono e)
  | k h => exact .k (h.mono e)

def own (σ : L2.St) (ρ : Rho) (l : Addr) : Prop := ∃ (i : Nat) (ds : Mu), ρ[i]? = some (.m ds) ∧ σ[i]? = some (some (.ref l))

structure EnvOk (K : PySem.W.Frag) (G H : Hp) (σ : L2.St) (ρ : Rho) : Prop where
  ex : Ex G H
  len : σ.length = ρ.length
  dat : ∀ (i : Nat) (d : PyData), ρ[i]? = some (.d d) → ∃ v, σ[i]? = some (some v) ∧ Dt K G v d
  mu : ∀ (i : Nat) (ds : Mu), ρ[i]? = some (.m ds) → ∃ l xs, σ[i]? = some (some (.ref l)) ∧ G l = none ∧ H l = some xs ∧ MuOk K G xs ds
  ne : ∀ (i j : Nat) (ds es : Mu) (l : Addr), ρ[i]? = some (.m ds) → ρ[j]? = some (.m es) → σ[i]? = some (some (.ref l)) → σ[j]? = some (some (.ref l)) → i = j

/-- from one state to a later one: what may have changed are the cells of ow -/
structure Tr (ow : Addr → Prop) (G H G' H' : Hp) : Prop where
  g : Ex G G'
  h : ∀ a o, H a = some o → ¬ ow a → H' a = some o
  n : ∀ a o, H a = some o → G a = none → ¬ ow a → G' a = none
  k : ∀ a o, H a = some o → ∃ o', H' a = some o'
abbrev nobody : Addr → Prop := fun _ => False

section
variable {K : PySem.W.Frag} {G H G1 H1 G2 H2 : Hp} {ow ow' : Addr → Prop} {σ : L2.St} {ρ : Rho}
theorem Tr.refl : Tr ow G H G H := ⟨fun _ _ e => e, fun _ _ e _ => e, fun _ _ _ e _ => e, fun _ o e => ⟨o, e⟩⟩
theorem Tr.trans (a : Tr ow G H G1 H1) (b : Tr ow' G1 H1 G2 H2) (s : ∀ x o, H x = some o → ow' x → ow x) : Tr ow G H G2 H2 where
  g := fun x o e => b.g x o (a.g x o e)
  h := fun x o e n => b.h x o (a.h x o e n) fun q => n (s x o e q)
  n := fun x o e g n => b.n x o (a.h x o e n) (a.n x o e g n) fun q => n (s x o e q)
  k := fun x o e => let ⟨o1, e1⟩ := a.k x o e; b.k x o1 e1
theorem Tr.wide (a : Tr ow G H G1 H1) (s : ∀ x o, H x = some o → ow x → ow' x) : Tr ow' G H G1 H1 where
  g := a.g
  h := fun x o e n => a.h x o e fun q => n (s x o e q)
  n := fun x o e g n => a.n x o e g fun q => n (s x o e q)
  k := a.k
theorem Tr.none (a : Tr nobody G H G1 H1) : Tr ow G H G1 H1 := a.wide fun _ _ _ q => q.elim
theorem Tr.exH (a : Tr nobody G H G1 H1) : Ex H H1 := fun x o e => a.h x o e id
/-- a new thing that never changes -/
theorem Tr.new {p : Addr} {o : HO} (hp : H p = Option.none) (e : Ex G H) : Tr ow G H (upd G p o) (upd H p o) where
  g := fun x u q => by
    rw [upd_ne fun z => by subst z; rw [e _ _ q] at hp; cases hp]
    exact q
  h := fun x u q _ => by
    rw [upd_ne fun z => by subst z; rw [q] at hp; cases hp]
    exact q
  n := fun x u q g _ => by
    rw [upd_ne fun z => by subst z; rw [q] at hp; cases hp]
    exact g
  k := fun x u q => ⟨u, by
    rw [upd_ne fun z => by subst z; rw [q] at hp; cases hp]
    exact q⟩
theorem ex_upd {p : Addr} {o : HO} (e : Ex G H) : Ex (upd G p o) (upd H p o) := fun x u q => by
  by_cases z : x = p
  · subst z; rw [upd_same] at q ⊢; exact q
  · rw [upd_ne z] at q ⊢; exact e _ _ q
theorem ex_new {p : Addr} {o : HO} (e : Ex G H) (hp : H p = Option.none) : Ex G (upd H p o) := fun x u q => by
  rw [upd_ne fun z => by subst z; rw [e _ _ q] at hp; cases hp]
  exact e _ _ q
theorem EnvOk.dat' (E : EnvOk K G H σ ρ) {i : Nat} {d : PyData} (h : ρ[i]? = some (.d d)) : ∃ v, σ[i]? = some (some v) ∧ Dt K G v d := E.dat i d h
theorem EnvOk.muL (E : EnvOk K G H σ ρ) {i : Nat} {ds : List PyData} (h : ρ[i]? = some (.m (.l ds))) : ∃ l xs, σ[i]? = some (some (.ref l)) ∧ G l = none ∧ H l = some (.lst xs) ∧ Da K G xs ds := by
  obtain ⟨l, o, h1, h2, h3, h4⟩ := E.mu i _ h
  cases h4 with
  | l h4 => exact ⟨l, _, h1, h2, h3, h4⟩
theorem EnvOk.muK (E : EnvOk K G H σ ρ) {i : Nat} {es : List (PyData × PyData)} (h : ρ[i]? = some (.m (.k es))) : ∃ l kvs ds, σ[i]? = some (some (.ref l)) ∧ G l = none ∧ H l = some (.dK kvs) ∧ Da K G (kvs.map (·.2)) ds ∧ es = (kvs.map fun p => keyD p.1).zip ds := by
  obtain ⟨l, o, h1, h2, h3, h4⟩ := E.mu i _ h
  cases h4 with
  | k h4 => exact ⟨l, _, _, h1, h2, h3, h4, rfl⟩
/-- behind a step that changed none of its cells -/
theorem EnvOk.tr (E : EnvOk K G H σ ρ) (t : Tr nobody G H G1 H1) (e : Ex G1 H1) : EnvOk K G1 H1 σ ρ where
  ex := e
  len := E.len
  dat := fun i d q => by
    obtain ⟨v, h1, h2⟩ := E.dat i d q
    exact ⟨v, h1, h2.mono t.g⟩
  mu := fun i ds q => by
    obtain ⟨l, xs, h1, h2, h3, h4⟩ := E.mu i ds q
    exact ⟨l, xs, h1, t.n l _ h3 h2 id, t.h l _ h3 id, h4.mono t.g⟩
  ne := E.ne
end

/-! ### readings of expressions -/
/-- what one owns, where b says that it may change -/
def ows (b : Bool) (σ : L2.St) (ρ : Rho) : Addr → Prop := fun a => b = true ∧ own σ ρ a
abbrev FE (α : Type) := Rho → Option (α × Rho)
/-- f tells the data that come, and the slots behind -/
def tE (K : PySem.W.Frag) (b : Bool) (f : FE PyData) : TE := fun σ H Q => ∃ (G : Hp) (ρ : Rho) (d : PyData) (ρ' : Rho), EnvOk K G H σ ρ ∧ f ρ = some (d, ρ') ∧
  ∀ v G' H', Tr (ows b σ ρ) G H G' H' → (∀ l, own σ ρ' l → own σ ρ l) → EnvOk K G' H' σ ρ' → Dt K G' v d → Q v H'
def tT (K : PySem.W.Frag) (b : Bool) (f : FE Bool) : TT := fun σ H Q => ∃ (G : Hp) (ρ : Rho) (d : Bool) (ρ' : Rho), EnvOk K G H σ ρ ∧ f ρ = some (d, ρ') ∧
  ∀ G' H', Tr (ows b σ ρ) G H G' H' → (∀ l, own σ ρ' l → own σ ρ l) → EnvOk K G' H' σ ρ' → Q d H'
def tA (K : PySem.W.Frag) (b : Bool) (f : FE (List PyData)) : TA := fun σ H Q => ∃ (G : Hp) (ρ : Rho) (d : List PyData) (ρ' : Rho), EnvOk K G H σ ρ ∧ f ρ = some (d, ρ') ∧
  ∀ v G' H', Tr (ows b σ ρ) G H G' H' → (∀ l, own σ ρ' l → own σ ρ l) → EnvOk K G' H' σ ρ' → Da K G' v d → Q v H'

section
variable {X : Cx} {e : Expr} {es : List Expr} {t t' : TE}
theorem PE.weak (h : PE X e t) (w : ∀ σ H Q, t' σ H Q → t σ H Q) : PE X e t' := ⟨fun pins s σ H Q I q => h.run pins s σ H Q I (w σ H Q q)⟩
theorem PE.weakI (h : PE X e t) (w : ∀ pins s σ H Q, Inv X pins σ H s → t' σ H Q → t σ H Q) : PE X e t' := ⟨fun pins s σ H Q I q => h.run pins s σ H Q I (w pins s σ H Q I q)⟩
theorem PT.weak {t t' : TT} (h : PT X e t) (w : ∀ σ H Q, t' σ H Q → t σ H Q) : PT X e t' := ⟨fun pins s σ H Q I q => h.run pins s σ H Q I (w σ H Q q)⟩
theorem PA.weak {t t' : TA} (h : PA X es t) (w : ∀ σ H Q, t' σ H Q → t σ H Q) : PA X es t' := ⟨fun pos pins s σ H Q I q => h.run pos pins s σ H Q I (w σ H Q q)⟩
theorem PS.weak {st : Stmt} {t t' : TS} (h : PS X st t) (w : ∀ D σ H, t' D σ H → t D σ H) : PS X st t' := ⟨fun pins s σ H D I q => h.run pins s σ H D I (w D σ H q)⟩
theorem PS.weakI {st : Stmt} {t t' : TS} (h : PS X st t) (w : ∀ pins s D σ H, Inv X pins σ H s → t' D σ H → t D σ H) : PS X st t' := ⟨fun pins s σ H D I q => h.run pins s σ H D I (w pins s D σ H I q)⟩
theorem PSs.weak {st : List Stmt} {t t' : TS} (h : PSs X st t) (w : ∀ D σ H, t' D σ H → t D σ H) : PSs X st t' := ⟨fun pins s σ H D I q => h.run pins s σ H D I (w D σ H q)⟩
end
section
variable {X : Cx} {e a b : Expr} {es : List Expr} {pos : Pos} {bb : Bool} {f fa fb : FE PyData}
theorem ows_true {σ : L2.St} {ρ : Rho} {b : Bool} {x : Addr} (h : ows b σ ρ x) : ows true σ ρ x := ⟨rfl, h.2⟩
/-- an expression that changes nothing is one that may -/
theorem e_up (h : PE X e (tE X.K false f)) : PE X e (tE X.K true f) := PE.weak h fun σ H Q ⟨G, ρ, d, ρ', E, ef, k⟩ =>
  ⟨G, ρ, d, ρ', E, ef, fun v G' H' t => k v G' H' (t.wide fun _ _ _ q => ows_true q)⟩
theorem t_up {f : FE Bool} (h : PT X e (tT X.K false f)) : PT X e (tT X.K true f) := PT.weak h fun σ H Q ⟨G, ρ, d, ρ', E, ef, k⟩ =>
  ⟨G, ρ, d, ρ', E, ef, fun G' H' t => k G' H' (t.wide fun _ _ _ q => ows_true q)⟩
theorem a_up {f : FE (List PyData)} (h : PA X es (tA X.K false f)) : PA X es (tA X.K true f) := PA.weak h fun σ H Q ⟨G, ρ, d, ρ', E, ef, k⟩ =>
  ⟨G, ρ, d, ρ', E, ef, fun v G' H' t => k v G' H' (t.wide fun _ _ _ q => ows_true q)⟩
theorem e_cong {f' : FE PyData} (h : PE X e (tE X.K bb f)) (w : ∀ ρ, f' ρ = f ρ) : PE X e (tE X.K bb f') := by
  rw [show f' = f from funext w]; exact h
/-- two steps, one behind the other -/
theorem Tr.seq {σ : L2.St} {ρ ρ1 : Rho} {G H G1 H1 G2 H2 : Hp} (a : Tr (ows bb σ ρ) G H G1 H1) (s : ∀ l, own σ ρ1 l → own σ ρ l) (b : Tr (ows bb σ ρ1) G1 H1 G2 H2) : Tr (ows bb σ ρ) G H G2 H2 :=
  a.trans b fun _ _ _ q => ⟨q.1, s _ q.2⟩
end
/-- nothing behind -/
def ret {α : Type} (x : α) : FE α := fun ρ => some (x, ρ)
/-- one behind another -/
def thnE {α β : Type} (f : FE α) (g : α → FE β) : FE β := fun ρ => (f ρ).bind fun p => g p.1 p.2
theorem thnE_of {α β : Type} {f : FE α} {g : α → FE β} {ρ ρ2 : Rho} {y : β} (h : thnE f g ρ = some (y, ρ2)) : ∃ x ρ1, f ρ = some (x, ρ1) ∧ g x ρ1 = some (y, ρ2) := by
  unfold thnE at h
  obtain ⟨⟨x, ρ1⟩, h1, h2⟩ := Option.bind_eq_some_iff.mp h
  exact ⟨x, ρ1, h1, h2⟩
/-- a reckoning of values that may have no answer -/
def liftO {α : Type} (o : Option α) : FE α := fun ρ => o.map fun x => (x, ρ)
theorem liftO_of {α : Type} {o : Option α} {ρ ρ2 : Rho} {y : α} (h : liftO o ρ = some (y, ρ2)) : o = some y ∧ ρ2 = ρ := by
  unfold liftO at h
  cases o with
  | none => cases h
  | some z =>
    have e := Option.some.inj h
    exact ⟨congrArg some (Prod.mk.inj e).1, (Prod.mk.inj e).2.symm⟩
end Tw

set_option Elab.async false
set_option linter.all false
set_option maxRecDepth 100000
set_option maxHeartbeats 2000000
namespace Tw
open PySem PySem.Spec PyProof.Rows L2
open Evl (Ex)

/-! ### names, constants -/
def fVar (i : Nat) : FE PyData := fun ρ => match ρ[i]? with
  | some (.d x) => some (x, ρ)
  | _ => none
theorem fVar_of {i : Nat} {ρ ρ' : Rho} {d : PyData} (h : fVar i ρ = some (d, ρ')) : ρ[i]? = some (.d d) ∧ ρ' = ρ := by
  unfold fVar at h
  split at h
  · rename_i x e
    have q := Option.some.inj h
    exact ⟨by rw [e, (Prod.mk.inj q).1], (Prod.mk.inj q).2.symm⟩
  · cases h
section
variable {X : Cx} {e a b c : Expr} {es : List Expr} {pos : Pos} {bb : Bool} {f fa fb fc : FE PyData} {g : FE Bool} {σ : L2.St} {ρ ρ1 ρ2 : Rho}
theorem e_var (i : Nat) (h : PE X e (tVar i)) : PE X e (tE X.K bb (fVar i)) := PE.weak h fun σ H Q ⟨G, ρ, d, ρ', E, ef, k⟩ => by
  obtain ⟨h1, rfl⟩ := fVar_of ef
  obtain ⟨v, hv, hd⟩ := E.dat i d h1
  exact ⟨v, hv, k v G H .refl (fun _ q => q) E hd⟩
theorem e_con {v : V} {d : PyData} (h : PE X e (tC v)) (hd : ∀ G, Dt X.K G v d) : PE X e (tE X.K bb (ret d)) := PE.weak h fun σ H Q ⟨G, ρ, d', ρ', E, ef, k⟩ => by
  have q := Option.some.inj ef
  obtain ⟨rfl, rfl⟩ := Prod.mk.inj q
  exact k v G H .refl (fun _ q => q) E (hd G)
theorem e_int {i j pos} : PE X (.Constant (.int i) j pos) (tE X.K bb (ret (.int i))) := e_con pe_int fun _ => .ii i
theorem e_bl {b j pos} : PE X (.Constant (.bool b) j pos) (tE X.K bb (ret (.bool b))) := e_con pe_bl fun _ => .bb b
theorem e_non {j pos} : PE X (.Constant .none j pos) (tE X.K bb (ret .none)) := e_con pe_non fun _ => .nn
theorem e_str {x j pos} : PE X (.Constant (.str x) j pos) (tE X.K bb (ret (.str x))) := e_con pe_str fun _ => .ss x
/-- a module's number -/
theorem e_glob {x : Str} {i : Int} {t : Tok} (hg : Gl X x) (hm : X.mg x = some (.int i t)) (hd : (x == ("__debug__" : Str)) = false := by decide) : PE X (.Name x pos) (tE X.K bb (ret (.int i))) :=
  e_con (v := .int i) (pe_glob hg hm ⟨_, rfl⟩ hd) fun _ => .ii i

/-! ### an operation on two values -/
def OpD (K : PySem.W.Frag) (r : R2) (g : PyData → PyData → Option PyData) : Prop :=
  ∀ (G H : Hp) (x y : V) (d e z : PyData) (Q : VK), Ex G H → Dt K G x d → Dt K G y e → g d e = some z → (∀ v G' H', Tr nobody G H G' H' → Ex G' H' → Dt K G' v z → Q v H') → r x y H Q
def fBin (g : PyData → PyData → Option PyData) (fa fb : FE PyData) : FE PyData := thnE fa fun x => thnE fb fun y => liftO (g x y)
theorem bin_run {r : R2} {g : PyData → PyData → Option PyData} (hr : OpD X.K r g) {H : Hp} {Q : VK} (h : tE X.K bb (fBin g fa fb) σ H Q) : tOp r (tE X.K bb fa) (tE X.K bb fb) σ H Q := by
  obtain ⟨G, ρ, d, ρ', E, ef, k⟩ := h
  obtain ⟨x, ρ1, h1, h2⟩ := thnE_of ef
  obtain ⟨y, ρ2, h3, h4⟩ := thnE_of h2
  obtain ⟨h5, rfl⟩ := liftO_of h4
  refine ⟨G, ρ, x, ρ1, E, h1, fun v G1 H1 t1 o1 E1 d1 => ⟨G1, ρ1, y, ρ', E1, h3, fun u G2 H2 t2 o2 E2 d2 => ?_⟩⟩
  refine hr G2 H2 v u x y d Q E2.ex (d1.mono t2.g) d2 h5 fun z G3 H3 t3 x3 d3 => ?_
  exact k z G3 H3 ((t1.seq o1 t2).trans t3 fun _ _ _ q => q.elim) (fun l q => o1 l (o2 l q)) (E2.tr t3 x3) d3
theorem e_op {op : Operator} {r : R2} {g : PyData → PyData → Option PyData} (ho : OpR X (binaryOp op) r) (hr : OpD X.K r g) (ha : PE X a (tE X.K bb fa)) (hb : PE X b (tE X.K bb fb)) :
    PE X (.BinOp a op b pos) (tE X.K bb (fBin g fa fb)) := PE.weak (pe_op ho ha hb) fun _ _ _ h => bin_run hr h
theorem e_cmp {op : CmpOp} {r : R2} {g : PyData → PyData → Option PyData} (ho : OpR X (compareOp op) r) (hr : OpD X.K r g) (hm : behindInMarks op b = false) (ha : PE X a (tE X.K bb fa)) (hb : PE X b (tE X.K bb fb)) :
    PE X (.Compare a [op] [b] pos) (tE X.K bb (fBin g fa fb)) := PE.weak (pe_cmpR ho ha hb hm) fun _ _ _ h => bin_run hr h
theorem e_ix {r : R2} {g : PyData → PyData → Option PyData} (ho : IxR X r) (hr : OpD X.K r g) (hs : PlainIx b) (ha : PE X a (tE X.K bb fa)) (hb : PE X b (tE X.K bb fb)) :
    PE X (.Subscript a b pos) (tE X.K bb (fBin g fa fb)) := PE.weak (pe_ix ho ha hb hs) fun _ _ _ h => bin_run hr h
theorem OpD.or {K : PySem.W.Frag} {r r' : R2} {g g' : PyData → PyData → Option PyData} (h : OpD K r g) (h' : OpD K r' g') : OpD K (fun x y H Q => r x y H Q ∨ r' x y H Q) (fun d e => (g d e).or (g' d e)) :=
  fun G H x y d e z Q ex hd he hz k => by
    cases q : g d e with
    | some w =>
      have hz' : (g d e).or (g' d e) = some z := hz
      rw [q] at hz'
      exact .inl (h G H x y d e z Q ex hd he (q.trans hz') k)
    | none =>
      have hz' : (g d e).or (g' d e) = some z := hz
      rw [q] at hz'
      exact .inr (h' G H x y d e z Q ex hd he hz' k)
/-- a chain a op b op' c -/
def fChain (g g' : PyData → PyData → Option PyData) (fa fb fc : FE PyData) : FE PyData := thnE fa fun x => thnE fb fun y => thnE (liftO (g x y)) fun k => match k with
  | .bool true => thnE fc fun z => liftO (g' y z)
  | .bool false => ret (.bool false)
  | _ => fun _ => none
theorem dt_bool {K : PySem.W.Frag} {G : Hp} {v : V} {b : Bool} (h : Dt K G v (.bool b)) : v = .bl b := by cases h; rfl
theorem dt_int {K : PySem.W.Frag} {G : Hp} {v : V} {b : Int} (h : Dt K G v (.int b)) : v = .int b := by cases h; rfl
theorem dt_str {K : PySem.W.Frag} {G : Hp} {v : V} {b : Str} (h : Dt K G v (.str b)) : v = .str b := by cases h; rfl
theorem dt_none {K : PySem.W.Frag} {G : Hp} {v : V} (h : Dt K G v .none) : v = .non := by cases h; rfl
theorem dt_list {K : PySem.W.Frag} {G : Hp} {v : V} {ds : List PyData} (h : Dt K G v (.list ds)) : ∃ a xs, v = .ref a ∧ RL K G a xs ∧ Da K G xs ds := by cases h; exact ⟨_, _, rfl, ‹_›, ‹_›⟩
theorem dt_tup {K : PySem.W.Frag} {G : Hp} {v : V} {ds : List PyData} (h : Dt K G v (.tuple ds)) : ∃ a xs, v = .ref a ∧ SqT K G a xs ∧ Da K G xs ds := by cases h; exact ⟨_, _, rfl, ‹_›, ‹_›⟩
theorem chain_run {r r' : R2} {g g' : PyData → PyData → Option PyData} (hr : OpD X.K r g) (hr' : OpD X.K r' g') {H : Hp} {Q : VK} (h : tE X.K bb (fChain g g' fa fb fc) σ H Q) : tChain r r' (tE X.K bb fa) (tE X.K bb fb) (tE X.K bb fc) σ H Q := by
    obtain ⟨G, ρ, d, ρ', E, ef, k⟩ := h
    obtain ⟨x, ρ1, h1, h2⟩ := thnE_of ef
    obtain ⟨y, ρ2, h3, h4⟩ := thnE_of h2
    obtain ⟨z, ρ3, h55, h6⟩ := thnE_of h4
    obtain ⟨h5, rfl⟩ := liftO_of h55
    refine ⟨G, ρ, x, ρ1, E, h1, fun v G1 H1 t1 o1 E1 d1 => ⟨G1, ρ1, y, ρ3, E1, h3, fun u G2 H2 t2 o2 E2 d2 => ?_⟩⟩
    refine hr G2 H2 v u x y z _ E2.ex (d1.mono t2.g) d2 h5 fun w G3 H3 t3 x3 d3 => ?_
    have E3 := E2.tr t3 x3
    have t03 := (t1.seq o1 t2).trans t3 fun _ _ _ q => q.elim
    cases z with
    | bool q =>
      cases q with
      | false =>
        obtain ⟨rfl, rfl⟩ := Prod.mk.inj (Option.some.inj h6)
        refine ⟨false, dt_bool d3, ?_⟩
        rw [if_neg Bool.false_ne_true]
        exact k _ G3 H3 t03 (fun l q => o1 l (o2 l q)) E3 (.bb false)
      | true =>
        obtain ⟨m, ρ4, h7, h8⟩ := thnE_of h6
        obtain ⟨h9, rfl⟩ := liftO_of h8
        refine ⟨true, dt_bool d3, ?_⟩
        rw [if_pos rfl]
        refine ⟨G3, ρ3, m, ρ', E3, h7, fun u4 G4 H4 t4 o4 E4 d4 => ?_⟩
        refine hr' G4 H4 u u4 y m d Q E4.ex (d2.mono fun x o q => t4.g x o (t3.g x o q)) d4 h9 fun z G5 H5 t5 x5 d5 => ?_
        exact k z G5 H5 ((t03.seq (fun l q => o1 l (o2 l q)) t4).trans t5 fun _ _ _ q => q.elim) (fun l q => o1 l (o2 l (o4 l q))) (E4.tr t5 x5) d5
    | _ => cases h6
theorem e_chain {op op' : CmpOp} {r r' : R2} {g g' : PyData → PyData → Option PyData} (ho : OpR X (compareOp op) r) (ho' : OpR X (compareOp op') r') (hr : OpD X.K r g) (hr' : OpD X.K r' g')
    (ha : PE X a (tE X.K bb fa)) (hb : PE X b (tE X.K bb fb)) (hc : PE X c (tE X.K bb fc)) (hm : lastMarks [op, op'] [b, c] = false := by rfl) : PE X (.Compare a [op, op'] [b, c] pos) (tE X.K bb (fChain g g' fa fb fc)) :=
  PE.weak (pe_chain ho ho' ha hb hc hm) fun σ H Q h => chain_run hr hr' h
/-! ### an operation on one value -/
def UnD (K : PySem.W.Frag) (r : V → Hp → VK → Prop) (g : PyData → Option PyData) : Prop :=
  ∀ (G H : Hp) (x : V) (d z : PyData) (Q : VK), Ex G H → Dt K G x d → g d = some z → (∀ v G' H', Tr nobody G H G' H' → Ex G' H' → Dt K G' v z → Q v H') → r x H Q
def fUn (g : PyData → Option PyData) (fa : FE PyData) : FE PyData := thnE fa fun x => liftO (g x)
theorem e_un {op : UnaryOp} {r : V → Hp → VK → Prop} {g : PyData → Option PyData} (ho : UnR X (unaryOp op) r) (hr : UnD X.K r g) (ha : PE X a (tE X.K bb fa)) : PE X (.UnaryOp op a pos) (tE X.K bb (fUn g fa)) :=
  PE.weak (pe_un ho ha) fun σ H Q h => by
    obtain ⟨G, ρ, d, ρ', E, ef, k⟩ := h
    obtain ⟨x, ρ1, h1, h2⟩ := thnE_of ef
    obtain ⟨h5, rfl⟩ := liftO_of h2
    refine ⟨G, ρ, x, ρ', E, h1, fun v G1 H1 t1 o1 E1 d1 => ?_⟩
    refine hr G1 H1 v x d Q E1.ex d1 h5 fun z G3 H3 t3 x3 d3 => ?_
    exact k z G3 H3 (t1.trans t3 fun _ _ _ q => q.elim) o1 (E1.tr t3 x3) d3
/-! ### arguments, displays, calls of what is built in -/
def fNil : FE (List PyData) := ret []
def fCons (f : FE PyData) (r : FE (List PyData)) : FE (List PyData) := thnE f fun x => thnE r fun xs => ret (x :: xs)
theorem ret_of {α : Type} {x y : α} {ρ ρ' : Rho} (h : ret x ρ = some (y, ρ')) : y = x ∧ ρ' = ρ := by
  obtain ⟨q, p⟩ := Prod.mk.inj (Option.some.inj h)
  exact ⟨q.symm, p.symm⟩
theorem a_nil : PA X [] (tA X.K bb fNil) := PA.weak pa_nil fun σ H Q ⟨G, ρ, d, ρ', E, ef, k⟩ => by
  obtain ⟨rfl, rfl⟩ := ret_of ef
  exact k [] G H .refl (fun _ q => q) E .nil
theorem a_cons {r : FE (List PyData)} (ha : PE X e (tE X.K bb f)) (hr : PA X es (tA X.K bb r)) (hs : starEach (e :: es) X.env = (false, eval e X.env) :: starEach es X.env := by rfl) : PA X (e :: es) (tA X.K bb (fCons f r)) :=
  PA.weak (pa_cons ha hr hs) fun σ H Q ⟨G, ρ, d, ρ', E, ef, k⟩ => by
    obtain ⟨x, ρ1, h1, h2⟩ := thnE_of ef
    obtain ⟨xs, ρ2, h3, h4⟩ := thnE_of h2
    obtain ⟨rfl, rfl⟩ := ret_of h4
    refine ⟨G, ρ, x, ρ1, E, h1, fun v G1 H1 t1 o1 E1 d1 => ⟨G1, ρ1, xs, ρ', E1, h3, fun u G2 H2 t2 o2 E2 d2 => ?_⟩⟩
    exact k (v :: u) G2 H2 (t1.seq o1 t2) (fun l q => o1 l (o2 l q)) E2 (.cons (d1.mono t2.g) d2)
def sizeOk (n : Nat) : Bool := decide (n ≤ 100000)
theorem sizeOk_le {n : Nat} (h : sizeOk n = true) : n ≤ sizeLine := Evl.sz_of (of_decide_eq_true h)
def fTup (r : FE (List PyData)) : FE PyData := thnE r fun xs => liftO (if sizeOk xs.length then some (.tuple xs) else none)
def fLst (r : FE (List PyData)) : FE PyData := thnE r fun xs => liftO (if sizeOk xs.length then some (.list xs) else none)
theorem ite_some {α : Type} {c : Bool} {x y : α} (h : (if c = true then some x else none) = some y) : c = true ∧ x = y := by
  cases c with
  | false => cases h
  | true => exact ⟨rfl, Option.some.inj h⟩
theorem e_tup {x1} {r : FE (List PyData)} (h : PA X es (tA X.K bb r)) : PE X (.Tuple es x1 pos) (tE X.K bb (fTup r)) := PE.weak (pe_tup h) fun σ H Q ⟨G, ρ, d, ρ', E, ef, k⟩ => by
  obtain ⟨x, ρ1, h1, h2⟩ := thnE_of ef
  obtain ⟨h3, rfl⟩ := liftO_of h2
  obtain ⟨hz, rfl⟩ := ite_some h3
  refine ⟨G, ρ, x, ρ', E, h1, fun v G1 H1 t1 o1 E1 d1 => ⟨by rw [d1.len]; exact sizeOk_le hz, fun p hp => ?_⟩⟩
  have t2 : Tr nobody G1 H1 (upd G1 p (.tup v)) (upd H1 p (.tup v)) := Tr.new hp E1.ex
  exact k _ _ _ (t1.trans t2 fun _ _ _ q => q.elim) o1 (E1.tr t2 (ex_upd E1.ex)) (.tt (SqT.of upd_same) (d1.mono t2.g))
theorem e_lst {r : FE (List PyData)} (h : PA X es (tA X.K bb r)) : PE X (.List es pos) (tE X.K bb (fLst r)) := PE.weak (pe_lst h) fun σ H Q ⟨G, ρ, d, ρ', E, ef, k⟩ => by
  obtain ⟨x, ρ1, h1, h2⟩ := thnE_of ef
  obtain ⟨h3, rfl⟩ := liftO_of h2
  obtain ⟨hz, rfl⟩ := ite_some h3
  refine ⟨G, ρ, x, ρ', E, h1, fun v G1 H1 t1 o1 E1 d1 => ⟨by rw [d1.len]; exact sizeOk_le hz, fun p hp => ?_⟩⟩
  have t2 : Tr nobody G1 H1 (upd G1 p (.lst v)) (upd H1 p (.lst v)) := Tr.new hp E1.ex
  exact k _ _ _ (t1.trans t2 fun _ _ _ q => q.elim) o1 (E1.tr t2 (ex_upd E1.ex)) (.ll (RL.of upd_same) (d1.mono t2.g))
def CallD (K : PySem.W.Frag) (r : List V → Hp → VK → Prop) (g : List PyData → Option PyData) : Prop :=
  ∀ (G H : Hp) (xs : List V) (ds : List PyData) (z : PyData) (Q : VK), Ex G H → Da K G xs ds → g ds = some z → (∀ v G' H', Tr nobody G H G' H' → Ex G' H' → Dt K G' v z → Q v H') → r xs H Q
def fCall (g : List PyData → Option PyData) (r : FE (List PyData)) : FE PyData := thnE r fun xs => liftO (g xs)
theorem call_run {r : List V → Hp → VK → Prop} {g : List PyData → Option PyData} {ra : FE (List PyData)} (hr : CallD X.K r g) {H : Hp} {Q : VK} (h : tE X.K bb (fCall g ra) σ H Q) : tA X.K bb ra σ H fun vs H1 => r vs H1 Q := by
  obtain ⟨G, ρ, d, ρ', E, ef, k⟩ := h
  obtain ⟨x, ρ1, h1, h2⟩ := thnE_of ef
  obtain ⟨h5, rfl⟩ := liftO_of h2
  refine ⟨G, ρ, x, ρ', E, h1, fun v G1 H1 t1 o1 E1 d1 => ?_⟩
  refine hr G1 H1 v x d Q E1.ex d1 h5 fun z G3 H3 t3 x3 d3 => ?_
  exact k z G3 H3 (t1.trans t3 fun _ _ _ q => q.elim) o1 (E1.tr t3 x3) d3
theorem e_callB {x : Str} {p : Pos} {id : String} {r : List V → Hp → VK → Prop} {g : List PyData → Option PyData} {ra : FE (List PyData)} (hc : CallR X (.builtin id) r) (hr : CallD X.K r g) (hg : Gl X x) (hm : X.mg x = none)
    (hv : bootBuiltins x = some (.builtin id)) (ha : PA X (e :: es) (tA X.K bb ra)) (hn : x ≠ "__name__" := by decide) (hdb : (x == ("__debug__" : Str)) = false := by decide)
    (he : starEach (e :: es) X.env = (false, eval e X.env) :: starEach es X.env := by rfl) (hpl : (backTo pos (starEach es X.env)).any (·.1) = false := by rfl) : PE X (.Call (.Name x p) (e :: es) [] pos) (tE X.K bb (fCall g ra)) :=
  PE.weak (pe_callB hc hg hm hv ha hn hdb he hpl) fun _ _ _ h => call_run hr h
theorem e_callTy {x : Str} {p : Pos} {T : String} {r : List V → Hp → VK → Prop} {g : List PyData → Option PyData} {ra : FE (List PyData)} (hc : CallR X (.type T) r) (hr : CallD X.K r g) (hg : Gl X x) (hm : X.mg x = none)
    (hv : bootBuiltins x = some (.type T)) (ha : PA X (e :: es) (tA X.K bb ra)) (hn : x ≠ "__name__" := by decide) (hdb : (x == ("__debug__" : Str)) = false := by decide)
    (he : starEach (e :: es) X.env = (false, eval e X.env) :: starEach es X.env := by rfl) (hpl : (backTo pos (starEach es X.env)).any (·.1) = false := by rfl) : PE X (.Call (.Name x p) (e :: es) [] pos) (tE X.K bb (fCall g ra)) :=
  PE.weak (pe_callTy hc hg hm hv ha hn hdb he hpl) fun _ _ _ h => call_run hr h
end
end Tw

set_option Elab.async false
set_option linter.all false
set_option maxRecDepth 100000
set_option maxHeartbeats 4000000
/-! ### dicts beside what is no dict: == and != -/
namespace Tw
open PySem PySem.Spec PyProof.Rows
open PySem.SeqAt PySem.AutoSeq1
structure IsD (s : Shared) (l : Addr) : Prop where
  ex : ∃ (dd : Option Addr) (es : Array DictEntry) (n : Nat) (sl : Array (Option Value)), s.heap.get? l = some { cls := .type "dict", dict := dd, data := .dict es n, slots := sl }
theorem IsD.of {s : Shared} {a : Addr} {o : Obj} {es : Array DictEntry} {n : Nat} (h : s.heap.get? a = some o) (hc : o.cls = .type "dict") (hd : o.data = .dict es n) : IsD s a := by
  obtain ⟨c, dd, d, sl⟩ := o
  dsimp only at hc hd
  subst hc
  subst hd
  exact ⟨⟨dd, es, n, sl, h⟩⟩
abbrev dOb (dd : Option Addr) (es : Array DictEntry) (n : Nat) (sl : Array (Option Value)) : Obj := { cls := .type "dict", dict := dd, data := .dict es n, slots := sl }
abbrev qOb (c : Value) (dd : Option Addr) (its : Array Value) (n : Nat) (sl : Array (Option Value)) : Obj := { cls := c, dict := dd, data := .seq its n, slots := sl }
abbrev NI (R : Result → Shared → Prop) (s : Shared) : Prop := R (.ok (.ret .notImplemented)) s
theorem dk_eq_n (l : Addr) (dd : Option Addr) (es : Array DictEntry) (n : Nat) (sl : Array (Option Value)) :
    Meets (Builtin.«dict.__eq__» ⟨[.ref l, .none], []⟩) (fun _ R s => s.heap.get? l = some (dOb dd es n sl) ∧ NI R s) :=
  .of_wp fun prog w A R s h => by
    obtain ⟨hp, g, d, tk, os⟩ := s
    obtain ⟨hl, h⟩ := h
    have f1 := F.sub_NoneType_dict
    wp_walk using wpAny_loadPart' hl, wpAny_load hl
    exact ⟨_, rfl, h⟩
theorem kd_eq_n (l : Addr) (dd : Option Addr) (es : Array DictEntry) (n : Nat) (sl : Array (Option Value)) :
    Meets (Builtin.«NoneType.__eq__» ⟨[.none, .ref l], []⟩) (fun _ R s => s.heap.get? l = some (dOb dd es n sl) ∧ NI R s) :=
  .of_wp fun prog w A R s h => by
    obtain ⟨hp, g, d, tk, os⟩ := s
    obtain ⟨hl, h⟩ := h
    have f1 := F.sub_dict_NoneType
    wp_walk using wpAny_loadPart' hl, wpAny_load hl
    exact ⟨_, rfl, h⟩
theorem dk_eq_b (l : Addr) (dd : Option Addr) (es : Array DictEntry) (n : Nat) (sl : Array (Option Value)) (x : Bool) :
    Meets (Builtin.«dict.__eq__» ⟨[.ref l, .bool x], []⟩) (fun _ R s => s.heap.get? l = some (dOb dd es n sl) ∧ NI R s) :=
  .of_wp fun prog w A R s h => by
    obtain ⟨hp, g, d, tk, os⟩ := s
    obtain ⟨hl, h⟩ := h
    have f1 := F.sub_bool_dict
    wp_walk using wpAny_loadPart' hl, wpAny_load hl
    exact ⟨_, rfl, h⟩
theorem kd_eq_b (l : Addr) (dd : Option Addr) (es : Array DictEntry) (n : Nat) (sl : Array (Option Value)) (x : Bool) :
    Meets (Builtin.«int.__eq__» ⟨[.bool x, .ref l], []⟩) (fun _ R s => s.heap.get? l = some (dOb dd es n sl) ∧ NI R s) :=
  .of_wp fun prog w A R s h => by
    obtain ⟨hp, g, d, tk, os⟩ := s
    obtain ⟨hl, h⟩ := h
    have f1 := F.sub_dict_bool
    wp_walk using wpAny_loadPart' hl, wpAny_load hl
    exact ⟨_, rfl, h⟩
theorem dk_eq_i (l : Addr) (dd : Option Addr) (es : Array DictEntry) (n : Nat) (sl : Array (Option Value)) (x : Int) (u : Tok) :
    Meets (Builtin.«dict.__eq__» ⟨[.ref l, .int x u], []⟩) (fun _ R s => s.heap.get? l = some (dOb dd es n sl) ∧ NI R s) :=
  .of_wp fun prog w A R s h => by
    obtain ⟨hp, g, d, tk, os⟩ := s
    obtain ⟨hl, h⟩ := h
    have f1 := F.sub_int_dict
    wp_walk using wpAny_loadPart' hl, wpAny_load hl
    exact ⟨_, rfl, h⟩
theorem kd_eq_i (l : Addr) (dd : Option Addr) (es : Array DictEntry) (n : Nat) (sl : Array (Option Value)) (x : Int) (u : Tok) :
    Meets (Builtin.«int.__eq__» ⟨[.int x u, .ref l], []⟩) (fun _ R s => s.heap.get? l = some (dOb dd es n sl) ∧ NI R s) :=
  .of_wp fun prog w A R s h => by
    obtain ⟨hp, g, d, tk, os⟩ := s
    obtain ⟨hl, h⟩ := h
    have f1 := F.sub_dict_int
    wp_walk using wpAny_loadPart' hl, wpAny_load hl
    exact ⟨_, rfl, h⟩
theorem dk_eq_s (l : Addr) (dd : Option Addr) (es : Array DictEntry) (n : Nat) (sl : Array (Option Value)) (x : Str) (u : Tok) :
    Meets (Builtin.«dict.__eq__» ⟨[.ref l, .str x u], []⟩) (fun _ R s => s.heap.get? l = some (dOb dd es n sl) ∧ NI R s) :=
  .of_wp fun prog w A R s h => by
    obtain ⟨hp, g, d, tk, os⟩ := s
    obtain ⟨hl, h⟩ := h
    have f1 := F.sub_str_dict
    wp_walk using wpAny_loadPart' hl, wpAny_load hl
    exact ⟨_, rfl, h⟩
theorem kd_eq_s (l : Addr) (dd : Option Addr) (es : Array DictEntry) (n : Nat) (sl : Array (Option Value)) (x : Str) (u : Tok) :
    Meets (Builtin.«str.__eq__» ⟨[.str x u, .ref l], []⟩) (fun _ R s => s.heap.get? l = some (dOb dd es n sl) ∧ NI R s) :=
  .of_wp fun prog w A R s h => by
    obtain ⟨hp, g, d, tk, os⟩ := s
    obtain ⟨hl, h⟩ := h
    have f1 := F.sub_dict_str
    wp_walk using wpAny_loadPart' hl, wpAny_load hl
    exact ⟨_, rfl, h⟩
theorem dk_eq_l (l b : Addr) (dd : Option Addr) (es : Array DictEntry) (n : Nat) (sl : Array (Option Value)) (dd2 : Option Addr) (its : Array Value) (n2 : Nat) (sl2 : Array (Option Value)) :
    Meets (Builtin.«dict.__eq__» ⟨[.ref l, .ref b], []⟩) (fun _ R s => s.heap.get? l = some (dOb dd es n sl) ∧ s.heap.get? b = some (qOb (.type "list") dd2 its n2 sl2) ∧ NI R s) :=
  .of_wp fun prog w A R s h => by
    obtain ⟨hp, g, d, tk, os⟩ := s
    obtain ⟨hl, hb, h⟩ := h
    have f1 := F.sub_list_dict
    wp_walk using wpAny_loadPart' hl, wpAny_loadPart' hb, wpAny_load hb
    exact ⟨_, rfl, h⟩
theorem kd_eq_l (l b : Addr) (dd : Option Addr) (es : Array DictEntry) (n : Nat) (sl : Array (Option Value)) (dd2 : Option Addr) (its : Array Value) (n2 : Nat) (sl2 : Array (Option Value)) :
    Meets (Builtin.«list.__eq__» ⟨[.ref b, .ref l], []⟩) (fun _ R s => s.heap.get? l = some (dOb dd es n sl) ∧ s.heap.get? b = some (qOb (.type "list") dd2 its n2 sl2) ∧ NI R s) :=
  .of_wp fun prog w A R s h => by
    obtain ⟨hp, g, d, tk, os⟩ := s
    obtain ⟨hl, hb, h⟩ := h
    have f1 := F.sub_dict_list
    wp_walk using wpAny_loadPart' hb, wpAny_loadPart' hl, wpAny_load hl
    exact ⟨_, rfl, h⟩
theorem dk_eq_t (l b : Addr) (dd : Option Addr) (es : Array DictEntry) (n : Nat) (sl : Array (Option Value)) (dd2 : Option Addr) (its : Array Value) (n2 : Nat) (sl2 : Array (Option Value)) :
    Meets (Builtin.«dict.__eq__» ⟨[.ref l, .ref b], []⟩) (fun _ R s => s.heap.get? l = some (dOb dd es n sl) ∧ s.heap.get? b = some (qOb (.type "tuple") dd2 its n2 sl2) ∧ NI R s) :=
  .of_wp fun prog w A R s h => by
    obtain ⟨hp, g, d, tk, os⟩ := s
    obtain ⟨hl, hb, h⟩ := h
    have f1 := F.sub_tuple_dict
    wp_walk using wpAny_loadPart' hl, wpAny_loadPart' hb, wpAny_load hb
    exact ⟨_, rfl, h⟩
theorem kd_eq_t (l b : Addr) (dd : Option Addr) (es : Array DictEntry) (n : Nat) (sl : Array (Option Value)) (dd2 : Option Addr) (its : Array Value) (n2 : Nat) (sl2 : Array (Option Value)) :
    Meets (Builtin.«tuple.__eq__» ⟨[.ref b, .ref l], []⟩) (fun _ R s => s.heap.get? l = some (dOb dd es n sl) ∧ s.heap.get? b = some (qOb (.type "tuple") dd2 its n2 sl2) ∧ NI R s) :=
  .of_wp fun prog w A R s h => by
    obtain ⟨hp, g, d, tk, os⟩ := s
    obtain ⟨hl, hb, h⟩ := h
    have f1 := F.sub_dict_tuple
    wp_walk using wpAny_loadPart' hb, wpAny_loadPart' hl, wpAny_load hl
    exact ⟨_, rfl, h⟩
theorem dk_ne_n (l : Addr) (dd : Option Addr) (es : Array DictEntry) (n : Nat) (sl : Array (Option Value)) :
    Meets (Builtin.«dict.__ne__» ⟨[.ref l, .none], []⟩) (fun _ R s => s.heap.get? l = some (dOb dd es n sl) ∧ NI R s) :=
  .of_wp fun prog w A R s h => by
    obtain ⟨hp, g, d, tk, os⟩ := s
    obtain ⟨hl, h⟩ := h
    have f1 := F.sub_NoneType_dict
    wp_walk using wpAny_loadPart' hl, wpAny_load hl
    exact ⟨_, rfl, h⟩
theorem kd_ne_n (l : Addr) (dd : Option Addr) (es : Array DictEntry) (n : Nat) (sl : Array (Option Value)) :
    Meets (Builtin.«NoneType.__ne__» ⟨[.none, .ref l], []⟩) (fun _ R s => s.heap.get? l = some (dOb dd es n sl) ∧ NI R s) :=
  .of_wp fun prog w A R s h => by
    obtain ⟨hp, g, d, tk, os⟩ := s
    obtain ⟨hl, h⟩ := h
    have f1 := F.sub_dict_NoneType
    wp_walk using wpAny_loadPart' hl, wpAny_load hl
    exact ⟨_, rfl, h⟩
theorem dk_ne_b (l : Addr) (dd : Option Addr) (es : Array DictEntry) (n : Nat) (sl : Array (Option Value)) (x : Bool) :
    Meets (Builtin.«dict.__ne__» ⟨[.ref l, .bool x], []⟩) (fun _ R s => s.heap.get? l = some (dOb dd es n sl) ∧ NI R s) :=
  .of_wp fun prog w A R s h => by
    obtain ⟨hp, g, d, tk, os⟩ := s
    obtain ⟨hl, h⟩ := h
    have f1 := F.sub_bool_dict
    wp_walk using wpAny_loadPart' hl, wpAny_load hl
    exact ⟨_, rfl, h⟩
theorem kd_ne_b (l : Addr) (dd : Option Addr) (es : Array DictEntry) (n : Nat) (sl : Array (Option Value)) (x : Bool) :
    Meets (Builtin.«int.__ne__» ⟨[.bool x, .ref l], []⟩) (fun _ R s => s.heap.get? l = some (dOb dd es n sl) ∧ NI R s) :=
  .of_wp fun prog w A R s h => by
    obtain ⟨hp, g, d, tk, os⟩ := s
    obtain ⟨hl, h⟩ := h
    have f1 := F.sub_dict_bool
    wp_walk using wpAny_loadPart' hl, wpAny_load hl
    exact ⟨_, rfl, h⟩
theorem dk_ne_i (l : Addr) (dd : Option Addr) (es : Array DictEntry) (n : Nat) (sl : Array (Option Value)) (x : Int) (u : Tok) :
    Meets (Builtin.«dict.__ne__» ⟨[.ref l, .int x u], []⟩) (fun _ R s => s.heap.get? l = some (dOb dd es n sl) ∧ NI R s) :=
  .of_wp fun prog w A R s h => by
    obtain ⟨hp, g, d, tk, os⟩ := s
    obtain ⟨hl, h⟩ := h
    have f1 := F.sub_int_dict
    wp_walk using wpAny_loadPart' hl, wpAny_load hl
    exact ⟨_, rfl, h⟩
theorem kd_ne_i (l : Addr) (dd : Option Addr) (es : Array DictEntry) (n : Nat) (sl : Array (Option Value)) (x : Int) (u : Tok) :
    Meets (Builtin.«int.__ne__» ⟨[.int x u, .ref l], []⟩) (fun _ R s => s.heap.get? l = some (dOb dd es n sl) ∧ NI R s) :=
  .of_wp fun prog w A R s h => by
    obtain ⟨hp, g, d, tk, os⟩ := s
    obtain ⟨hl, h⟩ := h
    have f1 := F.sub_dict_int
    wp_walk using wpAny_loadPart' hl, wpAny_load hl
    exact ⟨_, rfl, h⟩
theorem dk_ne_s (l : Addr) (dd : Option Addr) (es : Array DictEntry) (n : Nat) (sl : Array (Option Value)) (x : Str) (u : Tok) :
    Meets (Builtin.«dict.__ne__» ⟨[.ref l, .str x u], []⟩) (fun _ R s => s.heap.get? l = some (dOb dd es n sl) ∧ NI R s) :=
  .of_wp fun prog w A R s h => by
    obtain ⟨hp, g, d, tk, os⟩ := s
    obtain ⟨hl, h⟩ := h
    have f1 := F.sub_str_dict
    wp_walk using wpAny_loadPart' hl, wpAny_load hl
    exact ⟨_, rfl, h⟩
theorem kd_ne_s (l : Addr) (dd : Option Addr) (es : Array DictEntry) (n : Nat) (sl : Array (Option Value)) (x : Str) (u : Tok) :
    Meets (Builtin.«str.__ne__» ⟨[.str x u, .ref l], []⟩) (fun _ R s => s.heap.get? l = some (dOb dd es n sl) ∧ NI R s) :=
  .of_wp fun prog w A R s h => by
    obtain ⟨hp, g, d, tk, os⟩ := s
    obtain ⟨hl, h⟩ := h
    have f1 := F.sub_dict_str
    wp_walk using wpAny_loadPart' hl, wpAny_load hl
    exact ⟨_, rfl, h⟩
theorem dk_ne_l (l b : Addr) (dd : Option Addr) (es : Array DictEntry) (n : Nat) (sl : Array (Option Value)) (dd2 : Option Addr) (its : Array Value) (n2 : Nat) (sl2 : Array (Option Value)) :
    Meets (Builtin.«dict.__ne__» ⟨[.ref l, .ref b], []⟩) (fun _ R s => s.heap.get? l = some (dOb dd es n sl) ∧ s.heap.get? b = some (qOb (.type "list") dd2 its n2 sl2) ∧ NI R s) :=
  .of_wp fun prog w A R s h => by
    obtain ⟨hp, g, d, tk, os⟩ := s
    obtain ⟨hl, hb, h⟩ := h
    have f1 := F.sub_list_dict
    wp_walk using wpAny_loadPart' hl, wpAny_loadPart' hb, wpAny_load hb
    exact ⟨_, rfl, h⟩
theorem kd_ne_l (l b : Addr) (dd : Option Addr) (es : Array DictEntry) (n : Nat) (sl : Array (Option Value)) (dd2 : Option Addr) (its : Array Value) (n2 : Nat) (sl2 : Array (Option Value)) :
    Meets (Builtin.«list.__ne__» ⟨[.ref b, .ref l], []⟩) (fun _ R s => s.heap.get? l = some (dOb dd es n sl) ∧ s.heap.get? b = some (qOb (.type "list") dd2 its n2 sl2) ∧ NI R s) :=
  .of_wp fun prog w A R s h => by
    obtain ⟨hp, g, d, tk, os⟩ := s
    obtain ⟨hl, hb, h⟩ := h
    have f1 := F.sub_dict_list
    wp_walk using wpAny_loadPart' hb, wpAny_loadPart' hl, wpAny_load hl
    exact ⟨_, rfl, h⟩
theorem dk_ne_t (l b : Addr) (dd : Option Addr) (es : Array DictEntry) (n : Nat) (sl : Array (Option Value)) (dd2 : Option Addr) (its : Array Value) (n2 : Nat) (sl2 : Array (Option Value)) :
    Meets (Builtin.«dict.__ne__» ⟨[.ref l, .ref b], []⟩) (fun _ R s => s.heap.get? l = some (dOb dd es n sl) ∧ s.heap.get? b = some (qOb (.type "tuple") dd2 its n2 sl2) ∧ NI R s) :=
  .of_wp fun prog w A R s h => by
    obtain ⟨hp, g, d, tk, os⟩ := s
    obtain ⟨hl, hb, h⟩ := h
    have f1 := F.sub_tuple_dict
    wp_walk using wpAny_loadPart' hl, wpAny_loadPart' hb, wpAny_load hb
    exact ⟨_, rfl, h⟩
theorem kd_ne_t (l b : Addr) (dd : Option Addr) (es : Array DictEntry) (n : Nat) (sl : Array (Option Value)) (dd2 : Option Addr) (its : Array Value) (n2 : Nat) (sl2 : Array (Option Value)) :
    Meets (Builtin.«tuple.__ne__» ⟨[.ref b, .ref l], []⟩) (fun _ R s => s.heap.get? l = some (dOb dd es n sl) ∧ s.heap.get? b = some (qOb (.type "tuple") dd2 its n2 sl2) ∧ NI R s) :=
  .of_wp fun prog w A R s h => by
    obtain ⟨hp, g, d, tk, os⟩ := s
    obtain ⟨hl, hb, h⟩ := h
    have f1 := F.sub_dict_tuple
    wp_walk using wpAny_loadPart' hb, wpAny_loadPart' hl, wpAny_load hl
    exact ⟨_, rfl, h⟩
section
variable {A : Around} {s : Shared} {l : Addr}
theorem rc_eq_n (hl : IsD s l) (hu : A.units < cLine) : RcAt A s (.ref l) (.none) false := fun prog w E Q h => by
  obtain ⟨dd, es, n, sl, ho⟩ := hl.ex
  exact rc_eq_decline_or (k := false) ⟨_, ho, rfl⟩ rfl (by decide) F.sub_NoneType_dict F.slot_dict_eq F.slot_NoneType_eq_refl
    (fun _ hq => call_meets F.slot_dict_eq ⟨_, ho, rfl⟩ F.entry_dict_eq (F.args_dict_eq_2 _ _) (dk_eq_n l dd es n sl ) ⟨ho, hq⟩)
    (fun _ hq => call_meets F.slot_NoneType_eq_refl rfl F.entry_NoneType_eq (F.args_NoneType_eq_2 _ _) (kd_eq_n l dd es n sl ) ⟨ho, hq⟩)
    (fun _ hq => wpAny_of_eq (rfl : isSame (.ref l) (.none) = pure false) hq) (.inr hu) h
theorem rc_eq_b (x : Bool) (hl : IsD s l) (hu : A.units < cLine) : RcAt A s (.ref l) (.bool x) false := fun prog w E Q h => by
  obtain ⟨dd, es, n, sl, ho⟩ := hl.ex
  exact rc_eq_decline_or (k := false) ⟨_, ho, rfl⟩ rfl (by decide) F.sub_bool_dict F.slot_dict_eq F.slot_bool_eq_refl
    (fun _ hq => call_meets F.slot_dict_eq ⟨_, ho, rfl⟩ F.entry_dict_eq (F.args_dict_eq_2 _ _) (dk_eq_b l dd es n sl x) ⟨ho, hq⟩)
    (fun _ hq => call_meets F.slot_bool_eq_refl rfl F.entry_int_eq (F.args_int_eq_2 _ _) (kd_eq_b l dd es n sl x) ⟨ho, hq⟩)
    (fun _ hq => wpAny_of_eq (rfl : isSame (.ref l) (.bool x) = pure false) hq) (.inr hu) h
theorem rc_eq_i (x : Int) (u : Tok) (hl : IsD s l) (hu : A.units < cLine) : RcAt A s (.ref l) (.int x u) false := fun prog w E Q h => by
  obtain ⟨dd, es, n, sl, ho⟩ := hl.ex
  exact rc_eq_decline_or (k := false) ⟨_, ho, rfl⟩ rfl (by decide) F.sub_int_dict F.slot_dict_eq F.slot_int_eq_refl
    (fun _ hq => call_meets F.slot_dict_eq ⟨_, ho, rfl⟩ F.entry_dict_eq (F.args_dict_eq_2 _ _) (dk_eq_i l dd es n sl x u) ⟨ho, hq⟩)
    (fun _ hq => call_meets F.slot_int_eq_refl rfl F.entry_int_eq (F.args_int_eq_2 _ _) (kd_eq_i l dd es n sl x u) ⟨ho, hq⟩)
    (fun _ hq => wpAny_of_eq (rfl : isSame (.ref l) (.int x u) = pure false) hq) (.inr hu) h
theorem rc_eq_s (x : Str) (u : Tok) (hl : IsD s l) (hu : A.units < cLine) : RcAt A s (.ref l) (.str x u) false := fun prog w E Q h => by
  obtain ⟨dd, es, n, sl, ho⟩ := hl.ex
  exact rc_eq_decline_or (k := false) ⟨_, ho, rfl⟩ rfl (by decide) F.sub_str_dict F.slot_dict_eq F.slot_str_eq_refl
    (fun _ hq => call_meets F.slot_dict_eq ⟨_, ho, rfl⟩ F.entry_dict_eq (F.args_dict_eq_2 _ _) (dk_eq_s l dd es n sl x u) ⟨ho, hq⟩)
    (fun _ hq => call_meets F.slot_str_eq_refl rfl F.entry_str_eq (F.args_str_eq_2 _ _) (kd_eq_s l dd es n sl x u) ⟨ho, hq⟩)
    (fun _ hq => wpAny_of_eq (rfl : isSame (.ref l) (.str x u) = pure false) hq) (.inr hu) h
theorem rc_eq_l {b : Addr} {its : Array Value} (hl : IsD s l) (hb : s.heap.IsList b its) (hu : A.units < cLine) : RcAt A s (.ref l) (.ref b) false := fun prog w E Q h => by
  obtain ⟨dd, es, n, sl, ho⟩ := hl.ex
  obtain ⟨⟨c2, dd2, d2, sl2⟩, ho2, hc2, n2, hd2⟩ := id hb
  simp only at hc2 hd2
  subst hc2 hd2
  have hne : l ≠ b := fun e => by
    subst e
    rw [ho] at ho2
    have q := congrArg (fun o : Option Obj => o.map (·.cls)) ho2
    simp at q
  exact rc_eq_decline_or (k := false) ⟨_, ho, rfl⟩ ⟨_, ho2, rfl⟩ (by decide) F.sub_list_dict F.slot_dict_eq F.slot_list_eq_refl
    (fun _ hq => call_meets F.slot_dict_eq ⟨_, ho, rfl⟩ F.entry_dict_eq (F.args_dict_eq_2 _ _) (dk_eq_l l b dd es n sl dd2 its n2 sl2) ⟨ho, ho2, hq⟩)
    (fun _ hq => call_meets F.slot_list_eq_refl ⟨_, ho2, rfl⟩ F.entry_list_eq (F.args_list_eq_2 _ _) (kd_eq_l l b dd es n sl dd2 its n2 sl2) ⟨ho, ho2, hq⟩)
    (fun _ hq => wpAny_isSame_ref_other hne ho ho2 (by simp) hq) (.inr hu) h
theorem rc_eq_t {b : Addr} {its : Array Value} (hl : IsD s l) (hb : s.heap.IsTuple b its) (hu : A.units < cLine) : RcAt A s (.ref l) (.ref b) false := fun prog w E Q h => by
  obtain ⟨dd, es, n, sl, ho⟩ := hl.ex
  obtain ⟨⟨c2, dd2, d2, sl2⟩, ho2, hc2, n2, hd2⟩ := id hb
  simp only at hc2 hd2
  subst hc2 hd2
  have hne : l ≠ b := fun e => by
    subst e
    rw [ho] at ho2
    have q := congrArg (fun o : Option Obj => o.map (·.cls)) ho2
    simp at q
  exact rc_eq_decline_or (k := false) ⟨_, ho, rfl⟩ ⟨_, ho2, rfl⟩ (by decide) F.sub_tuple_dict F.slot_dict_eq F.slot_tuple_eq_refl
    (fun _ hq => call_meets F.slot_dict_eq ⟨_, ho, rfl⟩ F.entry_dict_eq (F.args_dict_eq_2 _ _) (dk_eq_t l b dd es n sl dd2 its n2 sl2) ⟨ho, ho2, hq⟩)
    (fun _ hq => call_meets F.slot_tuple_eq_refl ⟨_, ho2, rfl⟩ F.entry_tuple_eq (F.args_tuple_eq_2 _ _) (kd_eq_t l b dd es n sl dd2 its n2 sl2) ⟨ho, ho2, hq⟩)
    (fun _ hq => wpAny_isSame_ref_other hne ho ho2 (by simp) hq) (.inr hu) h
theorem rc_ne_n (hl : IsD s l) (hu : A.units < cLine) : RcNeAt A s (.ref l) (.none) true := fun prog w E Q h => by
  obtain ⟨dd, es, n, sl, ho⟩ := hl.ex
  exact rc_ne_decline_or (k := false) ⟨_, ho, rfl⟩ rfl (by decide) F.sub_NoneType_dict F.slot_dict_ne F.slot_NoneType_ne_refl
    (fun _ hq => call_meets F.slot_dict_ne ⟨_, ho, rfl⟩ F.entry_dict_ne (F.args_dict_ne_2 _ _) (dk_ne_n l dd es n sl ) ⟨ho, hq⟩)
    (fun _ hq => call_meets F.slot_NoneType_ne_refl rfl F.entry_NoneType_ne (F.args_NoneType_ne_2 _ _) (kd_ne_n l dd es n sl ) ⟨ho, hq⟩)
    (fun _ hq => wpAny_of_eq (rfl : isSame (.ref l) (.none) = pure false) hq) (.inr hu) h
theorem rc_ne_b (x : Bool) (hl : IsD s l) (hu : A.units < cLine) : RcNeAt A s (.ref l) (.bool x) true := fun prog w E Q h => by
  obtain ⟨dd, es, n, sl, ho⟩ := hl.ex
  exact rc_ne_decline_or (k := false) ⟨_, ho, rfl⟩ rfl (by decide) F.sub_bool_dict F.slot_dict_ne F.slot_bool_ne_refl
    (fun _ hq => call_meets F.slot_dict_ne ⟨_, ho, rfl⟩ F.entry_dict_ne (F.args_dict_ne_2 _ _) (dk_ne_b l dd es n sl x) ⟨ho, hq⟩)
    (fun _ hq => call_meets F.slot_bool_ne_refl rfl F.entry_int_ne (F.args_int_ne_2 _ _) (kd_ne_b l dd es n sl x) ⟨ho, hq⟩)
    (fun _ hq => wpAny_of_eq (rfl : isSame (.ref l) (.bool x) = pure false) hq) (.inr hu) h
theorem rc_ne_i (x : Int) (u : Tok) (hl : IsD s l) (hu : A.units < cLine) : RcNeAt A s (.ref l) (.int x u) true := fun prog w E Q h => by
  obtain ⟨dd, es, n, sl, ho⟩ := hl.ex
  exact rc_ne_decline_or (k := false) ⟨_, ho, rfl⟩ rfl (by decide) F.sub_int_dict F.slot_dict_ne F.slot_int_ne_refl
    (fun _ hq => call_meets F.slot_dict_ne ⟨_, ho, rfl⟩ F.entry_dict_ne (F.args_dict_ne_2 _ _) (dk_ne_i l dd es n sl x u) ⟨ho, hq⟩)
    (fun _ hq => call_meets F.slot_int_ne_refl rfl F.entry_int_ne (F.args_int_ne_2 _ _) (kd_ne_i l dd es n sl x u) ⟨ho, hq⟩)
    (fun _ hq => wpAny_of_eq (rfl : isSame (.ref l) (.int x u) = pure false) hq) (.inr hu) h
theorem rc_ne_s (x : Str) (u : Tok) (hl : IsD s l) (hu : A.units < cLine) : RcNeAt A s (.ref l) (.str x u) true := fun prog w E Q h => by
  obtain ⟨dd, es, n, sl, ho⟩ := hl.ex
  exact rc_ne_decline_or (k := false) ⟨_, ho, rfl⟩ rfl (by decide) F.sub_str_dict F.slot_dict_ne F.slot_str_ne_refl
    (fun _ hq => call_meets F.slot_dict_ne ⟨_, ho, rfl⟩ F.entry_dict_ne (F.args_dict_ne_2 _ _) (dk_ne_s l dd es n sl x u) ⟨ho, hq⟩)
    (fun _ hq => call_meets F.slot_str_ne_refl rfl F.entry_str_ne (F.args_str_ne_2 _ _) (kd_ne_s l dd es n sl x u) ⟨ho, hq⟩)
    (fun _ hq => wpAny_of_eq (rfl : isSame (.ref l) (.str x u) = pure false) hq) (.inr hu) h
theorem rc_ne_l {b : Addr} {its : Array Value} (hl : IsD s l) (hb : s.heap.IsList b its) (hu : A.units < cLine) : RcNeAt A s (.ref l) (.ref b) true := fun prog w E Q h => by
  obtain ⟨dd, es, n, sl, ho⟩ := hl.ex
  obtain ⟨⟨c2, dd2, d2, sl2⟩, ho2, hc2, n2, hd2⟩ := id hb
  simp only at hc2 hd2
  subst hc2 hd2
  have hne : l ≠ b := fun e => by
    subst e
    rw [ho] at ho2
    have q := congrArg (fun o : Option Obj => o.map (·.cls)) ho2
    simp at q
  exact rc_ne_decline_or (k := false) ⟨_, ho, rfl⟩ ⟨_, ho2, rfl⟩ (by decide) F.sub_list_dict F.slot_dict_ne F.slot_list_ne_refl
    (fun _ hq => call_meets F.slot_dict_ne ⟨_, ho, rfl⟩ F.entry_dict_ne (F.args_dict_ne_2 _ _) (dk_ne_l l b dd es n sl dd2 its n2 sl2) ⟨ho, ho2, hq⟩)
    (fun _ hq => call_meets F.slot_list_ne_refl ⟨_, ho2, rfl⟩ F.entry_list_ne (F.args_list_ne_2 _ _) (kd_ne_l l b dd es n sl dd2 its n2 sl2) ⟨ho, ho2, hq⟩)
    (fun _ hq => wpAny_isSame_ref_other hne ho ho2 (by simp) hq) (.inr hu) h
theorem rc_ne_t {b : Addr} {its : Array Value} (hl : IsD s l) (hb : s.heap.IsTuple b its) (hu : A.units < cLine) : RcNeAt A s (.ref l) (.ref b) true := fun prog w E Q h => by
  obtain ⟨dd, es, n, sl, ho⟩ := hl.ex
  obtain ⟨⟨c2, dd2, d2, sl2⟩, ho2, hc2, n2, hd2⟩ := id hb
  simp only at hc2 hd2
  subst hc2 hd2
  have hne : l ≠ b := fun e => by
    subst e
    rw [ho] at ho2
    have q := congrArg (fun o : Option Obj => o.map (·.cls)) ho2
    simp at q
  exact rc_ne_decline_or (k := false) ⟨_, ho, rfl⟩ ⟨_, ho2, rfl⟩ (by decide) F.sub_tuple_dict F.slot_dict_ne F.slot_tuple_ne_refl
    (fun _ hq => call_meets F.slot_dict_ne ⟨_, ho, rfl⟩ F.entry_dict_ne (F.args_dict_ne_2 _ _) (dk_ne_t l b dd es n sl dd2 its n2 sl2) ⟨ho, ho2, hq⟩)
    (fun _ hq => call_meets F.slot_tuple_ne_refl ⟨_, ho2, rfl⟩ F.entry_tuple_ne (F.args_tuple_ne_2 _ _) (kd_ne_t l b dd es n sl dd2 its n2 sl2) ⟨ho, ho2, hq⟩)
    (fun _ hq => wpAny_isSame_ref_other hne ho ho2 (by simp) hq) (.inr hu) h
end
end Tw

set_option Elab.async false
set_option linter.all false
set_option maxRecDepth 100000
set_option maxHeartbeats 4000000
namespace Tw
open PySem PySem.Spec PyProof.Rows
open PySem.SeqAt PySem.AutoSeq1
theorem eq_of_rc {A : Around} {s : Shared} {l : Addr} {b : Value} {k : Bool} (hne : Value.ref l ≠ b) (h : RcAt A s (.ref l) b k) : EqAt A s (.ref l) b k := fun prog w E Q hq => by
  unfold eqBool
  refine wpAny_holding (wpAny_ite_split (fun z => absurd (eq_of_beq z) hne) fun _ => ?_)
  cases b <;> exact wpAny_bind (h prog w E _ (wpAny_truthy_bool hq))
theorem dep_t (ys : List PyData) : (PyData.tuple ys).depth = PyData.depthAll ys + 1 := rfl
theorem dep_l (ys : List PyData) : (PyData.list ys).depth = PyData.depthAll ys + 1 := rfl
theorem dep_c (y : PyData) (ys : List PyData) : PyData.depthAll (y :: ys) = max y.depth (PyData.depthAll ys) := rfl
theorem un_in (A : Around) : A.in1.units = A.units + 1 := rfl
mutual
/-- ==, where what stands right has no dict within -/
theorem eq_half : ∀ (db da : PyData) (A : Around) (s : Shared) (a b : Value) (p q : List Addr), Reads s.heap a da p → Reads s.heap b db q → db.plain = true → A.units + db.depth < cLine → EqAt A s a b (PyData.eqv da db)
  | db, da, A, s, a, b, p, q, ra, rb, hb, hu => by
    have h0 : A.units < cLine := by omega
    by_cases hp : da.plain = true
    · exact eqAt_plain da db A s a b p q ra rb hp hb (by omega)
    · cases ra with
      | none => exact absurd rfl hp
      | bool => exact absurd rfl hp
      | int => exact absurd rfl hp
      | str => exact absurd rfl hp
      | dict h1 h2 h3 h4 h5 =>
        have D := IsD.of h1 h2 h3
        cases rb with
        | none => exact eq_of_rc (fun z => nomatch z) (rc_eq_n D h0)
        | bool x => exact eq_of_rc (fun z => nomatch z) (rc_eq_b x D h0)
        | int x u => exact eq_of_rc (fun z => nomatch z) (rc_eq_i x u D h0)
        | str x u => exact eq_of_rc (fun z => nomatch z) (rc_eq_s x u D h0)
        | list k1 k2 k3 k4 =>
          refine eq_of_rc (fun z => ?_) (rc_eq_l D ⟨_, k1, k2, _, k3⟩ h0)
          cases z
          rw [h1] at k1
          cases k1
          rw [h2] at k2
          exact absurd k2 (by simp)
        | tuple k1 k2 k3 k4 =>
          refine eq_of_rc (fun z => ?_) (rc_eq_t D ⟨_, k1, k2, _, k3⟩ h0)
          cases z
          rw [h1] at k1
          cases k1
          rw [h2] at k2
          exact absurd k2 (by simp)
        | dict => exact nomatch hb
      | @list l o vs n xs as1 h1 h2 h3 h4 =>
        have hl : s.heap.IsList l vs := ⟨_, h1, h2, _, h3⟩
        cases rb with
        | none => exact EqAt.list_none hl h0
        | bool x => exact EqAt.list_bool x hl h0
        | int x u => exact EqAt.list_int x u hl h0
        | str x u => exact EqAt.list_str x u hl h0
        | tuple k1 k2 k3 k4 => exact EqAt.list_tuple hl ⟨_, k1, k2, _, k3⟩ h0
        | dict => exact nomatch hb
        | @list m o2 ws n2 ys bs1 k1 k2 k3 k4 =>
          have hm : s.heap.IsList m ws := ⟨_, k1, k2, _, k3⟩
          have n1 : vs.size = xs.length := by simpa using ReadsAll.length _ _ _ h4
          have n2 : ws.size = ys.length := by simpa using ReadsAll.length _ _ _ k4
          have hd := dep_l ys
          refine EqAt.of_refs (fun z => hp ?_) ?_
          · subst z
            rw [plain_unique (.list ys) (.list xs) _ _ _ hb (.list k1 k2 k3 k4) (.list h1 h2 h3 h4)] at hb
            exact hb
          · show RcAt A s (.ref l) (.ref m) (PyData.eqvAll xs ys)
            by_cases hz : vs.size = ws.size
            · rw [← eqvAll_same_length (by omega : xs.length = ys.length), ← n1]
              refine RcAt.lists hl hm hz h0 fun j j1 j2 => ?_
              have := eq_halfAll ys xs A.in1 s vs.toList ws.toList _ _ h4 k4 hb (by rw [un_in]; omega) j (by simpa using j1) (by simpa using j2)
              simpa using this
            · rw [eqvAll_other_length (by omega : xs.length ≠ ys.length)]
              exact RcAt.lists_lengths hl hm (by simpa using hz) h0
      | @tuple l o vs n xs as1 h1 h2 h3 h4 =>
        have hl : s.heap.IsTuple l vs := ⟨_, h1, h2, _, h3⟩
        cases rb with
        | none => exact EqAt.tuple_none hl h0
        | bool x => exact EqAt.tuple_bool x hl h0
        | int x u => exact EqAt.tuple_int x u hl h0
        | str x u => exact EqAt.tuple_str x u hl h0
        | list k1 k2 k3 k4 => exact EqAt.tuple_list hl ⟨_, k1, k2, _, k3⟩ h0
        | dict => exact nomatch hb
        | @tuple m o2 ws n2 ys bs1 k1 k2 k3 k4 =>
          have hm : s.heap.IsTuple m ws := ⟨_, k1, k2, _, k3⟩
          have n1 : vs.size = xs.length := by simpa using ReadsAll.length _ _ _ h4
          have n2 : ws.size = ys.length := by simpa using ReadsAll.length _ _ _ k4
          have hd := dep_t ys
          refine EqAt.of_refs (fun z => hp ?_) ?_
          · subst z
            rw [plain_unique (.tuple ys) (.tuple xs) _ _ _ hb (.tuple k1 k2 k3 k4) (.tuple h1 h2 h3 h4)] at hb
            exact hb
          · show RcAt A s (.ref l) (.ref m) (PyData.eqvAll xs ys)
            rw [← eqvAll_eq xs ys, ← n1, ← n2]
            refine RcAt.tuples hl hm h0 fun j j1 j2 => ?_
            have := eq_halfAll ys xs A.in1 s vs.toList ws.toList _ _ h4 k4 hb (by rw [un_in]; omega) j (by simpa using j1) (by simpa using j2)
            simpa using this
theorem eq_halfAll : ∀ (ys xs : List PyData) (A : Around) (s : Shared) (vs ws : List Value) (p q : List Addr), ReadsAll s.heap vs xs p → ReadsAll s.heap ws ys q → PyData.plainAll ys = true → A.units + PyData.depthAll ys < cLine →
    ∀ j (h1 : j < vs.length) (h2 : j < ws.length), EqAt A s vs[j] ws[j] (pairEq xs ys j)
  | [], xs, A, s, vs, ws, p, q, ra, rb, hb, hu => fun j h1 h2 => by
    cases rb
    exact absurd h2 (Nat.not_lt_zero _)
  | y :: ys, xs, A, s, vs, ws, p, q, ra, rb, hb, hu => fun j h1 h2 => by
    cases rb with
    | cons r' rs' =>
      cases ra with
      | nil => exact absurd h1 (Nat.not_lt_zero _)
      | cons r rs =>
        have hb' : y.plain = true ∧ PyData.plainAll ys = true := by simpa [PyData.plainAll] using hb
        have hd := dep_c y ys
        cases j with
        | zero => exact eq_half y _ A s _ _ _ _ r r' hb'.1 (by omega)
        | succ j => exact eq_halfAll ys _ A s _ _ _ _ rs rs' hb'.2 (by omega) j (Nat.lt_of_succ_lt_succ h1) (Nat.lt_of_succ_lt_succ h2)
end
/-- == at the top -/
theorem rc_half {db da : PyData} {A : Around} {s : Shared} {a b : Value} {p q : List Addr} (ra : Reads s.heap a da p) (rb : Reads s.heap b db q) (hb : db.plain = true) (hu : A.units + db.depth < cLine) : RcAt A s a b (PyData.eqv da db) := by
  have h0 : A.units < cLine := by omega
  by_cases hp : da.plain = true
  · exact rcAt_plain ra rb hp hb (by omega)
  · cases ra with
    | none => exact absurd rfl hp
    | bool => exact absurd rfl hp
    | int => exact absurd rfl hp
    | str => exact absurd rfl hp
    | dict h1 h2 h3 h4 h5 =>
      have D := IsD.of h1 h2 h3
      cases rb with
      | none => exact rc_eq_n D h0
      | bool x => exact rc_eq_b x D h0
      | int x u => exact rc_eq_i x u D h0
      | str x u => exact rc_eq_s x u D h0
      | list k1 k2 k3 k4 => exact rc_eq_l D ⟨_, k1, k2, _, k3⟩ h0
      | tuple k1 k2 k3 k4 => exact rc_eq_t D ⟨_, k1, k2, _, k3⟩ h0
      | dict => exact nomatch hb
    | @list l o vs n xs as1 h1 h2 h3 h4 =>
      have hl : s.heap.IsList l vs := ⟨_, h1, h2, _, h3⟩
      cases rb with
      | none => exact RcAt.list_none hl h0
      | bool x => exact RcAt.list_bool x hl h0
      | int x u => exact RcAt.list_int x u hl h0
      | str x u => exact RcAt.list_str x u hl h0
      | tuple k1 k2 k3 k4 => exact RcAt.list_tuple hl ⟨_, k1, k2, _, k3⟩ h0
      | dict => exact nomatch hb
      | @list m o2 ws n2 ys bs1 k1 k2 k3 k4 =>
        have hm : s.heap.IsList m ws := ⟨_, k1, k2, _, k3⟩
        have n1 : vs.size = xs.length := by simpa using ReadsAll.length _ _ _ h4
        have n2 : ws.size = ys.length := by simpa using ReadsAll.length _ _ _ k4
        have hd := dep_l ys
        show RcAt A s (.ref l) (.ref m) (PyData.eqvAll xs ys)
        by_cases hz : vs.size = ws.size
        · rw [← eqvAll_same_length (by omega : xs.length = ys.length), ← n1]
          refine RcAt.lists hl hm hz h0 fun j j1 j2 => ?_
          have := eq_halfAll ys xs A.in1 s vs.toList ws.toList _ _ h4 k4 hb (by rw [un_in]; omega) j (by simpa using j1) (by simpa using j2)
          simpa using this
        · rw [eqvAll_other_length (by omega : xs.length ≠ ys.length)]
          exact RcAt.lists_lengths hl hm (by simpa using hz) h0
    | @tuple l o vs n xs as1 h1 h2 h3 h4 =>
      have hl : s.heap.IsTuple l vs := ⟨_, h1, h2, _, h3⟩
      cases rb with
      | none => exact RcAt.tuple_none hl h0
      | bool x => exact RcAt.tuple_bool x hl h0
      | int x u => exact RcAt.tuple_int x u hl h0
      | str x u => exact RcAt.tuple_str x u hl h0
      | list k1 k2 k3 k4 => exact RcAt.tuple_list hl ⟨_, k1, k2, _, k3⟩ h0
      | dict => exact nomatch hb
      | @tuple m o2 ws n2 ys bs1 k1 k2 k3 k4 =>
        have hm : s.heap.IsTuple m ws := ⟨_, k1, k2, _, k3⟩
        have n1 : vs.size = xs.length := by simpa using ReadsAll.length _ _ _ h4
        have n2 : ws.size = ys.length := by simpa using ReadsAll.length _ _ _ k4
        have hd := dep_t ys
        show RcAt A s (.ref l) (.ref m) (PyData.eqvAll xs ys)
        rw [← eqvAll_eq xs ys, ← n1, ← n2]
        refine RcAt.tuples hl hm h0 fun j j1 j2 => ?_
        have := eq_halfAll ys xs A.in1 s vs.toList ws.toList _ _ h4 k4 hb (by rw [un_in]; omega) j (by simpa using j1) (by simpa using j2)
        simpa using this
def atomE : PyData → Bool
  | .none => true
  | .bool _ => true
  | .int _ => true
  | .str _ => true
  | _ => false
/-- != of whatever stands left and an atom -/
theorem rn_half {db da : PyData} {A : Around} {s : Shared} {a b : Value} {p q : List Addr} (ra : Reads s.heap a da p) (rb : Reads s.heap b db q) (hb : atomE db = true) (h0 : A.units + 1 < cLine) : RcNeAt A s a b (!PyData.eqv da db) := by
  have h1 : A.units < cLine := by omega
  have hpl : db.plain = true := by cases db <;> first | rfl | cases hb
  have hdp : db.depth = 0 := by cases db <;> first | rfl | cases hb
  by_cases hp : da.plain = true
  · exact rcNe_plain ra rb hp hpl (by omega)
  · cases ra with
    | none => exact absurd rfl hp
    | bool => exact absurd rfl hp
    | int => exact absurd rfl hp
    | str => exact absurd rfl hp
    | dict g1 g2 g3 g4 g5 =>
      have D := IsD.of g1 g2 g3
      cases rb with
      | none => exact rc_ne_n D h1
      | bool x => exact rc_ne_b x D h1
      | int x u => exact rc_ne_i x u D h1
      | str x u => exact rc_ne_s x u D h1
      | list => cases hb
      | tuple => cases hb
      | dict => cases hb
    | @list l o vs n xs as1 g1 g2 g3 g4 =>
      have hl : s.heap.IsList l vs := ⟨_, g1, g2, _, g3⟩
      cases rb with
      | none => exact RcNeAt.list_none hl h1
      | bool x => exact RcNeAt.list_bool x hl h1
      | int x u => exact RcNeAt.list_int x u hl h1
      | str x u => exact RcNeAt.list_str x u hl h1
      | list => cases hb
      | tuple => cases hb
      | dict => cases hb
    | @tuple l o vs n xs as1 g1 g2 g3 g4 =>
      have hl : s.heap.IsTuple l vs := ⟨_, g1, g2, _, g3⟩
      cases rb with
      | none => exact RcNeAt.tuple_none hl h1
      | bool x => exact RcNeAt.tuple_bool x hl h1
      | int x u => exact RcNeAt.tuple_int x u hl h1
      | str x u => exact RcNeAt.tuple_str x u hl h1
      | list => cases hb
      | tuple => cases hb
      | dict => cases hb
end Tw

set_option Elab.async false
set_option linter.all false
set_option maxRecDepth 100000
set_option maxHeartbeats 2000000
namespace Tw
open PySem PySem.Spec PyProof.Rows L2
open Evl (Ex)
section
variable {X : Cx} {pins : List (Addr × Obj)} {σ : L2.St} {H : Hp} {s : Shared}
theorem lstR (I : Inv X pins σ H s) {l : Addr} {xs : List V} (hH : RL X.K H l xs) : xs.length ≤ sizeLine ∧ ∃ (its : List Value) (n : Nat), Vals xs its ∧ xs.length = its.length ∧
    s.heap.get? l = some { cls := .type "list", data := .seq its.toArray n } := by
  rcases hH with hH | ⟨its, n, e, r, z⟩
  · have o := hH.ok I.hok
    obtain ⟨z, its, n, r, e⟩ := o
    exact ⟨z, its, n, r, r.length, e⟩
  · exact ⟨z, its, n, r, r.length, I.kIn _ _ e⟩
end
/-! ### numbers -/
def addI : PyData → PyData → Option PyData
  | .int i, .int j => some (.int (i + j))
  | _, _ => none
def subD : PyData → PyData → Option PyData
  | .int i, .int j => some (.int (i - j))
  | _, _ => none
def mulI : PyData → PyData → Option PyData
  | .int i, .int j => if i.natAbs.log2 + j.natAbs.log2 < 1000000 then some (.int (i * j)) else none
  | _, _ => none
def fdivD : PyData → PyData → Option PyData
  | .int i, .int j => if 0 < j ∧ j.natAbs.log2 < 9000 then some (.int (i / j)) else none
  | _, _ => none
def modD : PyData → PyData → Option PyData
  | .int i, .int j => if 0 < j then some (.int (i % j)) else none
  | _, _ => none
def powD : PyData → PyData → Option PyData
  | .int i, .int j => if 0 ≤ j ∧ (Builtin.Int.intBits i : Int) * j ≤ 2 ^ 27 then some (.int (i ^ j.toNat)) else none
  | _, _ => none
def xorD : PyData → PyData → Option PyData
  | .int i, .int j => some (.int (Builtin.bitXor i j))
  | _, _ => none
def negD : PyData → Option PyData
  | .int i => some (.int (-i))
  | _ => none
theorem opD_I {K : PySem.W.Frag} {C : Int → Int → Prop} {h : Int → Int → PyData} {v : Int → Int → V} (hv : ∀ i j G, Dt K G (v i j) (h i j)) {g : PyData → PyData → Option PyData}
    (hg : ∀ d e z, g d e = some z → ∃ i j, d = .int i ∧ e = .int j ∧ C i j ∧ z = h i j) : OpD K (rI C v) g := fun G H x y d e z Q ex hd he hz k => by
  obtain ⟨i, j, rfl, rfl, hc, rfl⟩ := hg d e z hz
  exact ⟨i, j, dt_int hd, dt_int he, hc, k _ G H .refl ex (hv i j G)⟩
theorem opD_I0 {K : PySem.W.Frag} {h : Int → Int → PyData} {v : Int → Int → V} (hv : ∀ i j G, Dt K G (v i j) (h i j)) {g : PyData → PyData → Option PyData}
    (hg : ∀ d e z, g d e = some z → ∃ i j, d = .int i ∧ e = .int j ∧ z = h i j) : OpD K (rI0 v) g := fun G H x y d e z Q ex hd he hz k => by
  obtain ⟨i, j, rfl, rfl, rfl⟩ := hg d e z hz
  exact ⟨i, j, dt_int hd, dt_int he, k _ G H .refl ex (hv i j G)⟩
theorem ite_p {α : Type} {c : Prop} [Decidable c] {x y : α} (h : (if c then some x else none) = some y) : c ∧ y = x := by
  by_cases q : c
  · rw [if_pos q] at h; exact ⟨q, (Option.some.inj h).symm⟩
  · rw [if_neg q] at h; cases h
section
variable {X : Cx} {K : PySem.W.Frag}
theorem op_powW : OpR X (binaryOp .Pow) (rI (fun i j => 0 ≤ j ∧ (Builtin.Int.intBits i : Int) * j ≤ 2 ^ 27) fun i j => .int (i ^ j.toNat)) := opI fun _ _ _ _ _ _ _ hc q => pow_int hc.1 hc.2 q
theorem d_addI : OpD K (rI0 fun i j => .int (i + j)) addI := opD_I0 (h := fun i j => .int (i + j)) (fun _ _ _ => .ii _) fun d e z h => by
  unfold addI at h
  split at h
  · exact ⟨_, _, rfl, rfl, (Option.some.inj h).symm⟩
  · cases h
theorem d_sub : OpD K (rI0 fun i j => .int (i - j)) subD := opD_I0 (h := fun i j => .int (i - j)) (fun _ _ _ => .ii _) fun d e z h => by
  unfold subD at h
  split at h
  · exact ⟨_, _, rfl, rfl, (Option.some.inj h).symm⟩
  · cases h
theorem d_xor : OpD K (rI0 fun i j => .int (Builtin.bitXor i j)) xorD := opD_I0 (h := fun i j => .int (Builtin.bitXor i j)) (fun _ _ _ => .ii _) fun d e z h => by
  unfold xorD at h
  split at h
  · exact ⟨_, _, rfl, rfl, (Option.some.inj h).symm⟩
  · cases h
theorem d_mulI : OpD K (rI CMulW fun i j => .int (i * j)) mulI := opD_I (h := fun i j => .int (i * j)) (fun _ _ _ => .ii _) fun d e z h => by
  unfold mulI at h
  split at h
  · obtain ⟨h1, h2⟩ := ite_p h
    exact ⟨_, _, rfl, rfl, h1, h2⟩
  · cases h
theorem d_fdiv : OpD K (rI CDivW fun i j => .int (i / j)) fdivD := opD_I (h := fun i j => .int (i / j)) (fun _ _ _ => .ii _) fun d e z h => by
  unfold fdivD at h
  split at h
  · obtain ⟨h1, h2⟩ := ite_p h
    exact ⟨_, _, rfl, rfl, h1, h2⟩
  · cases h
theorem d_mod : OpD K (rI (fun _ j => 0 < j) fun i j => .int (i % j)) modD := opD_I (h := fun i j => .int (i % j)) (fun _ _ _ => .ii _) fun d e z h => by
  unfold modD at h
  split at h
  · obtain ⟨h1, h2⟩ := ite_p h
    exact ⟨_, _, rfl, rfl, h1, h2⟩
  · cases h
theorem d_pow : OpD K (rI (fun i j => 0 ≤ j ∧ (Builtin.Int.intBits i : Int) * j ≤ 2 ^ 27) fun i j => .int (i ^ j.toNat)) powD := opD_I (h := fun i j => .int (i ^ j.toNat)) (fun _ _ _ => .ii _) fun d e z h => by
  unfold powD at h
  split at h
  · obtain ⟨h1, h2⟩ := ite_p h
    exact ⟨_, _, rfl, rfl, h1, h2⟩
  · cases h
theorem d_neg : UnD K (rU fun i => .int (-i)) negD := fun G H x d z Q ex hd hz k => by
  unfold negD at hz
  split at hz
  · cases hz
    exact ⟨_, dt_int hd, k _ G H .refl ex (.ii _)⟩
  · cases hz
/-! ### comparisons of numbers -/
def ltI : PyData → PyData → Option PyData
  | .int i, .int j => some (.bool (decide (i < j)))
  | _, _ => none
/-- a truth as a number -/
def bI (b : Bool) : Int := if b = true then 1 else 0
def leI : PyData → PyData → Option PyData
  | .int i, .int j => some (.bool (decide (i ≤ j)))
  | .bool i, .int j => some (.bool (decide (bI i ≤ j)))
  | _, _ => none
def gtI : PyData → PyData → Option PyData
  | .int i, .int j => some (.bool (decide (j < i)))
  | .bool i, .int j => some (.bool (decide (j < bI i)))
  | _, _ => none
def geI : PyData → PyData → Option PyData
  | .int i, .int j => some (.bool (decide (j ≤ i)))
  | .bool i, .int j => some (.bool (decide (j ≤ bI i)))
  | _, _ => none
theorem d_ltI : OpD K (rI0 fun i j => .bl (decide (i < j))) ltI := opD_I0 (h := fun i j => .bool (decide (i < j))) (fun _ _ _ => .bb _) fun d e z h => by
  unfold ltI at h
  split at h
  · exact ⟨_, _, rfl, rfl, (Option.some.inj h).symm⟩
  · cases h
def r_leI : R2 := fun x y H Q => rI0 (fun i j => .bl (decide (i ≤ j))) x y H Q ∨ ∃ b j, x = .bl b ∧ y = .int j ∧ Q (.bl (decide (bI b ≤ j))) H
theorem gv_leI (b : Bool) (i : Int) (u : Tok) : Gives (Builtin.«int.__le__» ⟨[.bool b, .int i u], []⟩) (.val (.bool (decide (bI b ≤ i)))) := by cases b <;> exact .of_eq rfl
theorem op_leI : OpR X (compareOp .LtE) r_leI := fun pins s σ H x y v u Q I rx ry h => by
  rcases h with h | ⟨b, j, rfl, rfl, q⟩
  · exact op_le pins s σ H x y v u Q I rx ry h
  · obtain rfl : v = Value.bool b := rx
    obtain ⟨t, rfl⟩ := ry
    refine SeqAt.rc_left_or (op := .LtE) (Ta := "bool") (Tb := "int") rfl rfl (by decide) F.sub_int_bool F.slot_bool_le (call_meets F.slot_bool_le rfl F.entry_int_le (F.args_int_le_2 _ _) (gv_leI b j t).meets ?_) (.inl rfl)
    exact ⟨(fun z => nomatch z), .bl _, H, I, rfl, q⟩
theorem d_leI : OpD K r_leI leI := fun G H x y d e z Q ex hd he hz k => by
  unfold leI at hz
  split at hz
  · cases hz
    exact .inl ⟨_, _, dt_int hd, dt_int he, k _ G H .refl ex (.bb _)⟩
  · cases hz
    exact .inr ⟨_, _, dt_bool hd, dt_int he, k _ G H .refl ex (.bb _)⟩
  · cases hz
def r_gtI : R2 := fun x y H Q => rI0 (fun i j => .bl (decide (j < i))) x y H Q ∨ ∃ b j, x = .bl b ∧ y = .int j ∧ Q (.bl (decide (j < bI b))) H
theorem gv_gtI (b : Bool) (i : Int) (u : Tok) : Gives (Builtin.«int.__gt__» ⟨[.bool b, .int i u], []⟩) (.val (.bool (decide (i < bI b)))) := by cases b <;> exact .of_eq rfl
theorem op_gtI : OpR X (compareOp .Gt) r_gtI := fun pins s σ H x y v u Q I rx ry h => by
  rcases h with h | ⟨b, j, rfl, rfl, q⟩
  · exact op_gt pins s σ H x y v u Q I rx ry h
  · obtain rfl : v = Value.bool b := rx
    obtain ⟨t, rfl⟩ := ry
    refine SeqAt.rc_left_or (op := .Gt) (Ta := "bool") (Tb := "int") rfl rfl (by decide) F.sub_int_bool F.slot_bool_gt (call_meets F.slot_bool_gt rfl F.entry_int_gt (F.args_int_gt_2 _ _) (gv_gtI b j t).meets ?_) (.inl rfl)
    exact ⟨(fun z => nomatch z), .bl _, H, I, rfl, q⟩
theorem d_gtI : OpD K r_gtI gtI := fun G H x y d e z Q ex hd he hz k => by
  unfold gtI at hz
  split at hz
  · cases hz
    exact .inl ⟨_, _, dt_int hd, dt_int he, k _ G H .refl ex (.bb _)⟩
  · cases hz
    exact .inr ⟨_, _, dt_bool hd, dt_int he, k _ G H .refl ex (.bb _)⟩
  · cases hz
/-- < where a truth stands for a number -/
def rLtB : R2 := fun x y H Q => (∃ b j, x = .bl b ∧ y = .int j ∧ Q (.bl (decide (bI b < j))) H) ∨ (∃ i b, x = .int i ∧ y = .bl b ∧ Q (.bl (decide (i < bI b))) H) ∨ ∃ a b, x = .bl a ∧ y = .bl b ∧ Q (.bl (decide (bI a < bI b))) H
theorem gv_ltI (b : Bool) (i : Int) (u : Tok) : Gives (Builtin.«int.__lt__» ⟨[.bool b, .int i u], []⟩) (.val (.bool (decide (bI b < i)))) := by cases b <;> exact .of_eq rfl
theorem gv_ltB (a b : Bool) : Gives (Builtin.«int.__lt__» ⟨[.bool a, .bool b], []⟩) (.val (.bool (decide (bI a < bI b)))) := by cases a <;> cases b <;> exact .of_eq rfl
theorem op_ltB : OpR X (compareOp .Lt) rLtB := fun pins s σ H x y v u Q I rx ry h => by
  rcases h with ⟨b, j, rfl, rfl, q⟩ | ⟨i, b, rfl, rfl, q⟩ | ⟨a, b, rfl, rfl, q⟩
  · obtain rfl : v = Value.bool b := rx
    obtain ⟨t, rfl⟩ := ry
    refine SeqAt.rc_left_or (op := .Lt) (Ta := "bool") (Tb := "int") rfl rfl (by decide) F.sub_int_bool F.slot_bool_lt (call_meets F.slot_bool_lt rfl F.entry_int_lt (F.args_int_lt_2 _ _) (gv_ltI b j t).meets ?_) (.inl rfl)
    exact ⟨(fun z => nomatch z), .bl _, H, I, rfl, q⟩
  · obtain ⟨t, rfl⟩ := rx
    obtain rfl : u = Value.bool b := ry
    refine SeqAt.rc_sub_first_or (op := .Lt) (Ta := "int") (Tb := "bool") rfl rfl (by decide) F.sub_bool_int F.slot_bool_gt (call_meets F.slot_bool_gt rfl F.entry_int_gt (F.args_int_gt_2 _ _) (gv_gtI b i t).meets ?_) (.inl rfl)
    exact ⟨(fun z => nomatch z), .bl _, H, I, rfl, q⟩
  · obtain rfl : v = Value.bool a := rx
    obtain rfl : u = Value.bool b := ry
    exact richCompare_gives (op := .Lt) (T := "bool") rfl rfl F.slot_bool_lt F.entry_int_lt (F.args_int_lt_2 _ _) (gv_ltB a b) (fun x => nomatch x) ⟨.bl _, H, I, rfl, q⟩
def ltB : PyData → PyData → Option PyData
  | .bool b, .int j => some (.bool (decide (bI b < j)))
  | .int i, .bool b => some (.bool (decide (i < bI b)))
  | .bool a, .bool b => some (.bool (decide (bI a < bI b)))
  | _, _ => none
theorem d_ltB : OpD K rLtB ltB := fun G H x y d e z Q ex hd he hz k => by
  unfold ltB at hz
  split at hz
  · cases hz
    exact .inl ⟨_, _, dt_bool hd, dt_int he, k _ G H .refl ex (.bb _)⟩
  · cases hz
    exact .inr (.inl ⟨_, _, dt_int hd, dt_bool he, k _ G H .refl ex (.bb _)⟩)
  · cases hz
    exact .inr (.inr ⟨_, _, dt_bool hd, dt_bool he, k _ G H .refl ex (.bb _)⟩)
  · cases hz
def r_geI : R2 := fun x y H Q => rI0 (fun i j => .bl (decide (j ≤ i))) x y H Q ∨ ∃ b j, x = .bl b ∧ y = .int j ∧ Q (.bl (decide (j ≤ bI b))) H
theorem gv_geI (b : Bool) (i : Int) (u : Tok) : Gives (Builtin.«int.__ge__» ⟨[.bool b, .int i u], []⟩) (.val (.bool (decide (i ≤ bI b)))) := by cases b <;> exact .of_eq rfl
theorem op_geI : OpR X (compareOp .GtE) r_geI := fun pins s σ H x y v u Q I rx ry h => by
  rcases h with h | ⟨b, j, rfl, rfl, q⟩
  · exact op_ge pins s σ H x y v u Q I rx ry h
  · obtain rfl : v = Value.bool b := rx
    obtain ⟨t, rfl⟩ := ry
    refine SeqAt.rc_left_or (op := .GtE) (Ta := "bool") (Tb := "int") rfl rfl (by decide) F.sub_int_bool F.slot_bool_ge (call_meets F.slot_bool_ge rfl F.entry_int_ge (F.args_int_ge_2 _ _) (gv_geI b j t).meets ?_) (.inl rfl)
    exact ⟨(fun z => nomatch z), .bl _, H, I, rfl, q⟩
theorem d_geI : OpD K r_geI geI := fun G H x y d e z Q ex hd he hz k => by
  unfold geI at hz
  split at hz
  · cases hz
    exact .inl ⟨_, _, dt_int hd, dt_int he, k _ G H .refl ex (.bb _)⟩
  · cases hz
    exact .inr ⟨_, _, dt_bool hd, dt_int he, k _ G H .refl ex (.bb _)⟩
  · cases hz
/-- tuples of numbers -/
def intsOf : List PyData → Option (List Int)
  | [] => some []
  | .int i :: r => (intsOf r).map (i :: ·)
  | _ :: _ => none
theorem intsOf_eq : ∀ {ds : List PyData} {ns : List Int}, intsOf ds = some ns → ds = ns.map .int
  | [], ns, h => by cases h; rfl
  | .int i :: r, ns, h => by
    unfold intsOf at h
    cases q : intsOf r with
    | none => rw [q] at h; cases h
    | some ms =>
      rw [q] at h
      cases h
      rw [intsOf_eq q]
      rfl
  | .none :: _, _, h => by cases h
  | .bool _ :: _, _, h => by cases h
  | .str _ :: _, _, h => by cases h
  | .list _ :: _, _, h => by cases h
  | .tuple _ :: _, _, h => by cases h
  | .dict _ :: _, _, h => by cases h
theorem intsOf_map : ∀ ns : List Int, intsOf (ns.map .int) = some ns
  | [] => rfl
  | n :: ns => by
    show (intsOf (ns.map .int)).map (n :: ·) = _
    rw [intsOf_map ns]
    rfl
theorem da_ints {G : Hp} : ∀ {xs : List V} {ns : List Int}, Da K G xs (ns.map .int) → xs = ns.map V.int
  | _, [], .nil => rfl
  | _, _ :: _, .cons h t => by
    rw [List.map_cons, dt_int h, da_ints t]
def ltT : PyData → PyData → Option PyData
  | .tuple ds, .tuple es => (intsOf ds).bind fun ns => (intsOf es).map fun ms => .bool (HT.lexLt ns ms)
  | _, _ => none
theorem d_ltT : OpD K (rLtT K) ltT := fun G H x y d e z Q ex hd he hz k => by
  unfold ltT at hz
  split at hz
  · rename_i ds es
    obtain ⟨ns, h1, h2⟩ := Option.bind_eq_some_iff.mp hz
    obtain ⟨ms, h3, rfl⟩ := Option.map_eq_some_iff.mp h2
    obtain rfl := intsOf_eq h1
    obtain rfl := intsOf_eq h3
    obtain ⟨a, xs, rfl, hx, dx⟩ := dt_tup hd
    obtain ⟨b, ys, rfl, hy, dy⟩ := dt_tup he
    obtain rfl := da_ints dx
    obtain rfl := da_ints dy
    exact ⟨a, b, ns, ms, rfl, rfl, Evl.ex_t ex hx, Evl.ex_t ex hy, k _ G H .refl ex (.bb _)⟩
  · cases hz
/-! ### == and != -/
/-- no dict within, not too deep -/
def flatOk (d : PyData) : Bool := d.plain && decide (d.depth ≤ 60)
theorem flatOk_of {d : PyData} (h : flatOk d = true) : d.plain = true ∧ d.depth ≤ 60 := by
  have q := Bool.and_eq_true_iff.mp h
  exact ⟨q.1, of_decide_eq_true q.2⟩
/-- lists of unlike lengths, whatever they hold -/
def unlen : PyData → PyData → Bool
  | .list xs, .list ys => xs.length != ys.length
  | _, _ => false
/-- what is right of == has no dict within, of != it is an atom: then left may stand anything -/
def halfE (_ e : PyData) : Bool := flatOk e
def halfN (_ e : PyData) : Bool := atomE e
def eqD : PyData → PyData → Option PyData := fun d e => if unlen d e = true then some (.bool false) else if (flatOk d && flatOk e) = true then some (.bool (PyData.eqv d e)) else if halfE d e = true then some (.bool (PyData.eqv d e)) else none
def neD : PyData → PyData → Option PyData := fun d e => if unlen d e = true then some (.bool true) else if (flatOk d && flatOk e) = true then some (.bool (!PyData.eqv d e)) else if halfN d e = true then some (.bool (!PyData.eqv d e)) else none
def rCmp2 (K : PySem.W.Frag) (u : Bool) (h g : PyData → PyData → Bool) : R2 := fun x y H Q => ∃ d e, Dt K H x d ∧ Dt K H y e ∧ ((unlen d e = true ∧ Q (.bl u) H) ∨ (flatOk d = true ∧ flatOk e = true ∧ Q (.bl (g d e)) H) ∨ (h d e = true ∧ Q (.bl (g d e)) H))
abbrev rEq2 (K : PySem.W.Frag) : R2 := rCmp2 K false halfE PyData.eqv
abbrev rNe2 (K : PySem.W.Frag) : R2 := rCmp2 K true halfN fun d e => !PyData.eqv d e
theorem unlen_at {h : Heap} {a b : Value} {d e : PyData} {as bs : List Addr} (u : unlen d e = true) (ra : Reads h a d as) (rb : Reads h b e bs) : ∃ l l' vs vs', a = .ref l ∧ b = .ref l' ∧ h.IsList l vs ∧ h.IsList l' vs' ∧ (vs.size != vs'.size) = true := by
  unfold unlen at u
  split at u
  · cases ra with
    | list h1 h2 h3 h4 =>
      cases rb with
      | list k1 k2 k3 k4 =>
        rename_i vs _ _ _ _ vs' _ _
        have n1 := SeqAt.ReadsAll.length _ _ _ h4
        have n2 := SeqAt.ReadsAll.length _ _ _ k4
        refine ⟨_, _, _, _, rfl, rfl, ⟨_, h1, h2, _, h3⟩, ⟨_, k1, k2, _, k3⟩, ?_⟩
        simp only [Array.length_toList] at n1 n2
        rw [n1, n2]
        exact u
  · cases u
theorem op_eq2 (hu : X.A.units + 64 < cLine) : OpR X (compareOp .Eq) (rEq2 X.K) := fun pins s σ H x y v u Q I rx ry ⟨d, e, hd, he, q⟩ => by
  obtain ⟨as, r1⟩ := hd.reads I rx
  obtain ⟨bs, r2⟩ := he.reads I ry
  rcases q with ⟨z, q⟩ | ⟨sd, se, q⟩ | ⟨se, q⟩
  rotate_right
  · exact rc_half r1 r2 (flatOk_of se).1 (by have := (flatOk_of se).2; omega) _ _ _ _ ⟨.bl _, H, I, rfl, q⟩
  · obtain ⟨l, l', vs, vs', rfl, rfl, h1, h2, h3⟩ := unlen_at z r1 r2
    exact SeqAt.RcAt.lists_lengths h1 h2 h3 (by omega) _ _ _ _ ⟨.bl _, H, I, rfl, q⟩
  · exact SeqAt.eq_plain r1 r2 (flatOk_of sd).1 (flatOk_of se).1 (by have := (flatOk_of sd).2; omega) ⟨.bl _, H, I, rfl, q⟩
theorem op_ne2 (hu : X.A.units + 64 < cLine) : OpR X (compareOp .NotEq) (rNe2 X.K) := fun pins s σ H x y v u Q I rx ry ⟨d, e, hd, he, q⟩ => by
  obtain ⟨as, r1⟩ := hd.reads I rx
  obtain ⟨bs, r2⟩ := he.reads I ry
  rcases q with ⟨z, q⟩ | ⟨sd, se, q⟩ | ⟨se, q⟩
  rotate_right
  · exact rn_half r1 r2 se (by omega) _ _ _ _ ⟨.bl _, H, I, rfl, q⟩
  · obtain ⟨l, l', vs, vs', rfl, rfl, h1, h2, h3⟩ := unlen_at z r1 r2
    exact SeqAt.RcNeAt.lists_lengths h1 h2 h3 (by omega) _ _ _ _ ⟨.bl _, H, I, rfl, q⟩
  · exact SeqAt.ne_plain r1 r2 (flatOk_of sd).1 (flatOk_of se).1 (by have := (flatOk_of sd).2; omega) ⟨.bl _, H, I, rfl, q⟩
theorem d_cmp2 {u : Bool} {h g : PyData → PyData → Bool} : OpD K (rCmp2 K u h g) (fun d e => if unlen d e = true then some (.bool u) else if (flatOk d && flatOk e) = true then some (.bool (g d e)) else if h d e = true then some (.bool (g d e)) else none) := fun G H x y d e z Q ex hd he hz k => by
  refine ⟨d, e, hd.mono ex, he.mono ex, ?_⟩
  dsimp only at hz
  split at hz
  · rename_i hc
    cases hz
    exact .inl ⟨hc, k _ G H .refl ex (.bb _)⟩
  · split at hz
    · rename_i h1
      cases hz
      rw [Bool.and_eq_true] at h1
      exact .inr (.inl ⟨h1.1, h1.2, k _ G H .refl ex (.bb _)⟩)
    · obtain ⟨h1, rfl⟩ := ite_p hz
      exact .inr (.inr ⟨h1, k _ G H .refl ex (.bb _)⟩)
theorem d_eq : OpD K (rEq2 K) eqD := d_cmp2
theorem d_ne : OpD K (rNe2 K) neD := d_cmp2
/-! ### items -/
/-- a list's place told by a truth -/
theorem sub_bool {M : Model} {A : Around} {E : Value → Shared → Prop} {s : Shared} {b : Bool} {Q : Option Int → Shared → Prop} (h : Q (some (bI b)) s) : wpAny M A (Builtin.List.listSubscript? (.bool b)) Q E s := by
  unfold Builtin.List.listSubscript?
  refine wpAny_bind (wpAny_specialOf (T := "bool") rfl F.slot_bool_index.lookup ?_)
  show wpAny M A (asIndex (.bool b) >>= _) Q E s
  refine wpAny_bind (wpAny_of_eq (a := bI b) (by cases b <;> rfl) ?_)
  have hf : Builtin.List.listFitsIndex (bI b) = true := by cases b <;> decide
  show wpAny M A (if (!Builtin.List.listFitsIndex (bI b)) = true then _ else _) Q E s
  rw [hf]
  exact wpAny_pure h
theorem get_bool {prog : Program} {w : World} {A : Around} {E : Value → Shared → Prop} {s : Shared} {l : Addr} {items : Array Value} {b : Bool} {x : Value} {Q : Value → Shared → Prop} (hl : s.heap.IsList l items) (hx : items[(bI b).toNat]? = some x) (h : Q x s) :
    wpAny (model prog w) A (getItem (.ref l) (.bool b)) Q E s := by
  obtain ⟨o, ho, hc, ne, hd⟩ := id hl
  unfold getItem
  try with_reducible refine wpAny_holding ?_
  first | refine wpAny_bind (wpAny_pure ?_) | skip
  refine wpAny_bind (wpAny_sequenceKey hl.typeIs (by decide) ?_)
  refine wpAny_bind (wpAny_callSpecial?_slot (name := Str.ofString "__getitem__") hl.typeIs slot_list_getitem (wpAny_call_entry slot_list_getitem hl.typeIs entry_list_getitem ?_ (args_list_getitem _ _)))
  show wpAny _ _ (Builtin.List.listSubscript? (.bool b) >>= _) _ _ s
  refine wpAny_bind (sub_bool ?_)
  have hb : bI b = (((bI b).toNat : Nat) : Int) := by cases b <;> rfl
  rw [hb]
  generalize (bI b).toNat = j at hx
  show wpAny _ _ ((seqItemAt l j >>= fun r => pure (r.map (j, ·))) >>= _) _ _ s
  refine wpAny_bind (wpAny_bind (wpAny_seqItemAt ho hd (wpAny_pure ?_)))
  rw [hx]
  first
    | exact wpAny_bind (wpAny_pure (wpAny_pure ⟨x, rfl, wpAny_pure h⟩))
    | exact wpAny_pure ⟨x, rfl, wpAny_pure h⟩
def rIxB (K : PySem.W.Frag) : R2 := fun x y H Q => ∃ p xs b v, x = .ref p ∧ y = .bl b ∧ SqL K H p xs ∧ xs[(bI b).toNat]? = some v ∧ Q v H
theorem ix_listB {X : Cx} : IxR X (rIxB X.K) := fun value slice pins s σ H x y v u Q I rx ry h hs => by
  obtain ⟨p, xs, b, z, rfl, rfl, hq, he, q⟩ := h
  cases rx
  obtain rfl : u = Value.bool b := ry
  obtain ⟨its, r, pl, hz⟩ := I.list hq
  obtain ⟨w, ew, rw'⟩ := r.get he
  exact subscriptTail_builtinR (x := w) pl.isList.typeIs slot_list_getitem.lookup (get_bool (Q := fun r s' => r = w ∧ EP X pins σ Q r s') pl.isList (by simpa using ew) ⟨rfl, z, H, I, rw', q⟩) hs
def rIx3 (K : PySem.W.Frag) : R2 := fun x y H Q => rIx K x y H Q ∨ rIxB K x y H Q
theorem ix_seqB {X : Cx} : IxR X (rIx3 X.K) := ix_seq.or ix_listB
def ixD : PyData → PyData → Option PyData
  | .list ds, .int i => atI ds i
  | .list ds, .bool b => ds[(bI b).toNat]?
  | .tuple ds, .int i => atI ds i
  | .str z, .int i => if z.length ≤ sizeLine then (atI z.cps.toList i).map fun c => .str ⟨#[c]⟩ else none
  | _, _ => none
theorem atI_da {G : Hp} {xs : List V} {ds : List PyData} (h : Da K G xs ds) {i : Int} {d : PyData} (e : atI ds i = some d) : ∃ v, atI xs i = some v ∧ Dt K G v d := by
  unfold atI at e ⊢
  obtain ⟨j, h1, h2⟩ := Option.bind_eq_some_iff.mp e
  obtain ⟨v, h3, h4⟩ := h.get h2
  rw [h.len, h1]
  exact ⟨v, h3, h4⟩
theorem d_ix : OpD K (rIx3 K) ixD := fun G H x y d e z Q ex hd he hz k => by
  unfold ixD at hz
  split at hz
  · obtain ⟨a, xs, rfl, hx, dx⟩ := dt_list hd
    obtain ⟨v, hv, dv⟩ := atI_da dx hz
    exact .inl (.inl ⟨a, xs, _, v, rfl, dt_int he, (hx.mono ex).sq, hv, k _ G H .refl ex dv⟩)
  · obtain ⟨a, xs, rfl, hx, dx⟩ := dt_list hd
    obtain ⟨v, hv, dv⟩ := dx.get hz
    exact .inr ⟨a, xs, _, v, rfl, dt_bool he, (hx.mono ex).sq, hv, k _ G H .refl ex dv⟩
  · obtain ⟨a, xs, rfl, hx, dx⟩ := dt_tup hd
    obtain ⟨v, hv, dv⟩ := atI_da dx hz
    exact .inl (.inr (.inl ⟨a, xs, _, v, rfl, dt_int he, Evl.ex_t ex hx, hv, k _ G H .refl ex dv⟩))
  · split at hz
    · rename_i hl
      obtain ⟨c, hc, rfl⟩ := Option.map_eq_some_iff.mp hz
      exact .inl (.inr (.inr ⟨_, _, c, dt_str hd, dt_int he, hl, hc, k _ G H .refl ex (.ss _)⟩))
    · cases hz
  · cases hz
/-! ### + of lists, tuples, texts -/
def rCatR (K : PySem.W.Frag) : R2 := fun x y H Q => ∃ l b xs zs, x = .ref l ∧ y = .ref b ∧ RL K H l xs ∧ RL K H b zs ∧ xs.length + zs.length ≤ sizeLine ∧ ∀ p, H p = none → Q (.ref p) (upd H p (.lst (xs ++ zs)))
theorem op_catR : OpR X (binaryOp .Add) (rCatR X.K) := fun pins s σ H x y v u Q I rx ry ⟨l, b, xs, zs, ex, ey, hH, hB, hz, q⟩ => by
  subst ex; subst ey
  cases rx
  cases ry
  obtain ⟨z, its, n, r, hl, e⟩ := lstR I hH
  obtain ⟨z2, its2, n2, r2, hl2, e2⟩ := lstR I hB
  refine PySem.P.add_list e e2 ?_ (by simp only [List.size_toArray]; omega)
  have ea : its.toArray ++ its2.toArray = (its ++ its2).toArray := by simp
  rw [ea]
  refine ⟨.ref s.heap.objs.size, _, I.lnew (t' := s.toks) (r.append r2) (by simp only [List.length_append]; omega), rfl, q _ I.fresh⟩
def catD : PyData → PyData → Option PyData
  | .list ds, .list es => if sizeOk (ds.length + es.length) = true then some (.list (ds ++ es)) else none
  | _, _ => none
theorem d_cat : OpD K (rCatR K) catD := fun G H x y d e z Q ex hd he hz k => by
  unfold catD at hz
  split at hz
  · obtain ⟨hs, rfl⟩ := ite_p hz
    obtain ⟨a, xs, rfl, hx, dx⟩ := dt_list hd
    obtain ⟨b, ys, rfl, hy, dy⟩ := dt_list he
    refine ⟨a, b, xs, ys, rfl, rfl, (hx.mono ex), (hy.mono ex), by rw [dx.len, dy.len]; exact sizeOk_le hs, fun p hp => ?_⟩
    have t : Tr nobody G H (upd G p (.lst (xs ++ ys))) (upd H p (.lst (xs ++ ys))) := Tr.new hp ex
    exact k _ _ _ t (ex_upd ex) (.ll (RL.of upd_same) ((dx.app dy).mono t.g))
  · cases hz
def catT : PyData → PyData → Option PyData
  | .tuple ds, .tuple es => if sizeOk (ds.length + es.length) = true then some (.tuple (ds ++ es)) else none
  | _, _ => none
theorem d_catT : OpD K (rCatA K) catT := fun G H x y d e z Q ex hd he hz k => by
  unfold catT at hz
  split at hz
  · obtain ⟨hs, rfl⟩ := ite_p hz
    obtain ⟨a, xs, rfl, hx, dx⟩ := dt_tup hd
    obtain ⟨b, ys, rfl, hy, dy⟩ := dt_tup he
    refine ⟨a, b, xs, ys, rfl, rfl, Evl.ex_t ex hx, Evl.ex_t ex hy, by rw [dx.len, dy.len]; exact sizeOk_le hs, fun h0 => ?_, fun h1 h2 => ?_, fun h1 h2 p hp => ?_⟩
    · subst h0
      cases dx
      exact k _ G H .refl ex he
    · subst h2
      cases dy
      exact k _ G H .refl ex (by rw [List.append_nil]; exact hd)
    · have t : Tr nobody G H (upd G p (.tup (xs ++ ys))) (upd H p (.tup (xs ++ ys))) := Tr.new hp ex
      exact k _ _ _ t (ex_upd ex) (.tt (SqT.of upd_same) ((dx.app dy).mono t.g))
  · cases hz
def catS : PyData → PyData → Option PyData
  | .str x, .str y => if x.length + y.length ≤ sizeLine then some (.str (x ++ y)) else none
  | _, _ => none
def rCatZ : R2 := fun x y H Q => ∃ i j, x = .str i ∧ y = .str j ∧ i.length + j.length ≤ sizeLine ∧ Q (.str (i ++ j)) H
theorem d_catS : OpD K rCatZ catS := fun G H x y d e z Q ex hd he hz k => by
  unfold catS at hz
  split at hz
  · obtain ⟨hs, rfl⟩ := ite_p hz
    exact ⟨_, _, dt_str hd, dt_str he, hs, k _ G H .refl ex (.ss _)⟩
  · cases hz
def addB : PyData → PyData → Option PyData
  | .bool b, .int j => some (.int (bI b + j))
  | _, _ => none
def rAddB : R2 := fun x y H Q => ∃ b j, x = .bl b ∧ y = .int j ∧ Q (.int (bI b + j)) H
theorem op_addB : OpR X (binaryOp .Add) rAddB := fun pins s σ H x y v u Q I rx ry ⟨b, j, e1, e2, q⟩ => by
  subst e1; subst e2
  obtain rfl : v = Value.bool b := rx
  obtain ⟨t, rfl⟩ := ry
  exact PySem.IntBool.add_bool_int ⟨.int _, H, I.tok _, ⟨_, rfl⟩, q⟩
theorem d_addB : OpD K rAddB addB := fun G H x y d e z Q ex hd he hz k => by
  unfold addB at hz
  split at hz
  · cases hz
    exact ⟨_, _, dt_bool hd, dt_int he, k _ G H .refl ex (.ii _)⟩
  · cases hz
def addD : PyData → PyData → Option PyData
  | .int i, .int j => some (.int (i + j))
  | .bool b, .int j => some (.int (bI b + j))
  | .list ds, .list es => if sizeOk (ds.length + es.length) = true then some (.list (ds ++ es)) else none
  | .tuple ds, .tuple es => if sizeOk (ds.length + es.length) = true then some (.tuple (ds ++ es)) else none
  | .str x, .str y => if x.length + y.length ≤ sizeLine then some (.str (x ++ y)) else none
  | _, _ => none
theorem OpD.eq {r : R2} {g g' : PyData → PyData → Option PyData} (h : OpD K r g) (e : ∀ d z, g' d z = g d z) : OpD K r g' := by
  rw [show g' = g from funext fun d => funext fun z => e d z]; exact h
def rAdd (K : PySem.W.Frag) : R2 := fun x y H Q => rI0 (fun i j => .int (i + j)) x y H Q ∨ rCatR K x y H Q ∨ rCatA K x y H Q ∨ rCatZ x y H Q ∨ rAddB x y H Q
theorem op_addD : OpR X (binaryOp .Add) (rAdd X.K) := op_add.or (op_catR.or (op_catA.or (op_add_str.or op_addB)))
theorem d_add : OpD K (rAdd K) addD := (d_addI.or (d_cat.or (d_catT.or (d_catS.or d_addB)))).eq fun d e => by
  cases d <;> cases e <;> first | rfl | (simp only [addD, addI, catD, catT, catS, addB]; split <;> rfl)
def ltD : PyData → PyData → Option PyData
  | .int i, .int j => some (.bool (decide (i < j)))
  | .tuple ds, .tuple es => (intsOf ds).bind fun ns => (intsOf es).map fun ms => .bool (HT.lexLt ns ms)
  | .bool b, .int j => some (.bool (decide (bI b < j)))
  | .int i, .bool b => some (.bool (decide (i < bI b)))
  | .bool a, .bool b => some (.bool (decide (bI a < bI b)))
  | _, _ => none
def rLtD (K : PySem.W.Frag) : R2 := fun x y H Q => rI0 (fun i j => .bl (decide (i < j))) x y H Q ∨ rLtT K x y H Q ∨ rLtB x y H Q
theorem op_ltD (hu : X.A.units < cLine) : OpR X (compareOp .Lt) (rLtD X.K) := op_lt.or ((op_ltT hu).or op_ltB)
theorem d_lt : OpD K (rLtD K) ltD := (d_ltI.or (d_ltT.or d_ltB)).eq fun d e => by
  cases d <;> cases e <;> first | rfl | (simp only [ltD, ltI, ltT, ltB, Option.none_or, Option.or_none])
end
end Tw

set_option Elab.async false
set_option linter.all false
set_option maxRecDepth 100000
set_option maxHeartbeats 2000000
namespace Tw
open PySem PySem.Spec PyProof.Rows L2
open Evl (Ex)
section
variable {X : Cx} {e a b c : Expr} {es rest : List Expr} {pos : Pos} {bb : Bool} {f fa fb fc : FE PyData} {g g1 g2 : FE Bool} {σ : L2.St} {ρ ρ1 ρ2 : Rho}
/-! ### tests -/
def fTst (f : FE PyData) : FE Bool := thnE f fun x => match x with
  | .bool b => ret b
  | _ => fun _ => none
theorem fTst_of {f : FE PyData} {ρ ρ' : Rho} {b : Bool} (h : fTst f ρ = some (b, ρ')) : f ρ = some (.bool b, ρ') := by
  obtain ⟨x, ρ1, h1, h2⟩ := thnE_of h
  cases x with
  | bool c =>
    obtain ⟨rfl, rfl⟩ := ret_of h2
    exact h1
  | _ => cases h2
theorem tst_run {H : Hp} {Q : Bool → Hp → Prop} (h : tT X.K bb (fTst f) σ H Q) : tE X.K bb f σ H fun x H1 => ∃ c, x = .bl c ∧ Q c H1 := by
  obtain ⟨G, ρ, d, ρ', E, ef, k⟩ := h
  exact ⟨G, ρ, _, ρ', E, fTst_of ef, fun v G1 H1 t1 o1 E1 d1 => ⟨d, dt_bool d1, k G1 H1 t1 o1 E1⟩⟩
theorem t_val (h : PE X e (tE X.K bb f)) (he : ∀ whole, isTrue e X.env whole = (do let v ← whole; standAt e.pos; holding [v] (truthy v)) := by intro _; rfl) : PT X e (tT X.K bb (fTst f)) :=
  PT.weak (pt_val h he) fun _ _ _ h => tst_run h
theorem t_cmp {op : CmpOp} {r : R2} {g : PyData → PyData → Option PyData} (ho : OpR X (compareOp op) r) (hr : OpD X.K r g) (hm : behindInMarks op b = false) (ha : PE X a (tE X.K bb fa)) (hb : PE X b (tE X.K bb fb)) :
    PT X (.Compare a [op] [b] pos) (tT X.K bb (fTst (fBin g fa fb))) := PT.weak (pt_cmpR ho ha hb hm) fun _ _ _ h => by
  obtain ⟨G, ρ, d, ρ', E, ef, k⟩ := tst_run h
  exact bin_run hr ⟨G, ρ, d, ρ', E, ef, k⟩
def tdAnd (g1 g2 : FE Bool) : FE Bool := thnE g1 fun c => if c = true then g2 else ret false
def tdOr (g1 g2 : FE Bool) : FE Bool := thnE g1 fun c => if c = true then ret true else g2
def tdNot (g1 : FE Bool) : FE Bool := thnE g1 fun c => ret (!c)
theorem w_and1 (h : PT X a (tT X.K bb g)) : PW X (.BoolOp .And [a] pos) (tT X.K bb g) := pw_and1 h
theorem w_or1 (h : PT X a (tT X.K bb g)) : PW X (.BoolOp .Or [a] pos) (tT X.K bb g) := pw_or1 h
theorem PW.weak {t t' : TT} (h : PW X e t) (w : ∀ σ H Q, t' σ H Q → t σ H Q) : PW X e t' := ⟨fun whole pins s σ H Q I q => h.run whole pins s σ H Q I (w σ H Q q)⟩
theorem w_and (ha : PT X a (tT X.K bb g1)) (hb : PW X (.BoolOp .And (b :: rest) pos) (tT X.K bb g2)) : PW X (.BoolOp .And (a :: b :: rest) pos) (tT X.K bb (tdAnd g1 g2)) :=
  PW.weak (pw_and ha hb) fun σ H Q ⟨G, ρ, d, ρ', E, ef, k⟩ => by
    obtain ⟨c, ρ1, h1, h2⟩ := thnE_of ef
    refine ⟨G, ρ, c, ρ1, E, h1, fun G1 H1 t1 o1 E1 => ?_⟩
    cases c with
    | true => exact ⟨G1, ρ1, d, ρ', E1, h2, fun G2 H2 t2 o2 E2 => k G2 H2 (t1.seq o1 t2) (fun l q => o1 l (o2 l q)) E2⟩
    | false =>
      obtain ⟨rfl, rfl⟩ := ret_of (show ret false ρ1 = _ from h2)
      exact k G1 H1 t1 o1 E1
theorem w_or (ha : PT X a (tT X.K bb g1)) (hb : PW X (.BoolOp .Or (b :: rest) pos) (tT X.K bb g2)) : PW X (.BoolOp .Or (a :: b :: rest) pos) (tT X.K bb (tdOr g1 g2)) :=
  PW.weak (pw_or ha hb) fun σ H Q ⟨G, ρ, d, ρ', E, ef, k⟩ => by
    obtain ⟨c, ρ1, h1, h2⟩ := thnE_of ef
    refine ⟨G, ρ, c, ρ1, E, h1, fun G1 H1 t1 o1 E1 => ?_⟩
    cases c with
    | false => exact ⟨G1, ρ1, d, ρ', E1, h2, fun G2 H2 t2 o2 E2 => k G2 H2 (t1.seq o1 t2) (fun l q => o1 l (o2 l q)) E2⟩
    | true =>
      obtain ⟨rfl, rfl⟩ := ret_of (show ret true ρ1 = _ from h2)
      exact k G1 H1 t1 o1 E1
theorem t_not (ha : PT X a (tT X.K bb g)) : PT X (.UnaryOp .Not a pos) (tT X.K bb (tdNot g)) := PT.weak (pt_not ha) fun σ H Q ⟨G, ρ, d, ρ', E, ef, k⟩ => by
  obtain ⟨c, ρ1, h1, h2⟩ := thnE_of ef
  obtain ⟨rfl, rfl⟩ := ret_of h2
  exact ⟨G, ρ, c, ρ', E, h1, fun G1 H1 t1 o1 E1 => k G1 H1 t1 o1 E1⟩
/-! ### and, or, not, if as values -/
def vAnd (fa fb : FE PyData) : FE PyData := thnE (fTst fa) fun c => if c = true then fb else ret (.bool false)
def vOr (fa fb : FE PyData) : FE PyData := thnE (fTst fa) fun c => if c = true then ret (.bool true) else fb
def vNot (fa : FE PyData) : FE PyData := thnE (fTst fa) fun c => ret (.bool (!c))
def fIf (g : FE Bool) (fa fb : FE PyData) : FE PyData := thnE g fun c => if c = true then fa else fb
theorem e_one {op} (h : PE X a (tE X.K bb f)) : PE X (.BoolOp op [a] pos) (tE X.K bb f) := pe_one h
theorem e_and (ha : PE X a (tE X.K bb fa)) (hb : PE X (.BoolOp .And (b :: rest) pos) (tE X.K bb fb)) : PE X (.BoolOp .And (a :: b :: rest) pos) (tE X.K bb (vAnd fa fb)) :=
  PE.weak (pe_and ha hb) fun σ H Q ⟨G, ρ, d, ρ', E, ef, k⟩ => by
    obtain ⟨c, ρ1, h1, h2⟩ := thnE_of ef
    refine ⟨G, ρ, _, ρ1, E, fTst_of h1, fun v G1 H1 t1 o1 E1 d1 => ⟨c, dt_bool d1, ?_⟩⟩
    cases c with
    | true =>
      rw [if_pos rfl]
      exact ⟨G1, ρ1, d, ρ', E1, h2, fun u G2 H2 t2 o2 E2 d2 => k u G2 H2 (t1.seq o1 t2) (fun l q => o1 l (o2 l q)) E2 d2⟩
    | false =>
      rw [if_neg Bool.false_ne_true]
      obtain ⟨rfl, rfl⟩ := ret_of (show ret (PyData.bool false) ρ1 = _ from h2)
      exact k _ G1 H1 t1 o1 E1 (.bb false)
theorem e_or (ha : PE X a (tE X.K bb fa)) (hb : PE X (.BoolOp .Or (b :: rest) pos) (tE X.K bb fb)) : PE X (.BoolOp .Or (a :: b :: rest) pos) (tE X.K bb (vOr fa fb)) :=
  PE.weak (pe_or ha hb) fun σ H Q ⟨G, ρ, d, ρ', E, ef, k⟩ => by
    obtain ⟨c, ρ1, h1, h2⟩ := thnE_of ef
    refine ⟨G, ρ, _, ρ1, E, fTst_of h1, fun v G1 H1 t1 o1 E1 d1 => ⟨c, dt_bool d1, ?_⟩⟩
    cases c with
    | false =>
      rw [if_neg Bool.false_ne_true]
      exact ⟨G1, ρ1, d, ρ', E1, h2, fun u G2 H2 t2 o2 E2 d2 => k u G2 H2 (t1.seq o1 t2) (fun l q => o1 l (o2 l q)) E2 d2⟩
    | true =>
      rw [if_pos rfl]
      obtain ⟨rfl, rfl⟩ := ret_of (show ret (PyData.bool true) ρ1 = _ from h2)
      exact k _ G1 H1 t1 o1 E1 (.bb true)
theorem e_not (ha : PE X a (tE X.K bb fa)) : PE X (.UnaryOp .Not a pos) (tE X.K bb (vNot fa)) := PE.weak (pe_not ha) fun σ H Q ⟨G, ρ, d, ρ', E, ef, k⟩ => by
  obtain ⟨c, ρ1, h1, h2⟩ := thnE_of ef
  obtain ⟨rfl, rfl⟩ := ret_of h2
  exact ⟨G, ρ, _, ρ', E, fTst_of h1, fun v G1 H1 t1 o1 E1 d1 => ⟨c, dt_bool d1, k _ G1 H1 t1 o1 E1 (.bb _)⟩⟩
theorem e_if (ht : PT X c (tT X.K bb g)) (ha : PE X a (tE X.K bb fa)) (hb : PE X b (tE X.K bb fb)) : PE X (.IfExp c a b pos) (tE X.K bb (fIf g fa fb)) := PE.weak (pe_ifExp ht ha hb) fun σ H Q ⟨G, ρ, d, ρ', E, ef, k⟩ => by
  obtain ⟨q, ρ1, h1, h2⟩ := thnE_of ef
  refine ⟨G, ρ, q, ρ1, E, h1, fun G1 H1 t1 o1 E1 => ?_⟩
  cases q with
  | true =>
    rw [if_pos rfl]
    exact ⟨G1, ρ1, d, ρ', E1, h2, fun u G2 H2 t2 o2 E2 d2 => k u G2 H2 (t1.seq o1 t2) (fun l q => o1 l (o2 l q)) E2 d2⟩
  | false =>
    rw [if_neg Bool.false_ne_true]
    exact ⟨G1, ρ1, d, ρ', E1, h2, fun u G2 H2 t2 o2 E2 d2 => k u G2 H2 (t1.seq o1 t2) (fun l q => o1 l (o2 l q)) E2 d2⟩
/-! ### slices -/
def tO (K : PySem.W.Frag) (b : Bool) (f : FE (Option Int)) : TO := fun σ H Q => ∃ (G : Hp) (ρ : Rho) (d : Option Int) (ρ' : Rho), EnvOk K G H σ ρ ∧ f ρ = some (d, ρ') ∧
  ∀ G' H', Tr (ows b σ ρ) G H G' H' → (∀ l, own σ ρ' l → own σ ρ l) → EnvOk K G' H' σ ρ' → Q d H'
def fPart (f : FE PyData) : FE (Option Int) := thnE f fun x => match x with
  | .int i => ret (some i)
  | _ => fun _ => none
theorem PO.weak {o : Option Expr} {t t' : TO} (h : PO X o t) (w : ∀ σ H Q, t' σ H Q → t σ H Q) : PO X o t' := ⟨fun pins s σ H Q I q => h.run pins s σ H Q I (w σ H Q q)⟩
theorem o_none : PO X none (tO X.K bb (ret none)) := PO.weak po_none fun σ H Q ⟨G, ρ, d, ρ', E, ef, k⟩ => by
  obtain ⟨rfl, rfl⟩ := ret_of ef
  exact k G H .refl (fun _ q => q) E
theorem o_some (h : PE X e (tE X.K bb f)) : PO X (some e) (tO X.K bb (fPart f)) := PO.weak (po_some h) fun σ H Q ⟨G, ρ, d, ρ', E, ef, k⟩ => by
  obtain ⟨x, ρ1, h1, h2⟩ := thnE_of ef
  cases x with
  | int i =>
    obtain ⟨rfl, rfl⟩ := ret_of (show ret (some i) ρ1 = _ from h2)
    exact ⟨G, ρ, _, ρ', E, h1, fun v G1 H1 t1 o1 E1 d1 => ⟨i, dt_int d1, k G1 H1 t1 o1 E1⟩⟩
  | _ => cases h2
def cutD (ds : List PyData) (lo hi : Option Int) : List PyData := (ds.drop (HT.sIx ds.length 0 lo)).take (HT.sIx ds.length ds.length hi - HT.sIx ds.length 0 lo)
theorem cut_da {K : PySem.W.Frag} {G : Hp} {xs : List V} {ds : List PyData} (h : Da K G xs ds) (lo hi : Option Int) : Da K G (cutV xs lo hi) (cutD ds lo hi) := by
  unfold cutV cutD
  rw [h.len]
  exact (h.drop _).take _
def slD (x : PyData) (lo hi : Option Int) : Option PyData := match x with
  | .list ds => some (.list (cutD ds lo hi))
  | .tuple ds => some (.tuple (cutD ds lo hi))
  | _ => none
def rSlD (K : PySem.W.Frag) : V → Option Int → Option Int → Hp → VK → Prop := fun x lo hi H Q => rSlL K x lo hi H Q ∨ rSlA K x lo hi H Q
theorem sl_D : SlR X (rSlD X.K) := sl_list.or sl_tupA
def fSl (f : FE PyData) (lo hi : FE (Option Int)) : FE PyData := thnE f fun x => thnE lo fun l => thnE hi fun h => liftO (slD x l h)
theorem take_all {α : Type} {l : List α} {n : Nat} (h : n = l.length) : l.take n = l := List.take_of_length_le (Nat.le_of_eq h.symm)
theorem e_sl {lo hi : Option Expr} {flo fhi : FE (Option Int)} {p2 : Pos} (he : PE X e (tE X.K bb f)) (hl : PO X lo (tO X.K bb flo)) (hh : PO X hi (tO X.K bb fhi)) :
    PE X (.Subscript e (.Slice lo hi none p2) pos) (tE X.K bb (fSl f flo fhi)) := PE.weak (pe_slice sl_D he hl hh) fun σ H Q ⟨G, ρ, d, ρ', E, ef, k⟩ => by
  obtain ⟨x, ρ1, h1, h2⟩ := thnE_of ef
  obtain ⟨l, ρ2, h3, h4⟩ := thnE_of h2
  obtain ⟨u, ρ3, h5, h6⟩ := thnE_of h4
  obtain ⟨h7, rfl⟩ := liftO_of h6
  refine ⟨G, ρ, x, ρ1, E, h1, fun v G1 H1 t1 o1 E1 d1 => ⟨G1, ρ1, l, ρ2, E1, h3, fun G2 H2 t2 o2 E2 => ⟨G2, ρ2, u, ρ', E2, h5, fun G3 H3 t3 o3 E3 => ?_⟩⟩⟩
  have t := (t1.seq o1 t2).seq (fun l q => o1 l (o2 l q)) t3
  have o : ∀ l, own σ ρ' l → own σ ρ l := fun l q => o1 l (o2 l (o3 l q))
  have d3 := d1.mono fun x o q => t3.g x o (t2.g x o q)
  unfold slD at h7
  split at h7
  · cases h7
    obtain ⟨a, xs, rfl, hx, dx⟩ := dt_list d3
    refine .inl ⟨a, xs, rfl, (hx.mono E3.ex).sq, fun p hp => ?_⟩
    have t4 : Tr nobody G3 H3 (upd G3 p (.lst (cutV xs l u))) (upd H3 p (.lst (cutV xs l u))) := Tr.new hp E3.ex
    exact k _ _ _ (t.trans t4 fun _ _ _ q => q.elim) o (E3.tr t4 (ex_upd E3.ex)) (.ll (RL.of upd_same) ((cut_da dx l u).mono t4.g))
  · cases h7
    obtain ⟨a, xs, rfl, hx, dx⟩ := dt_tup d3
    refine .inr ⟨a, xs, rfl, Evl.ex_t E3.ex hx, fun hw => ?_, fun hw p hp => ?_⟩
    · refine k _ G3 H3 t o E3 ?_
      have e1 : cutD ‹List PyData› l u = ‹List PyData› := by
        unfold cutD
        rw [← dx.len, hw.1, hw.2, List.drop_zero, Nat.sub_zero]
        exact take_all dx.len
      rw [e1]
      exact d3
    · have t4 : Tr nobody G3 H3 (upd G3 p (.tup (cutV xs l u))) (upd H3 p (.tup (cutV xs l u))) := Tr.new hp E3.ex
      exact k _ _ _ (t.trans t4 fun _ _ _ q => q.elim) o (E3.tr t4 (ex_upd E3.ex)) (.tt (SqT.of upd_same) ((cut_da dx l u).mono t4.g))
  · cases h7
end
end Tw

set_option Elab.async false
set_option linter.all false
set_option maxRecDepth 100000
set_option maxHeartbeats 2000000
/-! ### sorted of a tuple -/
namespace PySem.W
open PySem PySem.Spec PyProof.Rows PySem.Calls
section
variable {prog : Program} {w : World} {A : Around} {E : Value → Shared → Prop} {s : Shared}
/-- what a tuple holds, in a new list -/
theorem gatherT {t : Addr} {us : List Value} {Q : List Value → Shared → Prop} (ht : s.heap.IsTuple t us.toArray) (hz : us.length ≤ sizeLine)
    (h : Q us { s with heap := (s.heap.push (seqObj "list" #[] 0)).update s.heap.objs.size (Obj.mapSeq (· ++ us.toArray)) }) : wpAny (model prog w) A (collect (.ref t)) Q E s := by
  obtain ⟨o, ho, hc, n, hd⟩ := id ht
  have made : (s.heap.push (seqObj "list" #[] 0)).get? s.heap.objs.size = some (seqObj "list" #[] 0) := Heap.get?_push_size _ rfl
  have kept := Heap.get?_push_of_some (seqObj "list" #[] 0) ho
  have same : (Value.type "tuple" == Value.type "tuple") = true := by rfl
  unfold collect
  refine wpAny_bind (wpAny_runValue (codeAny_builtin entry_proto_collect' ?_))
  show wpAny _ _ (do again (.builtin "list.__iadd__" ⟨[← newList [], .ref t], []⟩)) _ _ s
  refine wpAny_bind (wpAny_newList (wpAny_pure ⟨Code.quiet_builtin _ (by decide +kernel), ?_⟩))
  refine codeAny_builtin entry_list_iadd' ?_
  show wpAny _ _ (Builtin.List.listExtendWith (.ref s.heap.objs.size) (.ref t) (.ref s.heap.objs.size)) _ _ ⟨s.heap.push (seqObj "list" #[] 0), s.gens, s.drawn, s.toks, s.os⟩
  unfold Builtin.List.listExtendWith
  refine wpAny_bind (wpAny_typeOf (T := "tuple") ⟨o, kept, hc⟩ ?_)
  rw [if_pos (by simp [same])]
  refine wpAny_bind (listItems_at kept hd (wpAny_bind (listItems_at made rfl ?_)))
  rw [if_neg (by simp)]
  refine wpAny_bind (listUpdate_at made rfl (wpAny_pure ?_) (Nat.zero_le _) (by simp only [Array.size_append, List.size_toArray, List.length_nil]; omega))
  refine wpAny_bind (wpAny_load (get?_update_seq made _) ?_)
  show wpAny _ _ (pure ((#[] : Array Value) ++ us.toArray).toList) Q E _
  rw [show ((#[] : Array Value) ++ us.toArray).toList = us from by simp]
  exact wpAny_pure h
theorem sortT_of {t : Addr} {us : List Value} {Q : Value → Shared → Prop} (ht : s.heap.IsTuple t us.toArray) (hz : us.length ≤ sizeLine)
    (body : ∀ E' : Value → Shared → Prop, wpAny (model prog w) A.in1.in1 (Builtin.«list.sort» ⟨[.ref (s.heap.objs.size + 1)], []⟩) (fun f s' => f = .done (.ret .none) ∧ Q (.ref (s.heap.objs.size + 1)) s') E' { s with heap := copyHeap s.heap us }) :
    wpAny (model prog w) A (call (.builtin "sorted") [.ref t]) Q E s := by
  refine call_function_entry_kw kind_sorted plain_sorted entry_sorted (args_sorted1 _) ?_
  unfold Builtin.«sorted»
  refine wpAny_bind (m := checkCount "sorted" 1 1 _) (wpAny_pure (wpAny_bind (gatherT ht hz (wpAny_bind (wpAny_newList ?_ hz)))))
  have e : ((s.heap.push (seqObj "list" #[] 0)).update s.heap.objs.size (Obj.mapSeq (· ++ us.toArray))).objs.size = s.heap.objs.size + 1 := (Heap.size_update _ _ _).trans (size_push' _ _)
  show wpAny _ _ _ _ _ { s with heap := copyHeap s.heap us }
  rw [e]
  refine wpAny_bind (wpAny_holding (wpAny_call_entry_kw slot_list_sort ⟨_, copyHeap_at s.heap us, rfl⟩ entry_list_sort ?_ (args_list_sort _)))
  refine wpAny_mono (body _) (fun f s' ⟨ef, hq⟩ => ?_) fun _ _ z => z
  subst ef
  exact ⟨_, rfl, wpAny_pure ⟨_, rfl, hq⟩⟩
theorem sortT_data {t : Addr} {us : List Value} {bs : List PyData} {R : Value → PyData → Prop} {Q : Value → Shared → Prop} (ht : s.heap.IsTuple t us.toArray) (e : EachIs R us bs) (er : EachIs (fun v b => ∃ as, Reads s.heap v b as) us bs) (hal : AllAlike bs) (hk : Sortable bs) (hL : bs.length ≤ sizeLine)
    (hu : ∀ b, b ∈ bs → A.units + 2 + b.depth < cLine) (h : ∀ out, out.length = bs.length → EachIs R out (bs.mergeSort (dataLe false id)) → Q (.ref (s.heap.objs.size + 1)) { s with heap := sortedAll s.heap us (List.toArray out) }) :
    wpAny (model prog w) A (call (.builtin "sorted") [.ref t]) Q E s := by
  have hz : us.length ≤ sizeLine := by rw [e.length]; exact hL
  have er' : EachIs (fun v b => ∃ as, Reads (sortingHeap (copyHeap s.heap us) (s.heap.objs.size + 1) us) v (id b) as) us bs := er.mono fun _ _ ⟨as, r⟩ => ⟨as, PyProof.Rows.Reads.keeps (fun _ _ => sorting_copy_old) r⟩
  have hal' : AllAlike (bs.map id) := by rw [List.map_id]; exact hal
  have hk' : Sortable (bs.map id) := by rw [List.map_id]; exact hk
  have S : SortsAt prog w A.in1.in1 { s with heap := sortingHeap (copyHeap s.heap us) (s.heap.objs.size + 1) us } (dataKind (sortingHeap (copyHeap s.heap us) (s.heap.objs.size + 1) us) (bs.map id)) us :=
    SortsAt.data (each_map (R := fun v d => ∃ as, Reads (sortingHeap (copyHeap s.heap us) (s.heap.objs.size + 1) us) v d as) id er') hal' hk' (bound_map hu)
  refine sortT_of ht hz fun _ => list_sort_vals (s := { s with heap := copyHeap s.heap us }) (copyHeap_at s.heap us) S hz ⟨rfl, ?_⟩
  exact h _ (by rw [sortVals_length false rfl]; exact e.length) (sortVals_data false e er' hal')
end
end PySem.W

set_option Elab.async false
set_option linter.all false
set_option maxRecDepth 100000
set_option maxHeartbeats 2000000
namespace Tw
open PySem PySem.Spec PyProof.Rows L2
open Evl (Ex)
/-! ### no list stands in it -/
mutual
def noList : PyData → Bool
  | .list _ => false
  | .tuple ds => noLists ds
  | .dict kvs => noListK kvs
  | .none | .bool _ | .int _ | .str _ => true
def noLists : List PyData → Bool
  | [] => true
  | d :: ds => noList d && noLists ds
def noListK : List (PyData × PyData) → Bool
  | [] => true
  | (_, d) :: ds => noList d && noListK ds
end
theorem noListK_zip : ∀ {ks ds : List PyData}, ks.length = ds.length → noListK (ks.zip ds) = noLists ds
  | [], [], _ => rfl
  | [], _ :: _, h => by cases h
  | _ :: _, [], h => by cases h
  | k :: ks, d :: ds, h => by
    show (noList d && noListK (ks.zip ds)) = (noList d && noLists ds)
    rw [noListK_zip (Nat.succ.inj h)]
section
variable {X : Cx} {pins : List (Addr × Obj)} {σ : L2.St} {H : Hp} {s : Shared}
theorem keys_read0 {P : Program} {w : World} {h : Heap} : ∀ {kvs : List (Key × V)} {vs : List (Key × Value)} {es : List DictEntry}, KV kvs vs → Pairs (mixKind P w) es vs →
    ReadsAll h (es.map (·.key)) (kvs.map fun p => keyD p.1) []
  | _, _, _, .nil, .nil => .nil
  | _, _, _, .cons r t, .cons e1 e2 e3 => by
    have q1 := keys_read0 (h := h) t e3
    have e1' : keyIs _ _ = true := e1
    rw [← r.1] at e1'
    rcases keyIs_shape e1' with ⟨i, t, eq, ek⟩ | ⟨x, t, eq, ek⟩
    · have q2 : Reads h (DictEntry.key _) _ [] := ek ▸ Reads.int i t
      have := ReadsAll.cons q2 q1
      rw [List.map_cons, List.map_cons, eq]
      exact this
    · have q2 : Reads h (DictEntry.key _) _ [] := ek ▸ Reads.str x t
      have := ReadsAll.cons q2 q1
      rw [List.map_cons, List.map_cons, eq]
      exact this
mutual
theorem Dt.reads2 (I : Inv X pins σ H s) : ∀ {v : V} {d : PyData} {u : Value}, Dt X.K H v d → RelV v u → noList d = true → ∃ as, Reads s.heap u d as ∧ sysModules ∉ as
  | _, _, _, .nn, r, _ => by
    cases r; exact ⟨_, .none, List.not_mem_nil⟩
  | _, _, _, .bb b, r, _ => by
    cases r; exact ⟨_, .bool b, List.not_mem_nil⟩
  | _, _, _, .ii i, r, _ => by
    obtain ⟨t, rfl⟩ := r; exact ⟨_, .int i t, List.not_mem_nil⟩
  | _, _, _, .ss x, r, _ => by
    obtain ⟨t, rfl⟩ := r; exact ⟨_, .str x t, List.not_mem_nil⟩
  | _, _, _, .ll h t, r, n => nomatch (show false = true from n)
  | _, _, _, .tt h t, r, n => by
    cases r
    obtain ⟨its, rv, ⟨o, ho, hc, n', hd⟩, _⟩ := I.tuple h
    obtain ⟨as, hr, ha⟩ := Da.reads2 I t rv n
    exact ⟨_, .tuple ho hc hd hr, ha⟩
  | _, _, _, .dd (a := a) (kvs := kvs) (ds := ds) h t, r, n => by
    cases r
    obtain ⟨_, hs, vs, rk, o, es, ep, ho, hx, hd, hk, hp, _⟩ := (show ObjOk X.prog X.w H s.heap a (.dK kvs) from I.hok a _ h)
    obtain ⟨_, qv⟩ := keys_read (h := s.heap) rk hp
    have q := keys_read0 (h := s.heap) rk hp
    have hl : (kvs.map fun p => keyD p.1).length = ds.length := by
      rw [List.length_map, ← t.len, List.length_map]
    obtain ⟨bs, q2, hb⟩ := Da.reads2 I t qv (by rw [← noListK_zip hl]; exact n)
    refine ⟨a :: [] ++ bs, .dict (as := []) (bs := bs) ho hx.1 hd ?_ ?_, ?_⟩
    · rw [List.map_fst_zip (Nat.le_of_eq hl)]
      exact q
    · rw [List.map_snd_zip (Nat.le_of_eq hl.symm)]
      exact q2
    · intro z
      rcases List.mem_cons.mp z with z | z
      · rw [z] at hs
        exact absurd hs (by simp)
      · exact hb z
theorem Da.reads2 (I : Inv X pins σ H s) : ∀ {vs : List V} {ds : List PyData} {us : List Value}, Da X.K H vs ds → Vals vs us → noLists ds = true → ∃ as, ReadsAll s.heap us ds as ∧ sysModules ∉ as
  | _, _, _, .nil, r, _ => by
    cases r; exact ⟨_, .nil, List.not_mem_nil⟩
  | _, _, _, .cons h t, r, n => by
    cases r with
    | cons r1 r2 =>
      have n' := Bool.and_eq_true_iff.mp n
      obtain ⟨as, q1, a1⟩ := Dt.reads2 I h r1 n'.1
      obtain ⟨bs, q2, a2⟩ := Da.reads2 I t r2 n'.2
      exact ⟨_, .cons q1 q2, fun z => (List.mem_append.mp z).elim a1 a2⟩
end
end
section
variable {X : Cx} {e a b c : Expr} {es rest : List Expr} {pos : Pos} {bb : Bool} {f fa fb fc : FE PyData} {K : PySem.W.Frag}
/-! ### repr -/
def shownOk (d : PyData) : Bool := d.showable && decide (d.shown.length ≤ sizeLine) && decide (d.depth ≤ 60) && (!d.hasDict || noList d)
def reprD : List PyData → Option PyData
  | [d] => if shownOk d = true then some (.str d.shown) else none
  | _ => none
def rReprD (K : PySem.W.Frag) : List V → Hp → VK → Prop := fun xs H Q => ∃ v d, xs = [v] ∧ Dt K H v d ∧ shownOk d = true ∧ Q (.str d.shown) H
theorem call_reprD (hg : X.A.guards = some []) (hu : X.A.units + 64 < cLine) : CallR X (.builtin "repr") (rReprD X.K) := fun pins s σ H xs us Q I r ⟨v, d, ex, hd, ok, q⟩ => by
  subst ex
  obtain ⟨u, eu, ru⟩ := vals1 r
  subst eu
  unfold shownOk at ok
  rw [Bool.and_eq_true, Bool.and_eq_true, Bool.and_eq_true] at ok
  obtain ⟨⟨⟨h1, h2⟩, h3⟩, h4⟩ := ok
  have h2 := of_decide_eq_true h2
  have h3 := of_decide_eq_true h3
  have fin : ∀ (rd : ∃ as, Reads s.heap u d as ∧ (d.hasDict = true → sysModules ∉ as)) (a : Addr), u = .ref a → wpAny (model X.prog X.w) X.A (call (.builtin "repr") [u]) (EP X pins σ Q) X.xe s := fun ⟨as, rd, hm⟩ a ea => by
    subst ea
    exact repr_of_reads' rd h1 hm hg (by omega) (fun _ _ z => z) (fun h' u' tk hk => ⟨.str _, H, I.kept (t' := tk) hk, ⟨_, rfl⟩, q⟩) h2
  have rd : ∃ as, Reads s.heap u d as ∧ (d.hasDict = true → sysModules ∉ as) := by
    cases hh : d.hasDict with
    | false =>
      obtain ⟨as, z⟩ := hd.reads I ru
      exact ⟨as, z, fun w => nomatch w⟩
    | true =>
      rw [hh] at h4
      obtain ⟨as, z, zz⟩ := hd.reads2 I ru h4
      exact ⟨as, z, fun _ => zz⟩
  cases hd with
  | nn =>
    cases ru
    exact PySem.P.repr_of_none ⟨.str _, H, I.tok _, ⟨s.toks, by simp only [PyData.shown]⟩, q⟩
  | bb b =>
    cases ru
    refine PySem.P.repr_of_bool ⟨.str _, H, I.tok _, ⟨s.toks, ?_⟩, q⟩
    cases b <;> simp only [PyData.shown] <;> rfl
  | ii i =>
    obtain ⟨t, rfl⟩ := ru
    exact PySem.P.repr_of_int (of_decide_eq_true (by simpa only [PyData.showable] using h1)) ⟨.str _, H, I.tok _, ⟨s.toks, by simp only [PyData.shown]⟩, q⟩
  | ss x =>
    obtain ⟨t, rfl⟩ := ru
    exact PySem.P.repr_of_str ⟨.str _, H, I.tok _, ⟨s.toks, by simp only [PyData.shown]⟩, q⟩ (by simpa only [PyData.shown] using h2)
  | ll h t => exact fin rd _ ru
  | tt h t => exact fin rd _ ru
  | dd h t => exact fin rd _ ru
theorem d_repr : CallD K (rReprD K) reprD := fun G H xs ds z Q ex hd hz k => by
  unfold reprD at hz
  split at hz
  · obtain ⟨h1, rfl⟩ := ite_p hz
    cases hd with
    | cons h t =>
      cases t
      exact ⟨_, _, rfl, h.mono ex, h1, k _ G H .refl ex (.ss _)⟩
  · cases hz
/-! ### len -/
def lenD : List PyData → Option PyData
  | [.list ds] => some (.int ds.length)
  | [.tuple ds] => some (.int ds.length)
  | [.str z] => if z.length ≤ sizeLine then some (.int z.length) else none
  | _ => none
def rLenD (K : PySem.W.Frag) : List V → Hp → VK → Prop := fun xs H Q => (∃ p ys, xs = [.ref p] ∧ (SqL K H p ys ∨ SqT K H p ys) ∧ Q (.int ys.length) H) ∨ (∃ z, xs = [.str z] ∧ z.length ≤ sizeLine ∧ Q (.int z.length) H)
theorem call_lenD2 : CallR X (.builtin "len") (rLenD X.K) := call_len_seq.or call_len_str
theorem da_one {G : Hp} {vs : List V} {d : PyData} (h : Da K G vs [d]) : ∃ v, vs = [v] ∧ Dt K G v d := by
  cases h with
  | cons h t => cases t; exact ⟨_, rfl, h⟩
theorem da_two {G : Hp} {vs : List V} {d e : PyData} (h : Da K G vs [d, e]) : ∃ v u, vs = [v, u] ∧ Dt K G v d ∧ Dt K G u e := by
  cases h with
  | cons h t =>
    obtain ⟨u, rfl, hu⟩ := da_one t
    exact ⟨_, u, rfl, h, hu⟩
theorem d_len : CallD K (rLenD K) lenD := fun G H xs ds z Q ex hd hz k => by
  unfold lenD at hz
  split at hz
  · cases hz
    obtain ⟨v, rfl, h⟩ := da_one hd
    obtain ⟨a, ys, rfl, hy, dy⟩ := dt_list h
    refine .inl ⟨a, ys, rfl, .inl ((hy.mono ex).sq), ?_⟩
    rw [dy.len]
    exact k _ G H .refl ex (.ii _)
  · cases hz
    obtain ⟨v, rfl, h⟩ := da_one hd
    obtain ⟨a, ys, rfl, hy, dy⟩ := dt_tup h
    refine .inl ⟨a, ys, rfl, .inr (Evl.ex_t ex hy), ?_⟩
    rw [dy.len]
    exact k _ G H .refl ex (.ii _)
  · obtain ⟨h1, rfl⟩ := ite_p hz
    obtain ⟨v, rfl, h⟩ := da_one hd
    exact .inr ⟨_, by rw [dt_str h], h1, k _ G H .refl ex (.ii _)⟩
  · cases hz
/-! ### all, any, sum, abs, int, max, min, list, tuple -/
def boolsOf : List PyData → Option (List Bool)
  | [] => some []
  | .bool i :: r => (boolsOf r).map (i :: ·)
  | _ :: _ => none
theorem da_bools {G : Hp} : ∀ {ds : List PyData} {xs : List V} {bs : List Bool}, boolsOf ds = some bs → Da K G xs ds → xs = bs.map V.bl
  | [], _, bs, h, .nil => by cases h; rfl
  | .bool i :: r, _, bs, h, .cons q t => by
    unfold boolsOf at h
    obtain ⟨ms, h1, rfl⟩ := Option.map_eq_some_iff.mp h
    rw [List.map_cons, dt_bool q, da_bools h1 t]
  | .none :: _, _, _, h, _ => by cases h
  | .int _ :: _, _, _, h, _ => by cases h
  | .str _ :: _, _, _, h, _ => by cases h
  | .list _ :: _, _, _, h, _ => by cases h
  | .tuple _ :: _, _, _, h, _ => by cases h
  | .dict _ :: _, _, _, h, _ => by cases h
theorem boolsOf_map : ∀ bs : List Bool, boolsOf (bs.map .bool) = some bs
  | [] => rfl
  | b :: bs => by
    show (boolsOf (bs.map .bool)).map (b :: ·) = _
    rw [boolsOf_map bs]
    rfl
def allD : List PyData → Option PyData
  | [.list ds] => (boolsOf ds).map fun bs => .bool (bs.all id)
  | _ => none
def anyD : List PyData → Option PyData
  | [.list ds] => (boolsOf ds).map fun bs => .bool (bs.any id)
  | _ => none
def sumD : List PyData → Option PyData
  | [.list ds] => (intsOf ds).map fun bs => .int bs.sum
  | _ => none
theorem d_all : CallD K (rAll K) allD := fun G H xs ds z Q ex hd hz k => by
  unfold allD at hz
  split at hz
  · obtain ⟨bs, h1, rfl⟩ := Option.map_eq_some_iff.mp hz
    obtain ⟨v, rfl, h⟩ := da_one hd
    obtain ⟨a, ys, rfl, hy, dy⟩ := dt_list h
    obtain rfl := da_bools h1 dy
    exact ⟨a, bs, rfl, (hy.mono ex).sq, k _ G H .refl ex (.bb _)⟩
  · cases hz
theorem d_any : CallD K (rAny K) anyD := fun G H xs ds z Q ex hd hz k => by
  unfold anyD at hz
  split at hz
  · obtain ⟨bs, h1, rfl⟩ := Option.map_eq_some_iff.mp hz
    obtain ⟨v, rfl, h⟩ := da_one hd
    obtain ⟨a, ys, rfl, hy, dy⟩ := dt_list h
    obtain rfl := da_bools h1 dy
    exact ⟨a, bs, rfl, (hy.mono ex).sq, k _ G H .refl ex (.bb _)⟩
  · cases hz
theorem d_sum : CallD K (rSum K) sumD := fun G H xs ds z Q ex hd hz k => by
  unfold sumD at hz
  split at hz
  · obtain ⟨bs, h1, rfl⟩ := Option.map_eq_some_iff.mp hz
    obtain ⟨v, rfl, h⟩ := da_one hd
    obtain ⟨a, ys, rfl, hy, dy⟩ := dt_list h
    obtain rfl := intsOf_eq h1
    obtain rfl := da_ints dy
    exact ⟨a, bs, rfl, (hy.mono ex).sq, k _ G H .refl ex (.ii _)⟩
  · cases hz
def absD : List PyData → Option PyData
  | [.int i] => some (.int (if i < 0 then -i else i))
  | _ => none
def rAbs : List V → Hp → VK → Prop := fun xs H Q => ∃ i, xs = [.int i] ∧ Q (.int (if i < 0 then -i else i)) H
theorem d_abs : CallD K rAbs absD := fun G H xs ds z Q ex hd hz k => by
  unfold absD at hz
  split at hz
  · cases hz
    obtain ⟨v, rfl, h⟩ := da_one hd
    exact ⟨_, by rw [dt_int h], k _ G H .refl ex (.ii _)⟩
  · cases hz
def intD : List PyData → Option PyData
  | [.int i] => some (.int i)
  | [.bool b] => some (.int (if b then 1 else 0))
  | _ => none
def rInt1 : List V → Hp → VK → Prop := fun xs H Q => (∃ i, xs = [.int i] ∧ Q (.int i) H) ∨ ∃ k, xs = [.bl k] ∧ Q (.int (if k then 1 else 0)) H
theorem d_int : CallD K rInt1 intD := fun G H xs ds z Q ex hd hz k => by
  unfold intD at hz
  split at hz
  · cases hz
    obtain ⟨v, rfl, h⟩ := da_one hd
    exact .inl ⟨_, by rw [dt_int h], k _ G H .refl ex (.ii _)⟩
  · cases hz
    obtain ⟨v, rfl, h⟩ := da_one hd
    exact .inr ⟨_, by rw [dt_bool h], k _ G H .refl ex (.ii _)⟩
  · cases hz
def maxD : List PyData → Option PyData
  | [.int i, .int j] => some (.int (if j > i then j else i))
  | _ => none
def minD : List PyData → Option PyData
  | [.int i, .int j] => some (.int (if j < i then j else i))
  | _ => none
def rMax2 : List V → Hp → VK → Prop := fun xs H Q => ∃ i j, xs = [.int i, .int j] ∧ Q (.int (if j > i then j else i)) H
def rMin2 : List V → Hp → VK → Prop := fun xs H Q => ∃ i j, xs = [.int i, .int j] ∧ Q (.int (if j < i then j else i)) H
theorem d_max : CallD K rMax2 maxD := fun G H xs ds z Q ex hd hz k => by
  unfold maxD at hz
  split at hz
  · cases hz
    obtain ⟨v, u, rfl, h, h'⟩ := da_two hd
    exact ⟨_, _, by rw [dt_int h, dt_int h'], k _ G H .refl ex (.ii _)⟩
  · cases hz
theorem d_min : CallD K rMin2 minD := fun G H xs ds z Q ex hd hz k => by
  unfold minD at hz
  split at hz
  · cases hz
    obtain ⟨v, u, rfl, h, h'⟩ := da_two hd
    exact ⟨_, _, by rw [dt_int h, dt_int h'], k _ G H .refl ex (.ii _)⟩
  · cases hz
def listD : List PyData → Option PyData
  | [.list ds] => some (.list ds)
  | [.tuple ds] => some (.list ds)
  | _ => none
def tupleD : List PyData → Option PyData
  | [.list ds] => some (.tuple ds)
  | [.tuple ds] => some (.tuple ds)
  | _ => none
def rListD2 (K : PySem.W.Frag) : List V → Hp → VK → Prop := fun xs H Q => ∃ p ys, xs = [.ref p] ∧ (SqL K H p ys ∨ SqT K H p ys) ∧ ∀ l, H l = none → Q (.ref l) (upd H l (.lst ys))
def rTupD2 (K : PySem.W.Frag) : List V → Hp → VK → Prop := fun xs H Q => ∃ p ys, xs = [.ref p] ∧ ((SqL K H p ys ∧ ∀ l, H l = none → Q (.ref l) (upd H l (.tup ys))) ∨ (SqT K H p ys ∧ Q (.ref p) H))
theorem d_list : CallD K (rListD2 K) listD := fun G H xs ds z Q ex hd hz k => by
  unfold listD at hz
  have fin : ∀ {ys : List V} {es : List PyData} {l : Addr}, Da K G ys es → H l = none → z = .list es → Q (.ref l) (upd H l (.lst ys)) := fun {ys es l} dy hl ez => by
    subst ez
    have t : Tr nobody G H (upd G l (.lst ys)) (upd H l (.lst ys)) := Tr.new hl ex
    exact k _ _ _ t (ex_upd ex) (.ll (RL.of upd_same) (dy.mono t.g))
  split at hz
  · cases hz
    obtain ⟨v, rfl, h⟩ := da_one hd
    obtain ⟨a, ys, rfl, hy, dy⟩ := dt_list h
    exact ⟨a, ys, rfl, .inl ((hy.mono ex).sq), fun l hl => fin dy hl rfl⟩
  · cases hz
    obtain ⟨v, rfl, h⟩ := da_one hd
    obtain ⟨a, ys, rfl, hy, dy⟩ := dt_tup h
    exact ⟨a, ys, rfl, .inr (Evl.ex_t ex hy), fun l hl => fin dy hl rfl⟩
  · cases hz
theorem d_tuple : CallD K (rTupD2 K) tupleD := fun G H xs ds z Q ex hd hz k => by
  unfold tupleD at hz
  split at hz
  · cases hz
    obtain ⟨v, rfl, h⟩ := da_one hd
    obtain ⟨a, ys, rfl, hy, dy⟩ := dt_list h
    refine ⟨a, ys, rfl, .inl ⟨(hy.mono ex).sq, fun l hl => ?_⟩⟩
    have t : Tr nobody G H (upd G l (.tup ys)) (upd H l (.tup ys)) := Tr.new hl ex
    exact k _ _ _ t (ex_upd ex) (.tt (SqT.of upd_same) (dy.mono t.g))
  · cases hz
    obtain ⟨v, rfl, h⟩ := da_one hd
    obtain ⟨a, ys, rfl, hy, dy⟩ := dt_tup h
    exact ⟨a, ys, rfl, .inr ⟨Evl.ex_t ex hy, k _ G H .refl ex h⟩⟩
  · cases hz
/-! ### isinstance -/
def tyD : PyData → String
  | .none => "NoneType"
  | .bool _ => "bool"
  | .int _ => "int"
  | .str _ => "str"
  | .list _ => "list"
  | .tuple _ => "tuple"
  | .dict _ => "dict"
theorem ty_of {G H : Hp} (ex : Ex G H) {v : V} {d : PyData} (h : Dt K G v d) : TyX K H v (.type (tyD d)) := by
  cases h with
  | nn => exact .base .non
  | bb b => exact .base (.bl b)
  | ii i => exact .base (.int i)
  | ss x => exact .base (.str x)
  | ll h t =>
    rcases (h.mono ex) with (e | ⟨o, e⟩) | ⟨its, n, e, _⟩
    · exact .base (.lst e)
    · exact .base (.frz e)
    · exact .kList e rfl
  | tt h t =>
    rcases Evl.ex_t ex h with (e | ⟨o, e⟩) | ⟨o, its, n, e, c, _⟩
    · exact .base (.tup e)
    · exact .fTuple e
    · exact .kTuple e c
  | dd h t => exact .base (.dK (ex _ _ h))
def isiD (T : String) (d : PyData) : Option PyData := (kitB (tyD d) T).map .bool
theorem e_isi {T : String} {x xT : Str} {p q : Pos} (hg : Gl X x) (hm : X.mg x = none) (hv : bootBuiltins x = some (.builtin "isinstance")) (hgT : Gl X xT) (hmT : X.mg xT = none) (hvT : bootBuiltins xT = some (.type T))
    (ha : PE X a (tE X.K bb fa)) (hn : x ≠ "__name__" := by decide) (hdb : (x == ("__debug__" : Str)) = false := by decide) (hnT : xT ≠ "__name__" := by decide) (hdT : (xT == ("__debug__" : Str)) = false := by decide)
    (he : starEach (a :: [.Name xT q]) X.env = (false, eval a X.env) :: starEach [.Name xT q] X.env := by rfl) (hpl : (backTo pos (starEach [.Name xT q] X.env)).any (·.1) = false := by rfl) :
    PE X (.Call (.Name x p) [a, .Name xT q] [] pos) (tE X.K bb (fUn (isiD T) fa)) :=
  PE.weak (pe_callB call_isi hg hm hv (pa_cons ha (pa_cons (pe_bltn (v := .ty T) hgT hmT hvT rfl hnT hdT) pa_nil) he) hn hdb he hpl) fun σ H Q ⟨G, ρ, d, ρ', E, ef, k⟩ => by
    obtain ⟨y, ρ1, h1, h2⟩ := thnE_of ef
    obtain ⟨h5, rfl⟩ := liftO_of h2
    obtain ⟨b, hb, rfl⟩ := Option.map_eq_some_iff.mp h5
    exact ⟨G, ρ, y, ρ', E, h1, fun v G1 H1 t1 o1 E1 d1 => ⟨v, .ty T, _, _, b, rfl, .ty T, ty_of E1.ex d1, kit_ty hb, k _ G1 H1 t1 o1 E1 (.bb b)⟩⟩
/-! ### sorted -/
def allAlikeB (ds : List PyData) : Bool := ds.all fun d => ds.all fun e => PySem.W.alike d e
def isTup1 : PyData → Bool
  | .tuple (_ :: _) => true
  | _ => false
def isSortA : PyData → Bool
  | .none => false
  | .tuple _ => false
  | _ => true
def sortOk (ds : List PyData) : Bool := allAlikeB ds && (ds.all isTup1 || ds.all isSortA) && ds.all fun d => decide (d.depth ≤ 60)
theorem sortOk_of {ds : List PyData} (h : sortOk ds = true) : PySem.W.AllAlike ds ∧ PySem.W.Sortable ds ∧ ∀ d ∈ ds, d.depth ≤ 60 := by
  unfold sortOk at h
  rw [Bool.and_eq_true, Bool.and_eq_true] at h
  obtain ⟨⟨h1, h2⟩, h3⟩ := h
  refine ⟨fun d hd e he => ?_, ?_, fun d hd => of_decide_eq_true (List.all_eq_true.mp h3 d hd)⟩
  · exact List.all_eq_true.mp (List.all_eq_true.mp h1 d hd) e he
  · rcases Bool.or_eq_true_iff.mp h2 with h | h
    · refine .inl fun d hd => ?_
      have q := List.all_eq_true.mp h d hd
      unfold isTup1 at q
      split at q
      · exact ⟨_, _, rfl⟩
      · cases q
    · refine .inr fun d hd => ?_
      have q := List.all_eq_true.mp h d hd
      unfold isSortA at q
      split at q
      · cases q
      · cases q
      · rename_i h1 h2
        exact ⟨fun z => h1 z, fun xs z => h2 xs z⟩
def srt (ds : List PyData) : List PyData := ds.mergeSort (PySem.W.dataLe false id)
def sortedD : List PyData → Option PyData
  | [.list ds] => if sortOk ds = true then some (.list (srt ds)) else none
  | [.tuple ds] => if sortOk ds = true then some (.list (srt ds)) else none
  | _ => none
def rSortD (K : PySem.W.Frag) : List V → Hp → VK → Prop := fun vs H Q => ∃ (G : Hp) (a : Addr) (ds : List PyData), vs = [V.ref a] ∧ Ex G H ∧ (Dt K G (.ref a) (.list ds) ∨ Dt K G (.ref a) (.tuple ds)) ∧ sortOk ds = true ∧
  ∀ (xs : List V) (p : Addr), H p = none → Da K G xs (srt ds) → Q (.ref p) (upd H p (.lst xs))
theorem each_da {R : Value → PyData → Prop} {G : Hp} (w : ∀ v d u, Dt K G v d → RelV v u → R u d) : ∀ {xs : List V} {ds : List PyData} {us : List Value}, Da K G xs ds → Vals xs us → PySem.W.EachIs R us ds
  | _, _, _, .nil, .nil => .nil
  | _, _, _, .cons h t, .cons r q => .cons (w _ _ _ h r) (each_da w t q)
theorem da_each {G : Hp} : ∀ {ds : List PyData} {us : List Value}, PySem.W.EachIs (fun u d => ∃ v, RelV v u ∧ Dt K G v d) us ds → ∃ xs, Vals xs us ∧ Da K G xs ds
  | _, _, .nil => ⟨[], .nil, .nil⟩
  | _, _, .cons ⟨v, r, h⟩ t => by
    obtain ⟨xs, r2, h2⟩ := da_each t
    exact ⟨v :: xs, .cons r r2, .cons h h2⟩
theorem call_sortD (hu : X.A.units + 64 < cLine) : CallR X (.builtin "sorted") (rSortD X.K) := fun pins s σ H vs us Q I r ⟨G, a, ds, ev, ex, hd, ok, q⟩ => by
  subst ev
  rw [Vals.ref1 r]
  obtain ⟨h1, h2, h3⟩ := sortOk_of ok
  have bound : ∀ b ∈ ds, X.A.units + 2 + b.depth < cLine := fun b hb => by
    have := h3 b hb
    omega
  have fin : ∀ (its : List Value) (hz : ds.length ≤ sizeLine) (out : List Value), out.length = ds.length → PySem.W.EachIs (fun u d => ∃ v, RelV v u ∧ Dt X.K G v d) out (srt ds) →
      (∃ v H1, Inv X pins σ H1 { s with heap := PyProof.Rows.sortedAll s.heap its out.toArray } ∧ RelV v (.ref (s.heap.objs.size + 1)) ∧ Q v H1) := fun its hz out e1 e2 => by
    obtain ⟨ys, r2, dy⟩ := da_each e2
    obtain ⟨ep, he'⟩ := PyProof.Rows.sortedAll_at s.heap its out.toArray
    have hlen : ys.length ≤ sizeLine := by rw [r2.length, e1]; exact hz
    exact ⟨.ref (s.heap.objs.size + 1), upd H (s.heap.objs.size + 1) (.lst ys), I.laid (t' := s.toks) (fun _ _ => PyProof.Rows.sortedAll_old) (Nat.le_succ _) ⟨hlen, out, ep, r2, he'⟩, rfl, q _ _ (I.hok.fresh (Nat.le_succ _)) dy⟩
  rcases hd with hd | hd
  · obtain ⟨a', xs, ea, hx, dx⟩ := dt_list hd
    cases ea
    obtain ⟨its, rv, hl, hz⟩ := I.list ((hx.mono ex).sq)
    exact PySem.W.sorted_data (enc := id) (bs := ds) (R := fun u d => ∃ v, RelV v u ∧ Dt X.K G v d) hl.isList (each_da (fun v d u h r => ⟨v, r, h⟩) dx rv) (each_da (fun v d u h r => (h.mono ex).reads I r) dx rv) (by rw [List.map_id]; exact h1)
      (by rw [List.map_id]; exact h2) (by rw [← dx.len]; exact hz) bound fun out e1 e2 => fin its (by rw [← dx.len]; exact hz) out e1 e2
  · obtain ⟨a', xs, ea, hx, dx⟩ := dt_tup hd
    cases ea
    obtain ⟨its, rv, hl, hz⟩ := I.tuple (Evl.ex_t ex hx)
    exact PySem.W.sortT_data (bs := ds) (R := fun u d => ∃ v, RelV v u ∧ Dt X.K G v d) hl (each_da (fun v d u h r => ⟨v, r, h⟩) dx rv) (each_da (fun v d u h r => (h.mono ex).reads I r) dx rv) h1 h2 (by rw [← dx.len]; exact hz) bound fun out e1 e2 => fin its (by rw [← dx.len]; exact hz) out e1 e2
theorem d_sorted : CallD K (rSortD K) sortedD := fun G H xs ds z Q ex hd hz k => by
  have fin : ∀ (a : Addr) (es : List PyData), (Dt K G (.ref a) (.list es) ∨ Dt K G (.ref a) (.tuple es)) → sortOk es = true → z = .list (srt es) → rSortD K [.ref a] H Q := fun a es h h1 ez => by
    subst ez
    refine ⟨G, a, es, rfl, ex, h, h1, fun zs p hp dz => ?_⟩
    have t : Tr nobody G H (upd G p (.lst zs)) (upd H p (.lst zs)) := Tr.new hp ex
    exact k _ _ _ t (ex_upd ex) (.ll (RL.of upd_same) (dz.mono t.g))
  unfold sortedD at hz
  split at hz
  · obtain ⟨h1, rfl⟩ := ite_p hz
    obtain ⟨v, rfl, h⟩ := da_one hd
    obtain ⟨a, ys, rfl, hy, dy⟩ := dt_list h
    exact fin a _ (.inl h) h1 rfl
  · obtain ⟨h1, rfl⟩ := ite_p hz
    obtain ⟨v, rfl, h⟩ := da_one hd
    obtain ⟨a, ys, rfl, hy, dy⟩ := dt_tup h
    exact fin a _ (.inr h) h1 rfl
  · cases hz
end
end Tw

set_option Elab.async false
set_option linter.all false
set_option maxRecDepth 100000
set_option maxHeartbeats 2000000
namespace Tw
open PySem PySem.Spec PyProof.Rows L2
open Evl (Ex)
/-! ### readings of statements -/
inductive Out where
  | nx (ρ : Rho)
  | rt (d : PyData) (ρ : Rho)
  | rf (ds : List PyData) (ρ : Rho)
  | bk (ρ : Rho)
  | ct (ρ : Rho)
abbrev FS := Rho → Option Out
structure Stp (P : List Nat) (G H : Hp) (σ : L2.St) (ρ : Rho) (G' H' : Hp) (σ' : L2.St) (ρ' : Rho) : Prop where
  t : Tr (own σ ρ) G H G' H'
  o : ∀ l, own σ' ρ' l → own σ ρ l ∨ H l = none
  p : ∀ i ∈ P, σ'[i]? = σ[i]?
def Kont (K : PySem.W.Frag) (P : List Nat) (G H : Hp) (σ : L2.St) (ρ : Rho) (D : Ends) : Out → Prop
  | .nx ρ' => ∀ σ' G' H', Stp P G H σ ρ G' H' σ' ρ' → EnvOk K G' H' σ' ρ' → D.nx σ' H'
  | .rt d ρ' => ∀ v σ' G' H', Stp P G H σ ρ G' H' σ' ρ' → EnvOk K G' H' σ' ρ' → Dt K G' v d → D.rt v H'
  | .rf ds ρ' => ∀ p xs σ' G' H', Stp P G H σ ρ G' H' σ' ρ' → EnvOk K G' H' σ' ρ' → (own σ ρ p ∨ H p = none) → ¬ own σ' ρ' p → G' p = none → H' p = some (.lst xs) → Da K G' xs ds → D.rt (.ref p) H'
  | .bk ρ' => ∀ σ' G' H', Stp P G H σ ρ G' H' σ' ρ' → EnvOk K G' H' σ' ρ' → D.bk σ' H'
  | .ct ρ' => ∀ σ' G' H', Stp P G H σ ρ G' H' σ' ρ' → EnvOk K G' H' σ' ρ' → D.ct σ' H'
def tS (K : PySem.W.Frag) (P : List Nat) (f : FS) : TS := fun D σ H => ∃ (G : Hp) (ρ : Rho) (o : Out), EnvOk K G H σ ρ ∧ f ρ = some o ∧ Kont K P G H σ ρ D o
section
variable {K : PySem.W.Frag} {P : List Nat} {G H G1 H1 G2 H2 : Hp} {σ σ1 σ2 : L2.St} {ρ ρ1 ρ2 : Rho} {D : Ends} {o : Out}
theorem Stp.refl : Stp P G H σ ρ G H σ ρ := ⟨.refl, fun _ q => .inl q, fun _ _ => rfl⟩
theorem Stp.trans (a : Stp P G H σ ρ G1 H1 σ1 ρ1) (b : Stp P G1 H1 σ1 ρ1 G2 H2 σ2 ρ2) : Stp P G H σ ρ G2 H2 σ2 ρ2 where
  t := a.t.trans b.t fun x u e q => (a.o x q).elim id fun z => by rw [z] at e; cases e
  o := fun l q => (b.o l q).elim (a.o l) fun z => by
    cases e : H l with
    | none => exact .inr rfl
    | some u =>
      by_cases w : own σ ρ l
      · exact .inl w
      · have := a.t.h l u e w
        rw [z] at this
        cases this
  p := fun i h => (b.p i h).trans (a.p i h)
theorem tr_back {ow : Addr → Prop} (t : Tr ow G H G1 H1) {p : Addr} (hp : H1 p = none) : H p = none := by
  cases q : H p with
  | none => rfl
  | some u =>
    obtain ⟨u', z⟩ := t.k p u q
    rw [hp] at z
    cases z
/-- an expression's step -/
theorem Stp.of {b : Bool} (t : Tr (ows b σ ρ) G H G1 H1) (o : ∀ l, own σ ρ1 l → own σ ρ l) : Stp P G H σ ρ G1 H1 σ ρ1 := ⟨t.wide fun _ _ _ q => q.2, fun l q => .inl (o l q), fun _ _ => rfl⟩
theorem Kont.pre (a : Stp P G H σ ρ G1 H1 σ1 ρ1) (k : Kont K P G H σ ρ D o) : Kont K P G1 H1 σ1 ρ1 D o := by
  cases o with
  | nx r => exact fun σ' G' H' b E => k σ' G' H' (a.trans b) E
  | rt d r => exact fun v σ' G' H' b E dv => k v σ' G' H' (a.trans b) E dv
  | rf ds r => exact fun p xs σ' G' H' b E w1 w2 w3 w4 w5 => k p xs σ' G' H' (a.trans b) E (w1.elim (a.o p) fun z => .inr (tr_back a.t z)) w2 w3 w4 w5
  | bk r => exact fun σ' G' H' b E => k σ' G' H' (a.trans b) E
  | ct r => exact fun σ' G' H' b E => k σ' G' H' (a.trans b) E
end
def fSeq (f g : FS) : FS := fun ρ => (f ρ).bind fun o => match o with
  | .nx ρ' => g ρ'
  | o => some o
def fNext : FS := fun ρ => some (.nx ρ)
section
variable {X : Cx} {st : Stmt} {sts body : List Stmt} {e a b c : Expr} {P : List Nat} {f g : FS} {fe fa fb : FE PyData} {pos : Pos} {bb : Bool}
theorem s_nil : PSs X [] (tS X.K P fNext) := PSs.weak pss_nil fun D σ H ⟨G, ρ, o, E, ef, k⟩ => by
  cases ef
  exact k σ G H .refl E
theorem s_cons (h1 : PS X st (tS X.K P f)) (h2 : PSs X sts (tS X.K P g)) : PSs X (st :: sts) (tS X.K P (fSeq f g)) := PSs.weak (pss_cons h1 h2) fun D σ H ⟨G, ρ, o, E, ef, k⟩ => by
  unfold fSeq at ef
  obtain ⟨o1, h1, h2⟩ := Option.bind_eq_some_iff.mp ef
  refine ⟨G, ρ, o1, E, h1, ?_⟩
  cases o1 with
  | nx r => exact fun σ' G' H' s' E' => ⟨G', r, o, E', h2, k.pre s'⟩
  | rt d r => cases h2; exact k
  | rf ds r => cases h2; exact k
  | bk r => cases h2; exact k
  | ct r => cases h2; exact k
theorem s_one (h1 : PS X st (tS X.K P f)) : PSs X [st] (tS X.K P f) := PSs.weak (pss_one h1) fun _ _ _ h => h
theorem s_pass : PS X (.Pass pos) (tS X.K P fNext) := PS.weak ps_pass fun D σ H ⟨G, ρ, o, E, ef, k⟩ => by
  cases ef
  exact k σ G H .refl E
theorem s_doc {x j pos'} : PS X (.Expr (.Constant (.str x) j pos) pos') (tS X.K P fNext) := PS.weak ps_doc fun D σ H ⟨G, ρ, o, E, ef, k⟩ => by
  cases ef
  exact k σ G H .refl E
theorem s_break : PS X (.Break pos) (tS X.K P fun ρ => some (.bk ρ)) := PS.weak ps_break fun D σ H ⟨G, ρ, o, E, ef, k⟩ => by
  cases ef
  exact k σ G H .refl E
theorem s_continue : PS X (.Continue pos) (tS X.K P fun ρ => some (.ct ρ)) := PS.weak ps_continue fun D σ H ⟨G, ρ, o, E, ef, k⟩ => by
  cases ef
  exact k σ G H .refl E
def fNever : FS := fun _ => none
theorem s_never : PS X st (tS X.K P fNever) := PS.weak ps_never fun D σ H ⟨G, ρ, o, E, ef, k⟩ => by cases ef
theorem ss_never : PSs X sts (tS X.K P fNever) := PSs.weak pss_never fun D σ H ⟨G, ρ, o, E, ef, k⟩ => by cases ef
def fRet (f : FE PyData) : FS := fun ρ => (f ρ).map fun p => .rt p.1 p.2
theorem s_ret (h : PE X e (tE X.K bb fe)) : PS X (.Return (some e) pos) (tS X.K P (fRet fe)) := PS.weak (ps_ret h) fun D σ H ⟨G, ρ, o, E, ef, k⟩ => by
  obtain ⟨⟨d, ρ'⟩, h1, rfl⟩ := Option.map_eq_some_iff.mp ef
  exact ⟨G, ρ, d, ρ', E, h1, fun v G' H' t o E' d' => k v σ G' H' (.of t o) E' d'⟩
theorem s_retN : PS X (.Return none pos) (tS X.K P (fRet (ret .none))) := PS.weak ps_retN fun D σ H ⟨G, ρ, o, E, ef, k⟩ => by
  cases ef
  exact k .non σ G H .refl E .nn
def fDrop (f : FE PyData) : FS := fun ρ => (f ρ).map fun p => .nx p.2
theorem s_drop (h : PE X e (tE X.K bb fe)) (hs : swapsWith e none pos.line X.env = pure false := by rfl) : PS X (.Expr e pos) (tS X.K P (fDrop fe)) := PS.weak (ps_expr h hs) fun D σ H ⟨G, ρ, o, E, ef, k⟩ => by
  obtain ⟨⟨d, ρ'⟩, h1, rfl⟩ := Option.map_eq_some_iff.mp ef
  exact ⟨G, ρ, d, ρ', E, h1, fun v G' H' t o E' d' => k σ G' H' (.of t o) E'⟩
def fIfS (t : FE Bool) (f g : FS) : FS := fun ρ => (t ρ).bind fun p => if p.1 = true then f p.2 else g p.2
theorem s_if {t : FE Bool} {ta tb : List Stmt} (hc : PT X c (tT X.K bb t)) (ha : PSs X ta (tS X.K P f)) (hb : PSs X tb (tS X.K P g)) : PS X (.If c ta tb pos) (tS X.K P (fIfS t f g)) := PS.weak (ps_if hc ha hb) fun D σ H ⟨G, ρ, o, E, ef, k⟩ => by
  obtain ⟨⟨q, ρ1⟩, h1, h2⟩ := Option.bind_eq_some_iff.mp ef
  refine ⟨G, ρ, q, ρ1, E, h1, fun G1 H1 t1 o1 E1 => ?_⟩
  cases q with
  | true =>
    rw [if_pos rfl]
    exact ⟨G1, ρ1, o, E1, h2, k.pre (.of t1 o1)⟩
  | false =>
    rw [if_neg Bool.false_ne_true]
    exact ⟨G1, ρ1, o, E1, h2, k.pre (.of t1 o1)⟩
end
/-! ### targets -/
abbrev FG := PyData → Rho → Option Rho
/-- the slots behind a store -/
structure Sto (P : List Nat) (σ : L2.St) (ρ : Rho) (σ' : L2.St) (ρ' : Rho) : Prop where
  o : ∀ l, own σ' ρ' l → own σ ρ l
  p : ∀ i ∈ P, σ'[i]? = σ[i]?
  l : σ'.length = σ.length
def tG (K : PySem.W.Frag) (P : List Nat) (f : FG) : TG := fun v σ H Q => ∃ (G : Hp) (ρ : Rho) (d : PyData) (ρ' : Rho), EnvOk K G H σ ρ ∧ Dt K G v d ∧ f d ρ = some ρ' ∧ ∀ σ', Sto P σ ρ σ' ρ' → EnvOk K G H σ' ρ' → Q σ' H
def gNm (i : Nat) : FG := fun d ρ => if i < ρ.length then some (ρ.set i (.d d)) else none
section
variable {K : PySem.W.Frag} {P : List Nat} {G H G1 H1 : Hp} {σ : L2.St} {ρ : Rho}
theorem set_get {α : Type} {l : List α} {i j : Nat} {x y : α} (h : (l.set i x)[j]? = some y) : (j = i ∧ y = x) ∨ (j ≠ i ∧ l[j]? = some y) := by
  by_cases e : j = i
  · subst e
    rw [List.getElem?_set_self'] at h
    cases q : l[j]? with
    | none => rw [q] at h; cases h
    | some z => rw [q] at h; exact .inl ⟨rfl, (Option.some.inj h).symm⟩
  · rw [List.getElem?_set_ne (Ne.symm e)] at h
    exact .inr ⟨e, h⟩
theorem own_set {i : Nat} {v : Option V} {x : PyData} {l : Addr} (h : own (σ.set i v) (ρ.set i (.d x)) l) : own σ ρ l := by
  obtain ⟨j, ds, h1, h2⟩ := h
  rcases set_get h1 with ⟨_, q⟩ | ⟨n, h1⟩
  · cases q
  · rw [List.getElem?_set_ne (Ne.symm n)] at h2
    exact ⟨j, ds, h1, h2⟩
theorem EnvOk.set (E : EnvOk K G H σ ρ) {i : Nat} (hi : i < ρ.length) {v : V} {x : PyData} (d : Dt K G v x) : EnvOk K G H (σ.set i (some v)) (ρ.set i (.d x)) where
  ex := E.ex
  len := by rw [List.length_set, List.length_set, E.len]
  dat := fun j y h => by
    rcases set_get h with ⟨rfl, q⟩ | ⟨n, h⟩
    · cases q
      exact ⟨v, List.getElem?_set_self (by rw [E.len]; exact hi), d⟩
    · rw [List.getElem?_set_ne (Ne.symm n)]
      exact E.dat j y h
  mu := fun j y h => by
    rcases set_get h with ⟨rfl, q⟩ | ⟨n, h⟩
    · cases q
    · rw [List.getElem?_set_ne (Ne.symm n)]
      exact E.mu j y h
  ne := fun j k ds es l h1 h2 h3 h4 => by
    rcases set_get h1 with ⟨_, q⟩ | ⟨n1, h1⟩
    · cases q
    rcases set_get h2 with ⟨_, q⟩ | ⟨n2, h2⟩
    · cases q
    rw [List.getElem?_set_ne (Ne.symm n1)] at h3
    rw [List.getElem?_set_ne (Ne.symm n2)] at h4
    exact E.ne j k ds es l h1 h2 h3 h4
theorem PG.weak {X : Cx} {e : Expr} {t t' : TG} (h : PG X e t) (w : ∀ v σ H Q, t' v σ H Q → t v σ H Q) : PG X e t' := ⟨fun pins s σ H v u Q I r q => h.run pins s σ H v u Q I r (w v σ H Q q)⟩
theorem g_nm {X : Cx} {e : Expr} {i : Nat} (hp : i ∉ P) (h : PG X e (gName i)) : PG X e (tG X.K P (gNm i)) := PG.weak h fun v σ H Q ⟨G, ρ, d, ρ', E, dv, ef, k⟩ => by
  obtain ⟨hi, rfl⟩ := ite_p ef
  exact k _ ⟨fun l q => own_set q, fun j hj => List.getElem?_set_ne fun z => hp (by rw [z]; exact hj), List.length_set⟩ (E.set hi dv)
/-- a, b, .. = a tuple -/
def gSeq : List FG → List PyData → Rho → Option Rho
  | [], [], ρ => some ρ
  | f :: fs, d :: ds, ρ => (f d ρ).bind fun ρ1 => gSeq fs ds ρ1
  | _, _, _ => none
def gTp (fs : List FG) : FG := fun d ρ => match d with
  | .tuple ds => gSeq fs ds ρ
  | _ => none
def tGs (K : PySem.W.Frag) (P : List Nat) (fs : List FG) : TGs := fun vs σ H Q => ∃ (G : Hp) (ρ : Rho) (ds : List PyData) (ρ' : Rho), EnvOk K G H σ ρ ∧ Da K G vs ds ∧ gSeq fs ds ρ = some ρ' ∧ ∀ σ', Sto P σ ρ σ' ρ' → EnvOk K G H σ' ρ' → Q σ' H
theorem PGs.weak {X : Cx} {es : List Expr} {t t' : TGs} (h : PGs X es t) (w : ∀ v σ H Q, t' v σ H Q → t v σ H Q) : PGs X es t' := ⟨fun pins s σ H v u Q I r q => h.run pins s σ H v u Q I r (w v σ H Q q)⟩
theorem gs_nil {X : Cx} : PGs X [] (tGs X.K P []) := PGs.weak pgs_nil fun v σ H Q ⟨G, ρ, ds, ρ', E, dv, ef, k⟩ => by
  cases dv with
  | nil =>
    cases ef
    exact ⟨rfl, k σ ⟨fun _ q => q, fun _ _ => rfl, rfl⟩ E⟩
  | cons h t => cases ef
theorem gs_cons {X : Cx} {e : Expr} {es : List Expr} {f : FG} {fs : List FG} (h1 : PG X e (tG X.K P f)) (h2 : PGs X es (tGs X.K P fs)) (hs : (assignEach (e :: es) X.env).map (·.2) = assign e X.env :: (assignEach es X.env).map (·.2) := by rfl) :
    PGs X (e :: es) (tGs X.K P (f :: fs)) := PGs.weak (pgs_cons h1 h2 hs) fun v σ H Q ⟨G, ρ, ds, ρ', E, dv, ef, k⟩ => by
  cases dv with
  | nil => cases ef
  | cons h t =>
    obtain ⟨ρ1, q1, q2⟩ := Option.bind_eq_some_iff.mp ef
    exact ⟨_, _, rfl, G, ρ, _, ρ1, E, h, q1, fun σ1 s1 E1 => ⟨G, ρ1, _, ρ', E1, t, q2, fun σ2 s2 E2 => k σ2 ⟨fun l q => s1.o l (s2.o l q), fun i q => (s2.p i q).trans (s1.p i q), s2.l.trans s1.l⟩ E2⟩⟩
theorem gSeq_len : ∀ {fs : List FG} {ds : List PyData} {ρ ρ' : Rho}, gSeq fs ds ρ = some ρ' → ds.length = fs.length
  | [], [], _, _, _ => rfl
  | f :: fs, d :: ds, ρ, ρ', h => by
    obtain ⟨ρ1, q1, q2⟩ := Option.bind_eq_some_iff.mp h
    show ds.length + 1 = fs.length + 1
    rw [gSeq_len q2]
  | [], _ :: _, _, _, h => by cases h
  | _ :: _, [], _, _, h => by cases h
end
/-! ### x = e -/
def fAsg (f : FE PyData) (g : FG) : FS := fun ρ => (f ρ).bind fun p => (g p.1 p.2).map .nx
section
variable {X : Cx} {e tg : Expr} {P : List Nat} {fe : FE PyData} {g : FG} {pos : Pos} {bb : Bool}
theorem asg_run {σ : L2.St} {H : Hp} {D : Ends} (h : tS X.K P (fAsg fe g) D σ H) : tAsg (tE X.K bb fe) (tG X.K P g) D σ H := by
  obtain ⟨G, ρ, o, E, ef, k⟩ := h
  obtain ⟨⟨d, ρ1⟩, h1, h2⟩ := Option.bind_eq_some_iff.mp ef
  obtain ⟨ρ2, h3, rfl⟩ := Option.map_eq_some_iff.mp h2
  exact ⟨G, ρ, d, ρ1, E, h1, fun v G1 H1 t1 o1 E1 d1 => ⟨G1, ρ1, d, ρ2, E1, d1, h3, fun σ' s' E' => k σ' G1 H1 (Stp.trans (.of t1 o1) ⟨.refl, fun l q => .inl (s'.o l q), s'.p⟩) E'⟩⟩
theorem s_asg (he : PE X e (tE X.K bb fe)) (hg : PG X tg (tG X.K P g)) (hs : swapsWithSole [tg] e pos.line X.env = pure false := by rfl) (hw : swappedStores [tg] e X.env = pure none := by rfl)
    (h1 : (assignEach [tg] X.env).map (·.2) = [assign tg X.env] := by rfl) : PS X (.Assign [tg] e pos) (tS X.K P (fAsg fe g)) := PS.weak (ps_asg he hg hs hw h1) fun _ _ _ h => asg_run h
end
end Tw

set_option Elab.async false
set_option linter.all false
set_option maxRecDepth 100000
set_option maxHeartbeats 2000000
namespace Tw
open PySem PySem.Spec PyProof.Rows L2
open Evl (Ex)
section
variable {X : Cx} {P : List Nat} {pos : Pos}
theorem g_tp {es : List Expr} {k : Nat} {fs : List FG} (hc : X.calm = true) (h : PGs X es (tGs X.K P fs)) (hn : (assignEach es X.env).length = fs.length := by rfl) (hst : (assignEach es X.env).findIdx? (·.1) = none := by rfl) :
    PG X (.Tuple es k pos) (tG X.K P (gTp fs)) := PG.weak (pg_tup (n := fs.length) hc h hn hst) fun v σ H Q ⟨G, ρ, d, ρ', E, dv, ef, k⟩ => by
  unfold gTp at ef
  split at ef
  · obtain ⟨a, xs, rfl, hx, dx⟩ := dt_tup dv
    exact ⟨a, xs, rfl, Evl.ex_t E.ex hx, by rw [dx.len]; exact gSeq_len ef, G, ρ, _, ρ', E, dx, ef, k⟩
  · cases ef
end
/-! ### defs: as in the layer, where no repr is on its way -/
/-- a def's promise, wherever nothing is being shown -/
structure FnG (Pr : Program) (w : World) (K : PySem.W.Frag) (mg : Str → Option Value) (base : Heap) (k : Nat) (f : Addr) (fd : FuncData) (ps : List Str) (sp : Sp) : Prop where
  len : ∀ vs H Q E, sp vs H Q E → vs.length = ps.length
  run : ∀ (A : Around), A.guards = some [] → Room k A → ∀ (outer : List Env) (s : Shared) (H : Hp) (args : Args) (us : List Value) (vs : List V) (Q : VK), Env0 Pr w K mg base A outer s H → BindsTo s fd args (ps.zip us) → Vals vs us →
    sp vs H Q E0 → codeAny (model Pr w) A (.call (.ref f) args) (CR CX0 outer Pr w H s Q E0) s
section
variable {Pr : Program} {w : World} {K : PySem.W.Frag} {mg : Str → Option Value} {base : Heap} {k : Nat} {f : Addr} {fd : FuncData} {ps : List Str} {sp : Sp}
theorem FnG.imp (F : FnG Pr w K mg base k f fd ps sp) {sp' : Sp} (h : ∀ vs H Q E, sp' vs H Q E → sp vs H Q E) : FnG Pr w K mg base k f fd ps sp' :=
  ⟨fun vs H Q E q => F.len vs H Q E (h vs H Q E q), fun A hg hr outer s H args us vs Q e hb r q => F.run A hg hr outer s H args us vs Q e hb r (h vs H Q E0 q)⟩
theorem FnG.up (F : FnG Pr w K mg base k f fd ps sp) {j : Nat} (h : k ≤ j) : FnG Pr w K mg base j f fd ps sp := ⟨F.len, fun A hg hr => F.run A hg (hr.mono h)⟩
end
/-- where a body runs -/
structure Here (k : Nat) (X : Cx) : Prop where
  g : X.A.guards = some []
  r : Room k X.A
  c : X.calm = true
theorem Here.u {k : Nat} {X : Cx} (h : Here k X) : X.A.units + 64 < cLine := h.r.units
theorem Here.u0 {k : Nat} {X : Cx} (h : Here k X) : X.A.units < cLine := h.r.units0
theorem Here.blk {k : Nat} {X : Cx} (h : Here k X) {s : Shared} {H : Hp} {sc : Scope} {en : Env} {fp : List Addr} : Here k (X.blk s H sc en fp) := ⟨h.g, h.r, h.c⟩
section
variable {X : Cx} {k : Nat} {f : Addr} {fd : FuncData} {ps : List Str} {sp : Sp} {x : Str} {p pos : Pos} {e : Expr} {es : List Expr} {t : TA}
theorem call_G (F : FnG X.prog X.w X.K X.mg X.base k f fd ps sp) (hh : Here k X) (hg : Gl X x) (hm : X.mg x = some (.ref f)) (hk : PySem.W.keepIn X.K (.ref f) = true) (hb : Binds X.K fd ps [])
    (ha : PA X (e :: es) t) (hdb : (x == ("__debug__" : Str)) = false := by decide) (he : starEach (e :: es) X.env = (false, eval e X.env) :: starEach es X.env := by rfl) (hpl : (backTo pos (starEach es X.env)).any (·.1) = false := by rfl) :
    PE X (.Call (.Name x p) (e :: es) [] pos) (fun σ H Q => t σ H fun vs H1 => sp vs H1 Q E0) := ⟨fun pins s σ H Q I h => by
  refine wpAny_Call_Name_kw (ld_glob I hg hm ?_ hdb)
  refine PySem.W.callWith_K (h₀ := X.base) I.ok.mod.kin hk (thn (ha.run pos pins s σ H _ I h) fun us s1 hz => ?_) he hpl
  obtain ⟨vs, H1, J, r, q⟩ := hz
  refine ⟨J.kIn, ?_⟩
  have hl := F.len _ _ _ _ q
  have bd := hb s1 us J.kIn (by rw [List.append_nil, ← r.length]; exact hl)
  rw [List.append_nil] at bd
  refine wpAny_call (codeAny_mono (F.run X.A hh.g hh.r X.stack s1 H1 ⟨us, []⟩ us vs Q J.env0 bd r q) fun rr s2 hq => ?_)
  match rr, hq with
  | .ok (.ret _), hq => exact J.after hq
  | .ok .next, hq => exact False.elim hq
  | .ok .brk, hq => exact False.elim hq
  | .ok .cont, hq => exact False.elim hq
  | .error _, hq => exact False.elim hq⟩
end
/-- where a def's body runs -/
abbrev bx (Pr : Program) (w : World) (K : PySem.W.Frag) (mg : Str → Option Value) (base : Heap) (N : List Str) (qual : Str) (st : Stmt) (f : Addr) (cdv : Value) (A : Around) (outer : List Env) (s : Shared) (H : Hp) : Cx :=
  (cxOf CX0 Pr w K mg base N qual (defScope st) f cdv A outer s H E0).nox
/-- a def by its body -/
theorem fn_G {Pr : Program} {w : World} {K : PySem.W.Frag} {mg : Str → Option Value} {base : Heap} {x qual : Str} {st : Stmt} {f : Addr} {fd : FuncData} {N ps : List Str} {k : Nat} {sp : Sp} (F : Fun K x qual st f fd) (S : FnScope N ps (defScope st))
    (len : ∀ vs H Q E, sp vs H Q E → vs.length = ps.length)
    (body : ∀ (cdv : Value) (A : Around) (outer : List Env) (s : Shared) (H : Hp), Here k (bx Pr w K mg base N qual st f cdv A outer s H) → ∀ vs Q, sp vs H Q E0 →
      ∃ t, PSs (bx Pr w K mg base N qual st f cdv A outer s H) (defBody st) t ∧ t { nx := fun _ H' => Q .non H', rt := Q } (L2.start N vs) H) : FnG Pr w K mg base (k + 1) f fd ps sp := by
  obtain ⟨oc, od, kV, doc, pm, an, cdv, ct, osl, rfl, lk, hcd⟩ := F.ex
  refine ⟨len, fun A hg hr outer s H args us vs Q e0 hb r hsp => ?_⟩
  have KX : K.In s.heap := e0.mod.kin.keeps fun b o z => (e0.bs b o z).1
  have lim : s.heap.NoLimit := e0.mod.nolimit.keeps fun b o z => (e0.bs b o z).1
  have kinds : ∀ y ∈ ps.zip us, (defScope st).names.lookup y.1 = some .local ∨ ((defScope st).names.lookup y.1 = some .cell ∧ ((cellsFrom (s.heap.objs.size + 1) (defScope st).names []).lookup y.1).isSome = true) := fun ⟨n, v⟩ hy =>
    (S.par n (List.of_mem_zip hy).1).imp id fun q => ⟨q, PySem.W.cellsFrom_some _ _ _ (.inl q)⟩
  refine codeAny_call_function hr.depth (KX _ _ lk) rfl S.co S.gen rfl (PySem.W.codeRec_of KX hcd) (hb _ _ _ _ ?_)
  refine wpAny_newFunctionEnv_cells S.kind kinds fun env he s1 y => ?_
  subst he
  refine ⟨lim.keeps y.toInCall.keep, codeAny_func ?_⟩
  have I : Inv (cxOf CX0 Pr w K mg base N qual (defScope st) f cdv A outer s H E0) [] (start N vs) H s1 := inv_start S hr.hd e0 (len _ _ _ _ hsp) r y
  obtain ⟨t, ht, hq⟩ := body cdv A outer s H ⟨hg, hr.deeper _, rfl⟩ vs Q hsp
  have done : ∀ {σ' : L2.St} {H' : Hp} {v : V} {u : Value} {s' : Shared}, Inv (cxOf CX0 Pr w K mg base N qual (defScope st) f cdv A outer s H E0) [] σ' H' s' → RelV v u → Q v H' → CE outer Pr w H s Q u s' :=
    fun {σ' H' v u s'} J rv q => ⟨v, H', J.os, J.bare, J.base, J.hok, rv, q⟩
  refine wpAny_mono (ht.nox.run [] s1 (start N vs) H _ I hq) (fun fl s2 hs => ?_) fun _ _ hs => hs
  match fl, hs with
  | .ret _, ⟨_, _, _, J, rv, q⟩ => exact done J rv q
  | .next, ⟨_, _, J, q⟩ => exact done (v := V.non) (u := Value.none) J rfl q
  | .brk, ⟨_, _, _, q⟩ => exact q.elim
  | .cont, ⟨_, _, _, q⟩ => exact q.elim

/-! ### a def of data: what it tells hangs on its arguments alone -/
def spP (K : PySem.W.Frag) (n : Nat) (g : List PyData → Option PyData) : Sp := fun vs H Q _ => ∃ (G : Hp) (ds : List PyData) (d : PyData), Ex G H ∧ Da K G vs ds ∧ ds.length = n ∧ g ds = some d ∧
  ∀ v G' H', Tr nobody G H G' H' → Ex G' H' → Dt K G' v d → Q v H'
/-- .. whose first argument is a list that it may change -/
def spM (K : PySem.W.Frag) (n : Nat) (g : List PyData → List PyData → Option (PyData × List PyData)) : Sp := fun vs H Q _ => ∃ (G : Hp) (l : Addr) (xs ws : List V) (ms ds : List PyData) (d : PyData) (ms' : List PyData), vs = .ref l :: ws ∧ Ex G H ∧ G l = none ∧
  H l = some (.lst xs) ∧ Da K G xs ms ∧ Da K G ws ds ∧ ds.length = n ∧ g ms ds = some (d, ms') ∧
  ∀ v G' H' xs', Tr (fun a => a = l) G H G' H' → Ex G' H' → G' l = none → H' l = some (.lst xs') → Da K G' xs' ms' → Dt K G' v d → Q v H'
def outD : Option Out → Option PyData
  | some (.rt d _) => some d
  | some (.rf ds _) => some (.list ds)
  | some (.nx _) => some .none
  | _ => none
/-- what a body tells of data -/
def runP (m : Nat) (fb : FS) (ds : List PyData) : Option PyData := outD (fb (ds.map Sl.d ++ List.replicate (m - ds.length) Sl.un))
def outM : Option Out → Option (PyData × List PyData)
  | some (.rt d (.m (.l ms) :: _)) => some (d, ms)
  | some (.nx (.m (.l ms) :: _)) => some (.none, ms)
  | _ => none
def runM (m : Nat) (fb : FS) (ms ds : List PyData) : Option (PyData × List PyData) := outM (fb (.m ms :: (ds.map Sl.d ++ List.replicate (m - (ds.length + 1)) Sl.un)))
section
variable {K : PySem.W.Frag} {G H : Hp}
theorem env_un {n : Nat} (ex : Ex G H) : EnvOk K G H (List.replicate n none) (List.replicate n Sl.un) where
  ex := ex
  len := by rw [List.length_replicate, List.length_replicate]
  dat := fun i d h => by
    rw [List.getElem?_replicate] at h
    split at h <;> cases h
  mu := fun i d h => by
    rw [List.getElem?_replicate] at h
    split at h <;> cases h
  ne := fun i j ds es l h1 h2 h3 h4 => by
    rw [List.getElem?_replicate] at h1
    split at h1 <;> cases h1
theorem env_cons {σ : L2.St} {ρ : Rho} (E : EnvOk K G H σ ρ) {v : V} {d : PyData} (h : Dt K G v d) : EnvOk K G H (some v :: σ) (.d d :: ρ) where
  ex := E.ex
  len := congrArg (· + 1) E.len
  dat := fun i x q => by
    cases i with
    | zero => cases q; exact ⟨v, rfl, h⟩
    | succ i => exact E.dat i x q
  mu := fun i x q => by
    cases i with
    | zero => cases q
    | succ i => exact E.mu i x q
  ne := fun i j ds es l h1 h2 h3 h4 => by
    cases i with
    | zero => cases h1
    | succ i =>
      cases j with
      | zero => cases h2
      | succ j => exact congrArg (· + 1) (E.ne i j ds es l h1 h2 h3 h4)
theorem env_args {σ : L2.St} {ρ : Rho} (E : EnvOk K G H σ ρ) : ∀ {vs : List V} {ds : List PyData}, Da K G vs ds → EnvOk K G H (vs.map some ++ σ) (ds.map Sl.d ++ ρ)
  | _, _, .nil => E
  | _, _, .cons h t => env_cons (env_args E t) h
/-- no list of one's own -/
def noM (ρ : Rho) : Prop := ∀ (i : Nat) (ds : Mu), ρ[i]? ≠ some (.m ds)
theorem noM_un {n : Nat} : noM (List.replicate n Sl.un) := fun i d h => by
  rw [List.getElem?_replicate] at h
  split at h <;> cases h
theorem noM_args {ρ : Rho} (h : noM ρ) : ∀ ds : List PyData, noM (ds.map Sl.d ++ ρ)
  | [] => h
  | d :: ds => fun i x q => by
    cases i with
    | zero => cases q
    | succ i => exact noM_args h ds i x q
theorem noM.own {ρ : Rho} (h : noM ρ) {σ : L2.St} {l : Addr} (q : own σ ρ l) : False := by
  obtain ⟨i, ds, h1, _⟩ := q
  exact h i ds h1
theorem env_m {σ : L2.St} {ρ : Rho} (E : EnvOk K G H σ ρ) (hm : noM ρ) {l : Addr} {xs : List V} {ms : List PyData} (hG : G l = none) (hH : H l = some (.lst xs)) (h : Da K G xs ms) : EnvOk K G H (some (.ref l) :: σ) (.m ms :: ρ) where
  ex := E.ex
  len := congrArg (· + 1) E.len
  dat := fun i x q => by
    cases i with
    | zero => cases q
    | succ i => exact E.dat i x q
  mu := fun i x q => by
    cases i with
    | zero => cases q; exact ⟨l, _, rfl, hG, hH, .l h⟩
    | succ i => exact E.mu i x q
  ne := fun i j ds es l h1 h2 h3 h4 => by
    cases i with
    | zero =>
      cases j with
      | zero => rfl
      | succ j => exact (hm j es h2).elim
    | succ i => exact (hm i ds h1).elim
end
/-- THE RULE for a def of data -/
theorem fn_P {Pr : Program} {w : World} {K : PySem.W.Frag} {mg : Str → Option Value} {base : Heap} {x qual : Str} {st : Stmt} {f : Addr} {fd : FuncData} {N ps : List Str} {k : Nat} (F : Fun K x qual st f fd) (S : FnScope N ps (defScope st)) {fb : FS}
    (body : ∀ (cdv : Value) (A : Around) (outer : List Env) (s : Shared) (H : Hp), Here k (bx Pr w K mg base N qual st f cdv A outer s H) → PSs (bx Pr w K mg base N qual st f cdv A outer s H) (defBody st) (tS K [] fb)) : FnG Pr w K mg base (k + 1) f fd ps (spP K ps.length (runP N.length fb)) :=
  fn_G F S (fun vs H Q E ⟨G, ds, d, ex, da, hl, _⟩ => by rw [da.len, hl]) fun cdv A outer s H hh vs Q ⟨G, ds, d, ex, da, hl, hg, k⟩ => by
    refine ⟨_, body cdv A outer s H hh, ?_⟩
    unfold runP at hg
    have e1 : L2.start N vs = vs.map some ++ List.replicate (N.length - ds.length) none := by unfold L2.start; rw [da.len]
    rw [e1]
    have E : EnvOk K G H (vs.map some ++ List.replicate (N.length - ds.length) none) (ds.map Sl.d ++ List.replicate (N.length - ds.length) Sl.un) := env_args (env_un ex) da
    have hm : noM (ds.map Sl.d ++ List.replicate (N.length - ds.length) Sl.un) := noM_args noM_un ds
    cases ho : fb (ds.map Sl.d ++ List.replicate (N.length - ds.length) Sl.un) with
    | none => rw [ho] at hg; cases hg
    | some o =>
      rw [ho] at hg
      refine ⟨G, _, o, E, ho, ?_⟩
      cases o with
      | rt e r =>
        cases hg
        exact fun v σ' G' H' s' E' dv => k v G' H' (s'.t.wide fun _ _ _ q => (hm.own q).elim) E'.ex dv
      | rf ds' r =>
        cases hg
        intro p xs σ' G' H' s' E' w1 w2 w3 w4 w5
        have hp : H p = none := w1.elim (fun q => (hm.own q).elim) id
        have t0 : Tr nobody G H G' H' := s'.t.wide fun _ _ _ q => (hm.own q).elim
        have gx : Ex G' (upd G' p (.lst xs)) := fun x u q => by
          rw [upd_ne fun z => by subst z; rw [w3] at q; cases q]
          exact q
        refine k (.ref p) (upd G' p (.lst xs)) H' ⟨fun x u q => gx x u (t0.g x u q), t0.h, fun x u q g _ => ?_, t0.k⟩ (fun x u q => ?_) (.ll (RL.of upd_same) (w5.mono gx))
        · rw [upd_ne fun z => by subst z; rw [hp] at q; cases q]
          exact t0.n x u q g id
        · by_cases z : x = p
          · subst z; rw [upd_same] at q; rw [← q]; exact w4
          · rw [upd_ne z] at q; exact E'.ex x u q
      | nx r =>
        cases hg
        exact fun σ' G' H' s' E' => k .non G' H' (s'.t.wide fun _ _ _ q => (hm.own q).elim) E'.ex .nn
      | bk r => cases hg
      | ct r => cases hg
/-- .. whose first parameter is a list that it may change -/
theorem fn_M {Pr : Program} {w : World} {K : PySem.W.Frag} {mg : Str → Option Value} {base : Heap} {x qual : Str} {st : Stmt} {f : Addr} {fd : FuncData} {N ps : List Str} {k : Nat} (F : Fun K x qual st f fd) (S : FnScope N ps (defScope st)) {fb : FS} (hps : 0 < ps.length)
    (body : ∀ (cdv : Value) (A : Around) (outer : List Env) (s : Shared) (H : Hp), Here k (bx Pr w K mg base N qual st f cdv A outer s H) → PSs (bx Pr w K mg base N qual st f cdv A outer s H) (defBody st) (tS K [0] fb)) : FnG Pr w K mg base (k + 1) f fd ps (spM K (ps.length - 1) (runM N.length fb)) :=
  fn_G F S (fun vs H Q E ⟨G, l, xs, ws, ms, ds, d, ms', ev, ex, hG, hH, da, db, hl, _⟩ => by rw [ev, List.length_cons, db.len, hl]; omega) fun cdv A outer s H hh vs Q ⟨G, l, xs, ws, ms, ds, d, ms', ev, ex, hG, hH, da, db, hl, hg, k⟩ => by
    refine ⟨_, body cdv A outer s H hh, ?_⟩
    unfold runM at hg
    have e1 : L2.start N vs = some (.ref l) :: (ws.map some ++ List.replicate (N.length - (ds.length + 1)) none) := by unfold L2.start; rw [ev, List.length_cons, db.len]; rfl
    rw [e1]
    have hm : noM (ds.map Sl.d ++ List.replicate (N.length - (ds.length + 1)) Sl.un) := noM_args noM_un ds
    have E : EnvOk K G H (some (.ref l) :: (ws.map some ++ List.replicate (N.length - (ds.length + 1)) none)) (.m ms :: (ds.map Sl.d ++ List.replicate (N.length - (ds.length + 1)) Sl.un)) := env_m (env_args (env_un ex) db) hm hG hH da
    have ow : ∀ a, own (some (.ref l) :: (ws.map some ++ List.replicate (N.length - (ds.length + 1)) none)) (.m ms :: (ds.map Sl.d ++ List.replicate (N.length - (ds.length + 1)) Sl.un)) a → a = l := fun a ⟨i, es, q1, q2⟩ => by
      cases i with
      | zero => cases q2; rfl
      | succ i => exact (hm i es q1).elim
    cases ho : fb (.m ms :: (ds.map Sl.d ++ List.replicate (N.length - (ds.length + 1)) Sl.un)) with
    | none => rw [ho] at hg; cases hg
    | some o =>
      rw [ho] at hg
      refine ⟨G, _, o, E, ho, ?_⟩
      have at0 : ∀ {σ' : L2.St} {G' H' : Hp} {ρ' : Rho} {ms'' : List PyData}, Stp [0] G H (some (.ref l) :: (ws.map some ++ List.replicate (N.length - (ds.length + 1)) none)) (.m ms :: (ds.map Sl.d ++ List.replicate (N.length - (ds.length + 1)) Sl.un)) G' H' σ' (.m ms'' :: ρ') →
          EnvOk K G' H' σ' (.m ms'' :: ρ') → G' l = none ∧ ∃ xs', H' l = some (.lst xs') ∧ Da K G' xs' ms'' := fun {σ' G' H' ρ' ms''} s' E' => by
        obtain ⟨l', xs', q1, q2, q3, q4⟩ := E'.muL (i := 0) (ds := ms'') rfl
        rw [s'.p 0 (List.mem_singleton.mpr rfl)] at q1
        cases q1
        exact ⟨q2, xs', q3, q4⟩
      cases o with
      | rt e r =>
        cases r with
        | nil => cases hg
        | cons z r =>
          cases z with
          | m mm =>
            cases mm with
            | k _ => cases hg
            | l ms'' =>
            cases hg
            exact fun v σ' G' H' s' E' dv => by
              obtain ⟨q2, xs', q3, q4⟩ := at0 s' E'
              exact k v G' H' xs' (s'.t.wide fun a _ _ q => ow a q) E'.ex q2 q3 q4 dv
          | un => cases hg
          | d _ => cases hg
      | rf ds' r => cases hg
      | nx r =>
        cases r with
        | nil => cases hg
        | cons z r =>
          cases z with
          | m mm =>
            cases mm with
            | k _ => cases hg
            | l ms'' =>
            cases hg
            exact fun σ' G' H' s' E' => by
              obtain ⟨q2, xs', q3, q4⟩ := at0 s' E'
              exact k .non G' H' xs' (s'.t.wide fun a _ _ q => ow a q) E'.ex q2 q3 q4 .nn
          | un => cases hg
          | d _ => cases hg
      | bk r => cases hg
      | ct r => cases hg
/-! ### calls of them -/
section
variable {X : Cx} {k : Nat} {f : Addr} {fd : FuncData} {ps : List Str} {x : Str} {p pos : Pos} {e : Expr} {es : List Expr} {bb : Bool} {n : Nat}
def lenIs (n : Nat) (g : List PyData → Option PyData) : List PyData → Option PyData := fun ds => if ds.length = n then g ds else none
theorem e_callP {g : List PyData → Option PyData} {ra : FE (List PyData)} (F : FnG X.prog X.w X.K X.mg X.base k f fd ps (spP X.K n g)) (hh : Here k X) (hg : Gl X x) (hm : X.mg x = some (.ref f)) (hk : PySem.W.keepIn X.K (.ref f) = true) (hb : Binds X.K fd ps [])
    (ha : PA X (e :: es) (tA X.K bb ra)) (hdb : (x == ("__debug__" : Str)) = false := by decide) (he : starEach (e :: es) X.env = (false, eval e X.env) :: starEach es X.env := by rfl) (hpl : (backTo pos (starEach es X.env)).any (·.1) = false := by rfl) :
    PE X (.Call (.Name x p) (e :: es) [] pos) (tE X.K bb (fCall (lenIs n g) ra)) := PE.weak (call_G F hh hg hm hk hb ha hdb he hpl) fun σ H Q h =>
  call_run (r := fun vs H1 Q => spP X.K n g vs H1 Q E0) (fun G H xs ds z Q ex da hz k => by
    unfold lenIs at hz
    split at hz
    · exact ⟨G, ds, z, ex, da, ‹_›, hz, k⟩
    · cases hz) h
def fCallM (n : Nat) (g : List PyData → List PyData → Option (PyData × List PyData)) (i : Nat) (ra : FE (List PyData)) : FE PyData := fun ρ => match ρ[i]? with
  | some (.m (.l _)) => thnE ra (fun ds ρ1 => if ds.length = n then match ρ1[i]? with
    | some (.m (.l ms)) => (g ms ds).map fun p => (p.1, ρ1.set i (.m (.l p.2)))
    | _ => none
    else none) ρ
  | _ => none
theorem own_setM {σ : L2.St} {ρ : Rho} {i : Nat} {ms ms' : Mu} {l : Addr} (hi : ρ[i]? = some (.m ms)) (h : own σ (ρ.set i (.m ms')) l) : own σ ρ l := by
  obtain ⟨j, ds, h1, h2⟩ := h
  rcases set_get h1 with ⟨rfl, _⟩ | ⟨_, h1⟩
  · exact ⟨j, ms, hi, h2⟩
  · exact ⟨j, ds, h1, h2⟩
theorem env_setM {K : PySem.W.Frag} {G H G' H' : Hp} {σ : L2.St} {ρ : Rho} (E : EnvOk K G H σ ρ) {i : Nat} {ms ms' : Mu} {l : Addr} {xs' : HO} (hi : ρ[i]? = some (.m ms)) (hl : σ[i]? = some (some (.ref l)))
    (t : Tr (fun a => a = l) G H G' H') (ex : Ex G' H') (hG : G' l = none) (hH : H' l = some xs') (da : MuOk K G' xs' ms') : EnvOk K G' H' σ (ρ.set i (.m ms')) where
  ex := ex
  len := by rw [List.length_set]; exact E.len
  dat := fun j d q => by
    rcases set_get q with ⟨_, q⟩ | ⟨_, q⟩
    · cases q
    · obtain ⟨v, h1, h2⟩ := E.dat j d q
      exact ⟨v, h1, h2.mono t.g⟩
  mu := fun j d q => by
    rcases set_get q with ⟨ej, qq⟩ | ⟨n, qq⟩
    · cases qq
      rw [ej]
      exact ⟨l, xs', hl, hG, hH, da⟩
    · obtain ⟨l', xs, h1, h2, h3, h4⟩ := E.mu j d qq
      have nl : l' ≠ l := fun z => n (E.ne j i _ _ l qq hi (by rw [← z]; exact h1) hl)
      exact ⟨l', xs, h1, t.n l' _ h3 h2 nl, t.h l' _ h3 nl, h4.mono t.g⟩
  ne := fun a b ds es l' h1 h2 h3 h4 => by
    have w : ∀ (c : Nat) (fs : Mu), (ρ.set i (.m ms'))[c]? = some (.m fs) → ∃ gs, ρ[c]? = some (.m gs) := fun c fs q => by
      rcases set_get q with ⟨ec, _⟩ | ⟨_, qq⟩
      · rw [ec]; exact ⟨_, hi⟩
      · exact ⟨_, qq⟩
    obtain ⟨_, k1⟩ := w a ds h1
    obtain ⟨_, k2⟩ := w b es h2
    exact E.ne a b _ _ l' k1 k2 h3 h4
theorem e_callM {g : List PyData → List PyData → Option (PyData × List PyData)} {ra : FE (List PyData)} (i : Nat) (F : FnG X.prog X.w X.K X.mg X.base k f fd ps (spM X.K n g)) (hh : Here k X) (hg : Gl X x) (hm : X.mg x = some (.ref f)) (hk : PySem.W.keepIn X.K (.ref f) = true) (hb : Binds X.K fd ps [])
    (h0 : PE X e (tVar i)) (ha : PA X es (tA X.K true ra)) (hdb : (x == ("__debug__" : Str)) = false := by decide) (he : starEach (e :: es) X.env = (false, eval e X.env) :: starEach es X.env := by rfl) (hpl : (backTo pos (starEach es X.env)).any (·.1) = false := by rfl) :
    PE X (.Call (.Name x p) (e :: es) [] pos) (tE X.K true (fCallM n g i ra)) := PE.weak (call_G F hh hg hm hk hb (pa_cons h0 ha he) hdb he hpl) fun σ H Q ⟨G, ρ, d, ρ', E, ef, kk⟩ => by
  unfold fCallM at ef
  split at ef
  case h_2 => cases ef
  rename_i ms0 hi0
  obtain ⟨ds, ρ1, h1, h2⟩ := thnE_of ef
  split at h2
  case isFalse => cases h2
  rename_i hl
  split at h2
  case h_2 => cases h2
  rename_i ms hi
  obtain ⟨⟨z, ms'⟩, h3, h4⟩ := Option.map_eq_some_iff.mp h2
  cases h4
  obtain ⟨l, _, hσ, _, _, _⟩ := E.muL hi0
  refine ⟨.ref l, hσ, G, ρ, ds, ρ1, E, h1, fun ws G1 H1 t1 o1 E1 d1 => ?_⟩
  obtain ⟨l2, xs, hσ2, hG, hH, dx⟩ := E1.muL hi
  rw [hσ] at hσ2
  cases hσ2
  refine ⟨G1, l, xs, ws, ms, ds, _, ms', rfl, E1.ex, hG, hH, dx, d1, hl, h3, fun v G2 H2 xs' t2 ex2 hG2 hH2 dx2 dv => ?_⟩
  have own1 : own σ ρ1 l := ⟨i, _, hi, hσ⟩
  exact kk v G2 H2 (t1.trans t2 fun a _ _ q => ⟨rfl, by rw [q]; exact o1 l own1⟩) (fun l' q => o1 l' (own_setM hi q)) (env_setM E1 hi hσ t2 ex2 hG2 hH2 (.l dx2)) dv
end
end Tw

set_option Elab.async false
set_option linter.all false
set_option maxRecDepth 100000
set_option maxHeartbeats 4000000
namespace Tw
open PySem PySem.Spec PyProof.Rows L2
open PySem.SeqAt PySem.AutoSeq1
/-! ### enumerate(tuple) -/
theorem enum_new (l : Addr) (items : Array Value) (n : Nat) (dct : Option Addr) (sl : Array (Option Value)) :
    Meets (Builtin.«enumerate.__new__» ⟨[.type "enumerate", .ref l], []⟩) (fun _ R s => s.heap.get? l = some { cls := .type "tuple", dict := dct, data := .seq items n, slots := sl } ∧
      R (.ok (.ret (.ref (s.heap.push { cls := .type "tuple_iterator", data := .fields #[.ref l, .int 0 0] }).objs.size)))
        { s with heap := (s.heap.push { cls := .type "tuple_iterator", data := .fields #[.ref l, .int 0 0] }).push { cls := .type "enumerate", data := .fields #[.none, .bool false, .ref s.heap.objs.size, rawInt 0, .none, .none] } }) :=
  .of_wp fun prog w A R s h => by
    obtain ⟨hp, g, d, tk, os⟩ := s
    obtain ⟨hl, h⟩ := h
    have hsub := sub_enumerate
    have hL : Heap.IsTuple (Shared.heap ⟨hp, g, d, tk, os⟩) l items := ⟨_, hl, rfl, n, rfl⟩
    wp_walk using wpAny_loadPart' hl
    refine wpAny_stack_any fun st => wpAny_pure ?_
    split
    · rename_i c _ _ _ _ _
      cases (c == Value.type "enumerate") <;> (wp_walk using wpAny_loadPart' hl, wpAny_pyIter_tuple hL; exact ⟨_, rfl, h⟩)
    · wp_walk using wpAny_loadPart' hl, wpAny_pyIter_tuple hL
      exact ⟨_, rfl, h⟩
section
variable {prog : Program} {w : World} {A : Around} {E : Value → Shared → Prop} {s : Shared}
theorem enum_call {l : Addr} {items : Array Value} {Q : Value → Shared → Prop} (hL : s.heap.IsTuple l items)
    (h : ∀ h', IsEnum h' (s.heap.objs.size + 1) s.heap.objs.size 0 .none → h'.IsTupleIter s.heap.objs.size l 0 → h'.objs.size = s.heap.objs.size + 2 →
      (∀ b o, s.heap.get? b = some o → h'.get? b = some o) → Q (.ref (s.heap.objs.size + 1)) { s with heap := h' }) :
    wpAny (model prog w) A (call (.type "enumerate") [.ref l]) Q E s := by
  obtain ⟨⟨c, dct, dt, sl⟩, hl, hc, n, hd⟩ := hL
  replace hc : c = .type "tuple" := hc
  replace hd : dt = .seq items n := hd
  subst hc hd
  refine callType_new F.called_enumerate (by decide) (F.typeCall_enumerate_1 _) (F.newCall_enumerate_1 _) (fun obj => F.args_object_init_2 obj _) F.entry_enumerate_new (enum_new l items n dct sl) ⟨hl, ?_⟩
  have hz : (s.heap.push { cls := .type "tuple_iterator", data := .fields #[.ref l, .int 0 0] }).objs.size = s.heap.objs.size + 1 := Heap.size_push ..
  show _ ∧ _
  rw [hz]
  have he : IsEnum ((s.heap.push { cls := .type "tuple_iterator", data := .fields #[.ref l, .int 0 0] }).push
      { cls := .type "enumerate", data := .fields #[.none, .bool false, .ref s.heap.objs.size, rawInt 0, .none, .none] }) (s.heap.objs.size + 1) s.heap.objs.size 0 .none := by
    have := Heap.get?_push_size (s.heap.push { cls := .type "tuple_iterator", data := .fields #[.ref l, .int 0 0] })
      (o := { cls := .type "enumerate", data := .fields #[.none, .bool false, .ref s.heap.objs.size, rawInt 0, .none, .none] }) rfl
    rw [hz] at this
    exact this
  refine ⟨⟨_, he, rfl⟩, h _ he ⟨_, Heap.get?_push_of_some _ (Heap.get?_push_size _ rfl), rfl, rfl⟩ (by rw [Heap.size_push, hz]) fun b o x => Heap.get?_push_of_some _ (Heap.get?_push_of_some _ x)⟩
end
/-- the tuple at a, each item in a new pair -/
def IteT (K : PySem.W.Frag) (a : Addr) : It :=
  ⟨fun i H => ∃ (xs : List V) (x : V), SqT K H a xs ∧ xs[i]? = some x, fun i H v H' => ∃ T x, v = .ref T ∧ H T = none ∧ H' = upd H T (.tup [.int (i : Nat), x]) ∧ ∀ xs, SqT K H a xs → xs[i]? = some x, fun i H => ∃ xs : List V, SqT K H a xs ∧ xs.length ≤ i⟩
theorem tup_it_ne {h : Heap} {it t : Addr} {i : Nat} {items : Array Value} (hi : h.IsTupleIter it t i) (ht : h.IsTuple t items) : t ≠ it := fun e => by
  subst e
  obtain ⟨o, h1, h2, _⟩ := hi
  obtain ⟨o2, h3, h4, _⟩ := ht
  rw [h1] at h3
  cases h3
  rw [h2] at h4
  exact absurd h4 (by simp)
theorem turn_enumT {P : Program} {w : World} {K : PySem.W.Frag} {elts : List Expr} {kk : Nat} {tpos : Pos} (a e it : Addr) :
    Turn P w K (.Tuple elts kk tpos) (IteT K a) [e, it] e (fun i h => (∃ old, IsEnum h e it ((i : Nat) : Int) old) ∧ h.IsTupleIter it a i ∧ e ≠ it) where
  mem := by simp
  obj := fun i h st b hb => by
    obtain ⟨⟨old, he⟩, ⟨o, ho, hc, hd⟩, _⟩ := st
    have e' : b = e ∨ b = it := by simpa using hb
    rcases e' with z | z
    · rw [z]; exact ⟨_, he, fun v q => nomatch q⟩
    · rw [z]; exact ⟨o, ho, fun v q => by rw [hd] at q; cases q⟩
  keep := fun i h h' st k => let ⟨⟨old, he⟩, hi, hne⟩ := st; ⟨⟨old, k e (by simp) _ he⟩, hi.at fun o q => k it (by simp) o q, hne⟩
  item := by
    intro X hP hw hK hc i pins s σ H E I hf st hg
    subst hP hw hK
    obtain ⟨⟨old, he⟩, hit, hne⟩ := st
    obtain ⟨xs, x, hq, hx⟩ := hg
    obtain ⟨its, rv, p, hz⟩ := I.tuple hq
    obtain ⟨u, hu, ru⟩ := rv.get hx
    have hel : e < s.heap.objs.size := Heap.lt_size he
    have hil : it < s.heap.objs.size := by obtain ⟨_, q, _⟩ := hit; exact Heap.lt_size q
    have hai : a ≠ it := tup_it_ne hit p
    have hea : e ≠ a := fun z => by
      subst z
      obtain ⟨o2, h3, h4, _⟩ := p
      rw [he] at h3
      cases h3
      exact absurd h4 (by simp)
    have D := Draws.tuple (prog := X.prog) (w := X.w) (A := X.A.in1) (I.ok.hd hc) it a hai its.toArray
    have hi : i < its.toArray.size := by
      rw [List.size_toArray]
      exact (List.getElem?_eq_some_iff.mp hu).1
    refine wpAny_pyNext_enum_itemD D he ⟨hit, p⟩ hi hne (by simp [hne, hea]) fun y h' tk hy ho hst hT hsz hk => ?_
    obtain rfl : y = u := by
      have hy' : its.toArray[i]? = some y := hy
      rw [List.getElem?_toArray, hu] at hy'
      exact (Option.some.inj hy').symm
    refine ⟨_, rfl, wpAny_letOwnedTupleGo_enum (s := { s with heap := h', toks := tk + 1 }) ho fun h'' he' sb => ?_⟩
    have hT2 : h''.get? s.heap.objs.size = some { cls := .type "tuple", data := .seq #[.int i tk, y] } := (sb.2 _ (Nat.ne_of_gt hel)).trans hT
    have new : ObjOk X.prog X.w (upd H s.heap.objs.size (.tup [.int (i : Nat), x])) h'' s.heap.objs.size (.tup [.int (i : Nat), x]) :=
      ⟨by show 2 ≤ sizeLine; decide, [.int i tk, y], .cons ⟨_, rfl⟩ (.cons ru .nil), ⟨_, hT2, rfl, _, rfl⟩⟩
    have I1 : Inv X pins σ (upd H s.heap.objs.size (.tup [.int (i : Nat), x])) { s with heap := h'', toks := tk + 1 } :=
      I.turnedNew (ch := [e, it]) (fun b ob hb q => (sb.2 b (fun z => hb (by simp [z]))).trans (hk b ob (fun z => hb (by simp [z])) (fun z => hb (by simp [z])) q)) hf (Nat.le_refl _) new
    refine ⟨.ref s.heap.objs.size, _, I1, rfl, ⟨_, x, rfl, I.hok.fresh (Nat.le_refl _), rfl, fun ys hy => by rw [I.tuple_inj hy hq]; exact hx⟩, ⟨⟨y, ?_⟩, hst.1.at fun o q => (sb.2 it (Ne.symm hne)).trans q, hne⟩, fun b hb => ?_⟩
    · have e1 : ((i + 1 : Nat) : Int) = (i : Int) + 1 := by omega
      rw [e1]; exact he'
    · have hb' : b < s.heap.objs.size := by
        have e' : b = e ∨ b = it := by simpa using hb
        rcases e' with z | z
        · rw [z]; exact hel
        · rw [z]; exact hil
      rw [upd_ne (Nat.ne_of_lt hb')]
      exact (hf b hb).1
  done := by
    intro X hP hw hK hc i pins s σ H E I hf st hg
    subst hP hw hK
    obtain ⟨⟨old, he⟩, hit, hne⟩ := st
    obtain ⟨xs, hq, hx⟩ := hg
    obtain ⟨its, rv, p, hz⟩ := I.tuple hq
    obtain ⟨f0, f1, f2, f3, f4, f5⟩ := hf it (by simp)
    have hl := rv.length
    have fin : ∀ h', Heap.ExtBut it s.heap h' → (none : Option Value) = none ∧ Inv X pins σ H { s with heap := h' } := fun h' eb => ⟨rfl, I.turned (t' := s.toks) (fun b o hb q => eb b o hb q) f0 f1 f3 f4 f5⟩
    have hT : s.TypeIs (.ref e) "enumerate" := ⟨_, he, rfl⟩
    unfold pyNext
    refine wpAny_bind (wpAny_attempt (wpAny_callSpecial?_slot (name := Str.ofString "__next__") hT F.slot_enumerate_next (wpAny_call_entry F.slot_enumerate_next hT F.entry_enumerate_next ?_ (F.args_enumerate_next_1 _))))
    show wpAny _ _ (field (.ref e) 2 >>= _) _ _ _
    refine wpAny_bind (wpAny_field he rfl (x := .ref it) rfl ?_)
    refine wpAny_bind (PySem.wpAny_nextOf_tuple_end (I.ok.hd hc) hit p (by simp; omega) fun h' x he' hx' => ?_)
    obtain ⟨o, ho, hc⟩ := hx'
    refine wpAny_bind (wpAny_isInstance (T := "StopIteration") (b := true) ⟨o, ho, hc⟩ isSubtype_stop ?_)
    exact wpAny_pure (fin _ he')
  self := fun A i s Q E st h => let ⟨⟨_, he⟩, _⟩ := st; wpAny_pyIter_enum he h
def iEnumA (K : PySem.W.Frag) (ta : TA) : TI := fun σ H R => ta σ H fun vs H1 => ∃ a xs, vs = [.ref a] ∧ ((SqL K H1 a xs ∧ R (Ite K a) H1) ∨ (SqT K H1 a xs ∧ R (IteT K a) H1))
theorem pi_enumA {X : Cx} {e : Expr} {ta : TA} {p pos tpos : Pos} {elts : List Expr} {kk : Nat} (hg : Gl X "enumerate") (hm : X.mg "enumerate" = none) (ha : PA X [e] ta) (hs : starEach [e] X.env = [(false, eval e X.env)] := by rfl) :
    PI X (.Tuple elts kk tpos) (.Call (.Name "enumerate" p) [e] [] pos) (iEnumA X.K ta) := by
  refine ⟨fun pins s σ H R I h => ?_⟩
  refine Call_ (ld_blt I hg hm boot_enumerate (PyProof.Rows.callWith_type1 (thn (ha.run pos pins s σ H _ I h) fun us s1 ⟨vs, H1, I1, r1, q1⟩ => ?_) hs rfl))
  obtain ⟨a, xs, ex, q⟩ := q1
  subst ex
  cases r1 with
  | cons r rr =>
    cases rr
    cases r
    have fp : ∀ b ∈ [s1.heap.objs.size + 1, s1.heap.objs.size], FpOk X pins H1 b := fun b hb => by
      have e' : b = s1.heap.objs.size + 1 ∨ b = s1.heap.objs.size := by simpa using hb
      have hle : s1.heap.objs.size ≤ b := by
        rcases e' with z | z
        · rw [z]; exact Nat.le_add_right _ _
        · rw [z]; exact Nat.le_refl _
      exact I1.fpOk hle (I1.hok.fresh hle)
    rcases q with ⟨hq, q⟩ | ⟨hq, q⟩
    · obtain ⟨its, rv, p', hz⟩ := I1.list hq
      refine call_enumerate_list p'.isList fun h' he hit hsz hk => wpAny_pyIter_enum he ?_
      have I2 : Inv X pins σ H1 { s1 with heap := h' } := I1.kept (t' := s1.toks) hk
      exact ⟨s1.heap.objs.size + 1, [s1.heap.objs.size + 1, s1.heap.objs.size], _, _, H1, rfl, I2, turn_enum a (s1.heap.objs.size + 1) s1.heap.objs.size, ⟨⟨.none, he⟩, hit, Nat.succ_ne_self _⟩, fp, q⟩
    · obtain ⟨its, rv, p', hz⟩ := I1.tuple hq
      refine enum_call p' fun h' he hit hsz hk => wpAny_pyIter_enum he ?_
      have I2 : Inv X pins σ H1 { s1 with heap := h' } := I1.kept (t' := s1.toks) hk
      exact ⟨s1.heap.objs.size + 1, [s1.heap.objs.size + 1, s1.heap.objs.size], _, _, H1, rfl, I2, turn_enumT a (s1.heap.objs.size + 1) s1.heap.objs.size, ⟨⟨.none, he⟩, hit, Nat.succ_ne_self _⟩, fp, q⟩
end Tw

set_option Elab.async false
set_option linter.all false
set_option maxRecDepth 100000
set_option maxHeartbeats 2000000
namespace Tw
open PySem PySem.Spec PyProof.Rows L2
open Evl (Ex)
/-! ### what is gone through -/
structure WalkD (K : PySem.W.Frag) (G : Hp) (J : It) (ds : List PyData) : Prop where
  go : ∀ i H, i < ds.length → Ex G H → J.go i H
  stop : ∀ H, Ex G H → J.stop ds.length H
  yld : ∀ i H x H' d, ds[i]? = some d → Ex G H → J.yld i H x H' → ∀ G2, Ex G G2 → Ex G2 H → ∃ G3, Tr nobody G2 H G3 H' ∧ Ex G3 H' ∧ Dt K G3 x d
def tI (K : PySem.W.Frag) (b : Bool) (f : FE (List PyData)) : TI := fun σ H R => ∃ (G : Hp) (ρ : Rho) (ds : List PyData) (ρ' : Rho), EnvOk K G H σ ρ ∧ f ρ = some (ds, ρ') ∧
  ∀ J G' H', Tr (ows b σ ρ) G H G' H' → (∀ l, own σ ρ' l → own σ ρ l) → EnvOk K G' H' σ ρ' → WalkD K G' J ds → R J H'
section
variable {X : Cx} {tg l e e2 : Expr} {bb : Bool} {f f1 f2 : FE PyData} {pos p : Pos}
theorem PI.weak {wi wi' : TI} (h : PI X tg l wi) (w : ∀ σ H R, wi' σ H R → wi σ H R) : PI X tg l wi' := ⟨fun pins s σ H R I q => h.run pins s σ H R I (w σ H R q)⟩
def itemsOf : PyData → Option (List PyData)
  | .list ds => some ds
  | .tuple ds => some ds
  | _ => none
def fItems (f : FE PyData) : FE (List PyData) := thnE f fun x => liftO (itemsOf x)
def iSeq (K : PySem.W.Frag) (te : TE) : TI := fun σ H R => te σ H fun x H1 => ∃ a, x = .ref a ∧ ((∃ xs, SqL K H1 a xs ∧ R (Itl K a) H1) ∨ (∃ xs, SqT K H1 a xs ∧ R (Itt K a) H1))
theorem pi_seqD {te : TE} (hl : PE X l te) : PI X tg l (iSeq X.K te) := ⟨fun pins s σ H R I h => by
  refine thn (hl.run pins s σ H _ I h) fun v s1 hz => ?_
  obtain ⟨x, H1, J, r1, a, ex, q⟩ := hz
  subst ex
  cases r1
  have fp : ∀ b ∈ [s1.heap.objs.size], FpOk X pins H1 b := fun b hb => by
    rw [List.mem_singleton.mp hb]
    exact J.fpOk (Nat.le_refl _) (J.hok.fresh (Nat.le_refl _))
  rcases q with ⟨xs, hq, q⟩ | ⟨xs, hq, q⟩
  · obtain ⟨its, rv, pl, _⟩ := J.list hq
    exact wpAny_pyIter_list pl.isList ⟨_, [_], _, _, H1, rfl, J.kept (t' := s1.toks) fun b o z => Heap.get?_push_of_some _ z, turn_list a _, ⟨_, Heap.get?_push_size _ rfl, rfl, rfl⟩, fp, q⟩
  · obtain ⟨its, rv, pl, _⟩ := J.tuple hq
    exact wpAny_pyIter_tuple (show s1.heap.IsTuple a its.toArray from pl) ⟨_, [_], _, _, H1, rfl, J.kept (t' := s1.toks) fun b o z => Heap.get?_push_of_some _ z, turn_tuple a _, ⟨_, Heap.get?_push_size _ rfl, rfl, rfl⟩, fp, q⟩⟩
theorem walk_l {K : PySem.W.Frag} {G : Hp} {a : Addr} {xs : List V} {ds : List PyData} (h : SqL K G a xs) (d : Da K G xs ds) : WalkD K G (Itl K a) ds where
  go := fun i H hi ex => ⟨xs, xs[i]'(by rw [d.len]; exact hi), Evl.ex_l ex h, List.getElem?_eq_getElem _⟩
  stop := fun H ex => ⟨xs, Evl.ex_l ex h, by rw [d.len]; exact Nat.le_refl _⟩
  yld := fun i H x H' y hy ex q G2 e1 e2 => by
    obtain ⟨rfl, q⟩ := q
    obtain ⟨v, h1, h2⟩ := d.get hy
    have := q xs (Evl.ex_l ex h)
    rw [h1] at this
    cases this
    exact ⟨G2, .refl, e2, h2.mono e1⟩
theorem walk_t {K : PySem.W.Frag} {G : Hp} {a : Addr} {xs : List V} {ds : List PyData} (h : SqT K G a xs) (d : Da K G xs ds) : WalkD K G (Itt K a) ds where
  go := fun i H hi ex => ⟨xs, xs[i]'(by rw [d.len]; exact hi), Evl.ex_t ex h, List.getElem?_eq_getElem _⟩
  stop := fun H ex => ⟨xs, Evl.ex_t ex h, by rw [d.len]; exact Nat.le_refl _⟩
  yld := fun i H x H' y hy ex q G2 e1 e2 => by
    obtain ⟨rfl, q⟩ := q
    obtain ⟨v, h1, h2⟩ := d.get hy
    have := q xs (Evl.ex_t ex h)
    rw [h1] at this
    cases this
    exact ⟨G2, .refl, e2, h2.mono e1⟩
theorem i_seq (h : PE X l (tE X.K bb f)) : PI X tg l (tI X.K bb (fItems f)) := PI.weak (pi_seqD h) fun σ H R ⟨G, ρ, ds, ρ', E, ef, k⟩ => by
  obtain ⟨x, ρ1, h1, h2⟩ := thnE_of ef
  obtain ⟨h3, rfl⟩ := liftO_of h2
  refine ⟨G, ρ, x, ρ', E, h1, fun v G1 H1 t1 o1 E1 d1 => ?_⟩
  unfold itemsOf at h3
  split at h3
  · cases h3
    obtain ⟨a, xs, rfl, hx, dx⟩ := dt_list d1
    exact ⟨a, rfl, .inl ⟨xs, (hx.mono E1.ex).sq, k _ G1 H1 t1 o1 E1 (walk_l hx.sq dx)⟩⟩
  · cases h3
    obtain ⟨a, xs, rfl, hx, dx⟩ := dt_tup d1
    exact ⟨a, rfl, .inr ⟨xs, Evl.ex_t E1.ex hx, k _ G1 H1 t1 o1 E1 (walk_t hx dx)⟩⟩
  · cases h3
/-! range(n), range(a, b) -/
def ups (lo : Int) (n : Nat) : List PyData := (List.range n).map fun i => .int (lo + (i : Nat))
def rng1 : List PyData → Option (List PyData)
  | [.int n] => if -(2 ^ 62) ≤ n ∧ n < 2 ^ 62 then some (ups 0 n.toNat) else none
  | _ => none
def rng2 : List PyData → Option (List PyData)
  | [.int m, .int n] => if -(2 ^ 62) ≤ m ∧ m < 2 ^ 62 ∧ -(2 ^ 62) ≤ n ∧ n < 2 ^ 62 then some (ups m (n - m).toNat) else none
  | _ => none
theorem walk_r {K : PySem.W.Frag} {G : Hp} (lo : Int) (n : Nat) : WalkD K G (Itr lo n) (ups lo n) where
  go := fun i H hi ex => by unfold ups at hi; rw [List.length_map, List.length_range] at hi; exact hi
  stop := fun H ex => by unfold ups; rw [List.length_map, List.length_range]; exact Nat.le_refl _
  yld := fun i H x H' y hy ex q G2 e1 e2 => by
    obtain ⟨rfl, rfl⟩ := q
    unfold ups at hy
    rw [List.getElem?_map] at hy
    cases hr : (List.range n)[i]? with
    | none => rw [hr] at hy; cases hy
    | some j =>
      rw [hr] at hy
      obtain ⟨hj, ej⟩ := List.getElem?_eq_some_iff.mp hr
      rw [List.getElem_range] at ej
      cases ej
      cases hy
      exact ⟨G2, .refl, e2, .ii _⟩
def fRng (g : List PyData → Option (List PyData)) (r : FE (List PyData)) : FE (List PyData) := thnE r fun xs => liftO (g xs)
theorem i_rng1 {a : Expr} {ra : FE (List PyData)} (hg : Gl X "range") (hm : X.mg "range" = none) (ha : PA X [a] (tA X.K bb ra)) (hs : starEach [a] X.env = [(false, eval a X.env)] := by rfl) :
    PI X tg (.Call (.Name "range" p) [a] [] pos) (tI X.K bb (fRng rng1 ra)) := PI.weak (pi_range1 hg hm ha hs) fun σ H R ⟨G, ρ, ds, ρ', E, ef, k⟩ => by
  obtain ⟨x, ρ1, h1, h2⟩ := thnE_of ef
  obtain ⟨h3, rfl⟩ := liftO_of h2
  refine ⟨G, ρ, x, ρ', E, h1, fun v G1 H1 t1 o1 E1 d1 => ?_⟩
  unfold rng1 at h3
  split at h3
  · obtain ⟨hb, rfl⟩ := ite_p h3
    obtain ⟨v, rfl, dv⟩ := da_one d1
    exact ⟨_, by rw [dt_int dv], hb.1, hb.2, k _ G1 H1 t1 o1 E1 (walk_r _ _)⟩
  · cases h3
theorem i_rng2 {a b : Expr} {ra : FE (List PyData)} (hg : Gl X "range") (hm : X.mg "range" = none) (ha : PA X [a, b] (tA X.K bb ra)) (hs : starEach [a, b] X.env = [(false, eval a X.env), (false, eval b X.env)] := by rfl)
    (hs2 : starEach [b] X.env = [(false, eval b X.env)] := by rfl) : PI X tg (.Call (.Name "range" p) [a, b] [] pos) (tI X.K bb (fRng rng2 ra)) := PI.weak (pi_range2 hg hm ha hs hs2) fun σ H R ⟨G, ρ, ds, ρ', E, ef, k⟩ => by
  obtain ⟨x, ρ1, h1, h2⟩ := thnE_of ef
  obtain ⟨h3, rfl⟩ := liftO_of h2
  refine ⟨G, ρ, x, ρ', E, h1, fun v G1 H1 t1 o1 E1 d1 => ?_⟩
  unfold rng2 at h3
  split at h3
  · obtain ⟨hb, rfl⟩ := ite_p h3
    obtain ⟨v, u, rfl, dv, du⟩ := da_two d1
    exact ⟨_, _, by rw [dt_int dv, dt_int du], hb, k _ G1 H1 t1 o1 E1 (walk_r _ _)⟩
  · cases h3
/-! new pairs on the way: enumerate, zip -/
def prs (xs ys : List PyData) : List PyData := (xs.zip ys).map fun p => .tuple [p.1, p.2]
theorem pair_yld {K : PySem.W.Frag} {G G2 H : Hp} {T : Addr} {x y : V} {d e : PyData} (hT : H T = none) (e1 : Ex G G2) (e2 : Ex G2 H) (hx : Dt K G x d) (hy : Dt K G y e) :
    ∃ G3, Tr nobody G2 H G3 (upd H T (.tup [x, y])) ∧ Ex G3 (upd H T (.tup [x, y])) ∧ Dt K G3 (.ref T) (.tuple [d, e]) := by
  have t : Tr nobody G2 H (upd G2 T (.tup [x, y])) (upd H T (.tup [x, y])) := Tr.new hT e2
  exact ⟨_, t, ex_upd e2, .tt (SqT.of upd_same) (.cons ((hx.mono e1).mono t.g) (.cons ((hy.mono e1).mono t.g) .nil))⟩
theorem prs_get {xs ys : List PyData} {i : Nat} {d : PyData} (h : (prs xs ys)[i]? = some d) : ∃ a b, xs[i]? = some a ∧ ys[i]? = some b ∧ d = .tuple [a, b] := by
  unfold prs at h
  rw [List.getElem?_map] at h
  cases q : (xs.zip ys)[i]? with
  | none => rw [q] at h; cases h
  | some z =>
    rw [q] at h
    cases h
    obtain ⟨h1, h2⟩ := List.getElem?_zip_eq_some.mp q
    exact ⟨_, _, h1, h2, rfl⟩
theorem prs_len (xs ys : List PyData) : (prs xs ys).length = min xs.length ys.length := by unfold prs; rw [List.length_map, List.length_zip]
def enumD (xs : List PyData) : List PyData := prs (ups 0 xs.length) xs
theorem ups_len (lo : Int) (n : Nat) : (ups lo n).length = n := by unfold ups; rw [List.length_map, List.length_range]
theorem ups_get {lo : Int} {n i : Nat} {d : PyData} (h : (ups lo n)[i]? = some d) : d = .int (lo + (i : Nat)) := by
  unfold ups at h
  rw [List.getElem?_map] at h
  cases hr : (List.range n)[i]? with
  | none => rw [hr] at h; cases h
  | some j =>
    rw [hr] at h
    obtain ⟨hj, ej⟩ := List.getElem?_eq_some_iff.mp hr
    rw [List.getElem_range] at ej
    cases ej
    cases h
    rfl
def enumN : List PyData → Option (List PyData)
  | [.list ds] => some (enumD ds)
  | [.tuple ds] => some (enumD ds)
  | _ => none
def fEnum (r : FE (List PyData)) : FE (List PyData) := thnE r fun xs => liftO (enumN xs)
theorem i_enum {elts : List Expr} {kk : Nat} {tpos : Pos} {ra : FE (List PyData)} (hg : Gl X "enumerate") (hm : X.mg "enumerate" = none) (ha : PA X [e] (tA X.K bb ra)) (hs : starEach [e] X.env = [(false, eval e X.env)] := by rfl) :
    PI X (.Tuple elts kk tpos) (.Call (.Name "enumerate" p) [e] [] pos) (tI X.K bb (fEnum ra)) := PI.weak (pi_enumA hg hm ha hs) fun σ H R ⟨G, ρ, ds, ρ', E, ef, k⟩ => by
  obtain ⟨x, ρ1, h1, h2⟩ := thnE_of ef
  obtain ⟨h3, rfl⟩ := liftO_of h2
  refine ⟨G, ρ, x, ρ', E, h1, fun v G1 H1 t1 o1 E1 d1 => ?_⟩
  unfold enumN at h3
  split at h3
  · cases h3
    obtain ⟨v, rfl, dv⟩ := da_one d1
    obtain ⟨a, xs, rfl, hx, dx⟩ := dt_list dv
    refine ⟨a, xs, rfl, .inl ⟨(hx.mono E1.ex).sq, k _ G1 H1 t1 o1 E1 ?_⟩⟩
    have hl : (enumD ‹List PyData›).length = xs.length := by unfold enumD; rw [prs_len, ups_len, Nat.min_self, dx.len]
    refine ⟨fun i H hi ex => ⟨xs, xs[i]'(by rw [← hl]; exact hi), (hx.mono ex).sq, List.getElem?_eq_getElem _⟩, fun H ex => ⟨xs, (hx.mono ex).sq, by rw [hl]; exact Nat.le_refl _⟩, fun i H y H' d hd ex q G2 e1 e2 => ?_⟩
    obtain ⟨T, z, rfl, hT, rfl, q⟩ := q
    obtain ⟨da, db, k1, k2, rfl⟩ := prs_get hd
    obtain ⟨w, h4, h5⟩ := dx.get k2
    have := q xs ((hx.mono ex).sq)
    rw [h4] at this
    cases this
    have ea : da = .int (i : Nat) := by rw [ups_get k1, Int.zero_add]
    subst ea
    exact pair_yld hT e1 e2 (.ii _) h5
  · cases h3
    obtain ⟨v, rfl, dv⟩ := da_one d1
    obtain ⟨a, xs, rfl, hx, dx⟩ := dt_tup dv
    refine ⟨a, xs, rfl, .inr ⟨Evl.ex_t E1.ex hx, k _ G1 H1 t1 o1 E1 ?_⟩⟩
    have hl : (enumD ‹List PyData›).length = xs.length := by unfold enumD; rw [prs_len, ups_len, Nat.min_self, dx.len]
    refine ⟨fun i H hi ex => ⟨xs, xs[i]'(by rw [← hl]; exact hi), Evl.ex_t ex hx, List.getElem?_eq_getElem _⟩, fun H ex => ⟨xs, Evl.ex_t ex hx, by rw [hl]; exact Nat.le_refl _⟩, fun i H y H' d hd ex q G2 e1 e2 => ?_⟩
    obtain ⟨T, z, rfl, hT, rfl, q⟩ := q
    obtain ⟨da, db, k1, k2, rfl⟩ := prs_get hd
    obtain ⟨w, h4, h5⟩ := dx.get k2
    have := q xs (Evl.ex_t ex hx)
    rw [h4] at this
    cases this
    have ea : da = .int (i : Nat) := by rw [ups_get k1, Int.zero_add]
    subst ea
    exact pair_yld hT e1 e2 (.ii _) h5
  · cases h3
def fZip (r : FE (List PyData)) : FE (List PyData) := thnE r fun xs => liftO (match xs with
  | [.list ds, .list es] => some (prs ds es)
  | [.tuple ds, .tuple es] => some (prs ds es)
  | _ => none)
theorem i_zip {elts : List Expr} {kk : Nat} {tpos : Pos} {ra : FE (List PyData)} (hg : Gl X "zip") (hm : X.mg "zip" = none) (ha : PA X [e, e2] (tA X.K bb ra))
    (hs : starEach [e, e2] X.env = (false, eval e X.env) :: starEach [e2] X.env := by rfl) (hpl : (backTo pos (starEach [e2] X.env)).any (·.1) = false := by rfl) :
    PI X (.Tuple elts kk tpos) (.Call (.Name "zip" p) [e, e2] [] pos) (tI X.K bb (fZip ra)) := PI.weak (RZ.pi_zipA hg hm ha hs hpl) fun σ H R ⟨G, ρ, ds, ρ', E, ef, k⟩ => by
  obtain ⟨x, ρ1, h1, h2⟩ := thnE_of ef
  obtain ⟨h3, rfl⟩ := liftO_of h2
  refine ⟨G, ρ, x, ρ', E, h1, fun v G1 H1 t1 o1 E1 d1 => ?_⟩
  have lens : ∀ {xs ys : List V} {ds es : List PyData}, Da X.K G1 xs ds → Da X.K G1 ys es → (prs ds es).length = min xs.length ys.length := fun d e => by rw [prs_len, d.len, e.len]
  split at h3
  · cases h3
    obtain ⟨v, u, rfl, dv, du⟩ := da_two d1
    obtain ⟨a, xs, rfl, hx, dx⟩ := dt_list dv
    obtain ⟨b, ys, rfl, hy, dy⟩ := dt_list du
    refine ⟨a, b, xs, ys, rfl, .inl ⟨(hx.mono E1.ex).sq, (hy.mono E1.ex).sq, k _ G1 H1 t1 o1 E1 ?_⟩⟩
    have hl := lens dx dy
    refine ⟨fun i H hi ex => ⟨xs, ys, xs[i]'(by omega), ys[i]'(by omega), (hx.mono ex).sq, (hy.mono ex).sq, List.getElem?_eq_getElem _, List.getElem?_eq_getElem _⟩,
      fun H ex => ⟨xs, ys, (hx.mono ex).sq, (hy.mono ex).sq, by omega⟩, fun i H y H' d hd ex q G2 e1 e2 => ?_⟩
    obtain ⟨T, z, z2, rfl, hT, rfl, q, q2⟩ := q
    obtain ⟨da, db, k1, k2, rfl⟩ := prs_get hd
    obtain ⟨w, h4, h5⟩ := dx.get k1
    obtain ⟨w2, h6, h7⟩ := dy.get k2
    have r1 := q xs ((hx.mono ex).sq)
    have r2 := q2 ys ((hy.mono ex).sq)
    rw [h4] at r1
    rw [h6] at r2
    cases r1
    cases r2
    exact pair_yld hT e1 e2 h5 h7
  · cases h3
    obtain ⟨v, u, rfl, dv, du⟩ := da_two d1
    obtain ⟨a, xs, rfl, hx, dx⟩ := dt_tup dv
    obtain ⟨b, ys, rfl, hy, dy⟩ := dt_tup du
    refine ⟨a, b, xs, ys, rfl, .inr ⟨Evl.ex_t E1.ex hx, Evl.ex_t E1.ex hy, k _ G1 H1 t1 o1 E1 ?_⟩⟩
    have hl := lens dx dy
    refine ⟨fun i H hi ex => ⟨xs, ys, xs[i]'(by omega), ys[i]'(by omega), Evl.ex_t ex hx, Evl.ex_t ex hy, List.getElem?_eq_getElem _, List.getElem?_eq_getElem _⟩,
      fun H ex => ⟨xs, ys, Evl.ex_t ex hx, Evl.ex_t ex hy, by omega⟩, fun i H y H' d hd ex q G2 e1 e2 => ?_⟩
    obtain ⟨T, z, z2, rfl, hT, rfl, q, q2⟩ := q
    obtain ⟨da, db, k1, k2, rfl⟩ := prs_get hd
    obtain ⟨w, h4, h5⟩ := dx.get k1
    obtain ⟨w2, h6, h7⟩ := dy.get k2
    have r1 := q xs (Evl.ex_t ex hx)
    have r2 := q2 ys (Evl.ex_t ex hy)
    rw [h4] at r1
    rw [h6] at r2
    cases r1
    cases r2
    exact pair_yld hT e1 e2 h5 h7
  · cases h3
end
/-! ### for -/
def forF (ft : FG) (fb : FS) : List PyData → FS
  | [], ρ => some (.nx ρ)
  | d :: ds, ρ => (ft d ρ).bind fun ρ1 => (fb ρ1).bind fun o => match o with
    | .nx r => forF ft fb ds r
    | .ct r => forF ft fb ds r
    | .bk r => some (.nx r)
    | .rt x r => some (.rt x r)
    | .rf x r => some (.rf x r)
def fFor (fi : FE (List PyData)) (ft : FG) (fb : FS) : FS := fun ρ => (fi ρ).bind fun p => forF ft fb p.1 p.2
section
variable {X : Cx} {tg iter c : Expr} {body : List Stmt} {P : List Nat} {pos : Pos} {bb : Bool}
theorem s_for {fi : FE (List PyData)} {ft : FG} {fb : FS} (hp : PassesOwn (model X.prog X.w) X.A X.env X.xe) (hc : X.calm = true) (hi : PI X tg iter (tI X.K bb fi)) (hg : PG X tg (tG X.K P ft)) (hb : PSs X body (tS X.K P fb))
    (hs : ∀ x, foldedSetIterable iter X.env x = pure x := by intro _; rfl) : PS X (.For tg iter body [] pos) (tS X.K P (fFor fi ft fb)) := PS.weak (ps_for hp hc hi hg hb hs) fun D σ H ⟨G, ρ, o, E, ef, k⟩ => by
  obtain ⟨⟨ds, ρ1⟩, h1, h2⟩ := Option.bind_eq_some_iff.mp ef
  refine ⟨G, ρ, ds, ρ1, E, h1, fun J G1 H1 t1 o1 E1 W => ?_⟩
  have k1 : Kont X.K P G1 H1 σ ρ1 D o := k.pre (.of t1 o1)
  refine ⟨fun i m σ' H' => m = ds.length - i ∧ i ≤ ds.length ∧ ∃ G' ρ', Stp P G1 H1 σ ρ1 G' H' σ' ρ' ∧ EnvOk X.K G' H' σ' ρ' ∧ forF ft fb (ds.drop i) ρ' = some o, ⟨ds.length, by omega, Nat.zero_le _, G1, ρ1, .refl, E1, h2⟩, ?_⟩
  rintro i m σ' H' ⟨rfl, hi, G', ρ', s', E', hf⟩
  by_cases hlt : i < ds.length
  · have ed : ds.drop i = ds[i] :: ds.drop (i + 1) := List.drop_eq_getElem_cons hlt
    rw [ed] at hf
    obtain ⟨ρ2, q1, q2⟩ := Option.bind_eq_some_iff.mp hf
    obtain ⟨ob, q3, q4⟩ := Option.bind_eq_some_iff.mp q2
    have exG : Ex G1 H' := fun a u z => E'.ex a u (s'.t.g a u z)
    refine .inr ⟨W.go i H' hlt exG, fun σ2 H2 => ∃ G' ρ', Stp P G1 H1 σ ρ1 G' H2 σ2 ρ' ∧ EnvOk X.K G' H2 σ2 ρ' ∧ forF ft fb (ds.drop (i + 1)) ρ' = some o, fun σ2 H2 z => ⟨ds.length - (i + 1), by omega, rfl, hlt, z⟩, fun x H2 y => ?_⟩
    obtain ⟨G3, t3, e3, d3⟩ := W.yld i H' x H2 ds[i] (List.getElem?_eq_getElem hlt) exG y G' s'.t.g E'.ex
    refine ⟨G3, ρ', ds[i], ρ2, E'.tr t3 e3, d3, q1, fun σ2 so E2 => ?_⟩
    have s2 : Stp P G1 H1 σ ρ1 G3 H2 σ2 ρ2 := s'.trans ⟨t3.none, fun l q => .inl (so.o l q), so.p⟩
    refine ⟨G3, ρ2, ob, E2, q3, ?_⟩
    cases ob with
    | nx r => exact fun σ4 G4 H4 s4 E4 => ⟨G4, r, s2.trans s4, E4, q4⟩
    | ct r => exact fun σ4 G4 H4 s4 E4 => ⟨G4, r, s2.trans s4, E4, q4⟩
    | bk r =>
      cases q4
      exact fun σ4 G4 H4 s4 E4 => k1 σ4 G4 H4 (s2.trans s4) E4
    | rt d r =>
      cases q4
      exact fun v σ4 G4 H4 s4 E4 dv => k1 v σ4 G4 H4 (s2.trans s4) E4 dv
    | rf d r =>
      cases q4
      exact Kont.pre s2 k1
  · have en : i = ds.length := by omega
    subst en
    rw [List.drop_length] at hf
    cases hf
    exact .inl ⟨W.stop H' fun a u z => E'.ex a u (s'.t.g a u z), k1 σ' G' H' s' E'⟩
/-! ### while -/
def whF (ft : FE Bool) (fb : FS) : Nat → FS
  | 0, _ => none
  | n + 1, ρ => (ft ρ).bind fun p => if p.1 = true then (fb p.2).bind fun o => match o with
      | .nx r => whF ft fb n r
      | .ct r => whF ft fb n r
      | .bk r => some (.nx r)
      | .rt x r => some (.rt x r)
      | .rf x r => some (.rf x r)
    else some (.nx p.2)
theorem s_while {ft : FE Bool} {fb : FS} (n : Nat) (hp : PassesOwn (model X.prog X.w) X.A X.env X.xe) (hc : PT X c (tT X.K bb ft)) (hb : PSs X body (tS X.K P fb)) : PS X (.While c body [] pos) (tS X.K P (whF ft fb n)) := PS.weak (ps_while hp hc hb) fun D σ H ⟨G, ρ, o, E, ef, k⟩ => by
  refine ⟨fun m σ' H' => ∃ G' ρ', Stp P G H σ ρ G' H' σ' ρ' ∧ EnvOk X.K G' H' σ' ρ' ∧ whF ft fb m ρ' = some o, ⟨n, G, ρ, .refl, E, ef⟩, ?_⟩
  rintro m σ' H' ⟨G', ρ', s', E', hf⟩
  cases m with
  | zero => cases hf
  | succ m =>
    obtain ⟨⟨b, ρ1⟩, q1, q2⟩ := Option.bind_eq_some_iff.mp hf
    refine ⟨G', ρ', b, ρ1, E', q1, fun G1 H1 t1 o1 E1 => ?_⟩
    have s1 : Stp P G H σ ρ G1 H1 σ' ρ1 := s'.trans (.of t1 o1)
    cases b with
    | false =>
      dsimp only
      rw [if_neg Bool.false_ne_true]
      cases q2
      exact k σ' G1 H1 s1 E1
    | true =>
      dsimp only
      rw [if_pos rfl]
      obtain ⟨ob, q3, q4⟩ := Option.bind_eq_some_iff.mp (show ((fb ρ1).bind fun o => _) = some o from q2)
      refine ⟨fun σ2 H2 => ∃ G' ρ', Stp P G H σ ρ G' H2 σ2 ρ' ∧ EnvOk X.K G' H2 σ2 ρ' ∧ whF ft fb m ρ' = some o, fun σ2 H2 z => ⟨m, Nat.lt_succ_self m, z⟩, G1, ρ1, ob, E1, q3, ?_⟩
      cases ob with
      | nx r => exact fun σ4 G4 H4 s4 E4 => ⟨G4, r, s1.trans s4, E4, q4⟩
      | ct r => exact fun σ4 G4 H4 s4 E4 => ⟨G4, r, s1.trans s4, E4, q4⟩
      | bk r =>
        cases q4
        exact fun σ4 G4 H4 s4 E4 => k σ4 G4 H4 (s1.trans s4) E4
      | rt d r =>
        cases q4
        exact fun v σ4 G4 H4 s4 E4 dv => k v σ4 G4 H4 (s1.trans s4) E4 dv
      | rf d r =>
        cases q4
        exact Kont.pre (D := D) s1 k
end
end Tw

set_option Elab.async false
set_option linter.all false
set_option maxRecDepth 100000
set_option maxHeartbeats 2000000
namespace Tw
open PySem PySem.Spec PyProof.Rows L2
open Evl (Ex)
/-! ### a new list, one's own -/
def tF (K : PySem.W.Frag) (b : Bool) (f : FE (List PyData)) : TE := fun σ H Q => ∃ (G : Hp) (ρ : Rho) (ds : List PyData) (ρ' : Rho), EnvOk K G H σ ρ ∧ f ρ = some (ds, ρ') ∧
  ∀ p xs G' H', H p = none → G' p = none → H' p = some (.lst xs) → Da K G' xs ds → Tr (ows b σ ρ) G H G' H' → (∀ l, own σ ρ' l → own σ ρ l) → EnvOk K G' H' σ ρ' → Q (.ref p) H'
def fOf (f : FE (List PyData)) : FE PyData := thnE f fun ds => ret (.list ds)
section
variable {K : PySem.W.Frag} {G H G1 H1 : Hp} {σ : L2.St} {ρ ρ1 : Rho} {b : Bool}
theorem ex_put {p : Addr} {o : HO} (ex : Ex G H) (hH : H p = some o) (hG : G p = none) : Ex (upd G p o) H := fun x u q => by
  by_cases z : x = p
  · subst z; rw [upd_same] at q; rw [← q]; exact hH
  · rw [upd_ne z] at q; exact ex x u q
theorem ex_add {p : Addr} {o : HO} (hG : G p = none) : Ex G (upd G p o) := fun x u q => by
  rw [upd_ne fun z => by subst z; rw [hG] at q; cases q]
  exact q
/-- a list of one's own that no slot holds becomes data -/
theorem env_froz (E : EnvOk K G H σ ρ) {p : Addr} {o : HO} (hH : H p = some o) (hG : G p = none) (nw : ¬ own σ ρ p) : EnvOk K (upd G p o) H σ ρ where
  ex := ex_put E.ex hH hG
  len := E.len
  dat := fun i d q => by
    obtain ⟨v, h1, h2⟩ := E.dat i d q
    exact ⟨v, h1, h2.mono (ex_add hG)⟩
  mu := fun i d q => by
    obtain ⟨l, xs, h1, h2, h3, h4⟩ := E.mu i d q
    exact ⟨l, xs, h1, by rw [upd_ne fun z => nw (by rw [← z]; exact ⟨i, d, q, h1⟩)]; exact h2, h3, h4.mono (ex_add hG)⟩
  ne := E.ne
theorem own_there (E : EnvOk K G H σ ρ) {l : Addr} (h : own σ ρ l) : ∃ xs, H l = some xs := by
  obtain ⟨i, ds, h1, h2⟩ := h
  obtain ⟨l', xs, q1, _, q3, _⟩ := E.mu i ds h1
  rw [h2] at q1
  cases q1
  exact ⟨xs, q3⟩
theorem tr_froz {ow : Addr → Prop} (t : Tr ow G H G1 H1) {p : Addr} {o : HO} (hp : H p = none) (hG : G1 p = none) : Tr ow G H (upd G1 p o) H1 where
  g := fun x u q => ex_add hG x u (t.g x u q)
  h := t.h
  n := fun x u q g w => by
    rw [upd_ne fun z => by subst z; rw [hp] at q; cases q]
    exact t.n x u q g w
  k := t.k
theorem tr_mk0 {ow : Addr → Prop} {p : Addr} {o : HO} (hp : H p = none) : Tr ow G H G (upd H p o) where
  g := fun _ _ q => q
  h := fun x u q _ => by
    rw [upd_ne fun z => by subst z; rw [q] at hp; cases hp]
    exact q
  n := fun _ _ _ q _ => q
  k := fun x u q => ⟨u, by
    rw [upd_ne fun z => by subst z; rw [q] at hp; cases hp]
    exact q⟩
theorem EnvOk.gn (E : EnvOk K G H σ ρ) {p : Addr} (hp : H p = none) : G p = none := by
  cases q : G p with
  | none => rfl
  | some u => rw [E.ex p u q] at hp; cases hp
end
section
variable {X : Cx} {e a c : Expr} {es : List Expr} {pos : Pos} {bb : Bool}
theorem f_to {f : FE (List PyData)} {σ : L2.St} {H : Hp} {Q : VK} (h : tE X.K bb (fOf f) σ H Q) : tF X.K bb f σ H Q := by
  obtain ⟨G, ρ, d, ρ', E, ef, k⟩ := h
  obtain ⟨ds, ρ1, h1, h2⟩ := thnE_of ef
  obtain ⟨rfl, rfl⟩ := ret_of h2
  refine ⟨G, ρ, ds, ρ', E, h1, fun p xs G1 H1 hp hG hH da t o E1 => ?_⟩
  have nw : ¬ own σ ρ' p := fun q => by
    obtain ⟨ys, z⟩ := own_there E (o p q)
    rw [hp] at z
    cases z
  exact k (.ref p) (upd G1 p (.lst xs)) H1 (tr_froz t hp hG) o (env_froz E1 hH hG nw) (.ll (RL.of upd_same) (da.mono (ex_add hG)))
theorem e_ofF {f : FE (List PyData)} (h : PE X e (tF X.K bb f)) : PE X e (tE X.K bb (fOf f)) := PE.weak h fun _ _ _ h => f_to h
theorem l_lst {r : FE (List PyData)} (h : PA X es (tA X.K bb r)) : PE X (.List es pos) (tF X.K bb (thnE r fun xs => liftO (if sizeOk xs.length = true then some xs else none))) := PE.weak (pe_lst h) fun σ H Q ⟨G, ρ, d, ρ', E, ef, k⟩ => by
  obtain ⟨x, ρ1, h1, h2⟩ := thnE_of ef
  obtain ⟨h3, rfl⟩ := liftO_of h2
  obtain ⟨hz, rfl⟩ := ite_some h3
  refine ⟨G, ρ, x, ρ', E, h1, fun v G1 H1 t1 o1 E1 d1 => ⟨by rw [d1.len]; exact sizeOk_le hz, fun p hp => ?_⟩⟩
  have t2 : Tr nobody G1 H1 G1 (upd H1 p (.lst v)) := tr_mk0 hp
  exact k p v G1 _ (tr_back t1 hp) (E1.gn hp) upd_same d1 (t1.trans t2 fun _ _ _ q => q.elim) o1 (E1.tr t2 (ex_new E1.ex hp))
end
end Tw

set_option Elab.async false
set_option linter.all false
set_option maxRecDepth 100000
set_option maxHeartbeats 4000000
namespace Tw
open PySem PySem.Spec PyProof.Rows L2
theorem extend_tup (l : Addr) (items : Array Value) (n : Nat) (b : Addr) (dt : Option Addr) (sl : Array (Option Value)) (items2 : Array Value) (n2 : Nat) (g0 : ¬(!items.isEmpty && Builtin.List.listTooLong (items.size + items2.size)) = true)
    (g1 : items.size ≤ sizeLine) (g2 : items.size + items2.size ≤ sizeLine + 1) :
    Meets (Builtin.«list.extend» ⟨[.ref l, .ref b], []⟩) (fun _ R s => s.heap.get? l = some { cls := .type "list", dict := none, data := .seq items n, slots := #[] } ∧
      s.heap.get? b = some { cls := .type "tuple", dict := dt, data := .seq items2 n2, slots := sl } ∧ R (.ok (.ret Value.none)) { s with heap := s.heap.update l (Obj.mapSeq fun x => x ++ items2), toks := s.toks }) :=
  .of_wp fun prog w A R s hh => by
    obtain ⟨hp, gs, dr, tk, os⟩ := s
    obtain ⟨hl, hb, hr⟩ := hh
    have f1 := AutoSeq1.idx_int
    have f2 := AutoSeq1.sub_tuple_tuple
    have f3 := AutoSeq1.sub_list_list
    have f4 := AutoSeq1.sub_tuple_list
    have f5 := AutoSeq1.sub_list_tuple
    have hz2 : (items ++ items2).size ≤ sizeLine + 1 := by rw [Array.size_append]; exact g2
    wp_walk using (wpAny_updateSeq hl rfl (hz := g1) (_hz' := hz2)), AutoSeq1.wpAny_loadPart' hl, AutoSeq1.wpAny_loadPart' hb
    exact ⟨_, rfl, hr⟩
end Tw

set_option Elab.async false
set_option linter.all false
set_option maxRecDepth 100000
set_option maxHeartbeats 2000000
namespace Tw
open PySem PySem.Spec PyProof.Rows L2
open Evl (Ex)
/-! ### lists that change -/
abbrev GM := List PyData → List PyData → Option (PyData × List PyData)
/-- a method that changes its list -/
def MutD (K : PySem.W.Frag) (r : V → List V → Hp → VK → Prop) (g : GM) : Prop :=
  ∀ (G H : Hp) (l : Addr) (xs ws : List V) (ms ds ms' : List PyData) (z : PyData) (Q : VK), Ex G H → G l = none → H l = some (.lst xs) → Da K G xs ms → Da K G ws ds → g ms ds = some (z, ms') →
    (∀ v xs', Dt K G v z → Da K G xs' ms' → Q v (upd H l (.lst xs'))) → r (.ref l) ws H Q
def fMet (i : Nat) (g : GM) (ra : FE (List PyData)) : FE PyData := fun ρ => match ρ[i]? with
  | some (.m (.l _)) => thnE ra (fun ds ρ1 => match ρ1[i]? with
    | some (.m (.l ms)) => (g ms ds).map fun p => (p.1, ρ1.set i (.m (.l p.2)))
    | _ => none) ρ
  | _ => none
section
variable {K : PySem.W.Frag} {G H G1 H1 : Hp} {σ : L2.St} {ρ ρ1 : Rho} {b : Bool}
theorem tr_cell {l : Addr} {xs xs' : List V} (hG : G l = none) (hH : H l = some (.lst xs)) : Tr (fun a => a = l) G H G (upd H l (.lst xs')) where
  g := fun _ _ q => q
  h := fun x u q n => by rw [upd_ne n]; exact q
  n := fun _ _ _ q _ => q
  k := fun x u q => by
    by_cases z : x = l
    · subst z; exact ⟨_, upd_same⟩
    · exact ⟨u, by rw [upd_ne z]; exact q⟩
theorem ex_cell {l : Addr} {o : HO} (ex : Ex G H) (hG : G l = none) : Ex G (upd H l o) := fun x u q => by
  rw [upd_ne fun z => by subst z; rw [hG] at q; cases q]
  exact ex x u q
end
section
variable {X : Cx} {e o a c tg iter elt : Expr} {es ifs : List Expr} {pos : Pos} {bb : Bool} {P : List Nat} {K : PySem.W.Frag}
theorem met_run {r : V → List V → Hp → VK → Prop} {g : GM} {ra : FE (List PyData)} {i : Nat} (hr : MutD X.K r g) {σ : L2.St} {H : Hp} {Q : VK} (h : tE X.K true (fMet i g ra) σ H Q) :
    tBM X.K "list" r (tVar i) (tA X.K true ra) σ H Q := by
  obtain ⟨G, ρ, d, ρ', E, ef, k⟩ := h
  unfold fMet at ef
  split at ef
  case h_2 => cases ef
  rename_i ms0 hi0
  obtain ⟨ds, ρ1, h1, h2⟩ := thnE_of ef
  split at h2
  case h_2 => cases h2
  rename_i ms hi
  obtain ⟨⟨z, ms'⟩, h3, h4⟩ := Option.map_eq_some_iff.mp h2
  cases h4
  obtain ⟨l, xs0, hσ, _, hH0, _⟩ := E.muL hi0
  refine ⟨.ref l, hσ, .inl ⟨rfl, xs0, .inl (Rd.of hH0)⟩, G, ρ, ds, ρ1, E, h1, fun ws G1 H1 t1 o1 E1 d1 => ?_⟩
  obtain ⟨l2, xs, hσ2, hG, hH, dx⟩ := E1.muL hi
  rw [hσ] at hσ2
  cases hσ2
  refine hr G1 H1 l xs ws ms ds ms' _ Q E1.ex hG hH dx d1 h3 fun v xs' dv dx' => ?_
  have own1 : own σ ρ1 l := ⟨i, ms, hi, hσ⟩
  have t2 : Tr (fun a => a = l) G1 H1 G1 (upd H1 l (.lst xs')) := tr_cell hG hH
  exact k v G1 _ (t1.trans t2 fun a _ _ q => ⟨rfl, by rw [q]; exact o1 l own1⟩) (fun l' q => o1 l' (own_setM hi q)) (env_setM E1 hi hσ t2 (ex_cell E1.ex hG) hG upd_same (.l dx')) dv
theorem e_met {r : V → List V → Hp → VK → Prop} {g : GM} {ra : FE (List PyData)} (i : Nat) (hr : MutD X.K r g) (h : PE X e (tBM X.K "list" r (tVar i) (tA X.K true ra))) : PE X e (tE X.K true (fMet i g ra)) :=
  PE.weak h fun _ _ _ h => met_run hr h
theorem e_met0 {r : V → List V → Hp → VK → Prop} {g : GM} (i : Nat) (hr : MutD X.K r g) (h : PE X e (tBM0 X.K "list" r (tVar i))) : PE X e (tE X.K true (fMet i g (ret []))) :=
  PE.weak h fun σ H Q h => by
    obtain ⟨v, hσ, ty, G, ρ, ds, ρ1, E, h1, k⟩ := met_run hr h
    obtain ⟨rfl, rfl⟩ := ret_of h1
    exact ⟨v, hσ, ty, k [] G H .refl (fun _ q => q) E .nil⟩
def appG : GM := fun ms ds => match ds with
  | [d] => if ms.length < 100000 then some (.none, ms ++ [d]) else none
  | _ => none
theorem m_app : MutD K rAppend appG := fun G H l xs ws ms ds ms' z Q ex hG hH dx dw hg k => by
  unfold appG at hg
  split at hg
  · obtain ⟨h1, h2⟩ := ite_p hg
    cases h2
    obtain ⟨v, rfl, dv⟩ := da_one dw
    exact ⟨l, xs, v, rfl, rfl, hH, by rw [dx.len]; exact Evl.sz_lt h1, k _ _ .nn (dx.app (Da.one dv))⟩
  · cases hg
/-- xs.extend(ys), ys a list or a tuple -/
def rExt (K : PySem.W.Frag) : V → List V → Hp → VK → Prop := fun x vs H Q => ∃ l b xs zs, x = .ref l ∧ vs = [.ref b] ∧ H l = some (.lst xs) ∧ (RL K H b zs ∨ SqT K H b zs) ∧ xs.length + zs.length ≤ sizeLine ∧ Q .non (upd H l (.lst (xs ++ zs)))
theorem mt_ext : MtR X "list.extend" (rExt X.K) := fun pins s σ H x vs v us Q I rx rv ⟨l, b, xs, zs, ex, ev, hH, hB, hz, q⟩ => by
  subst ex
  subst ev
  cases rx
  obtain ⟨u, rfl, ru⟩ := rv.one
  cases ru
  obtain ⟨z, its, n, r, hl, e⟩ := lstR I (RL.of hH)
  have room : ∀ {its2 : List Value}, Vals zs its2 → its.toArray.size + its2.toArray.size ≤ sizeLine := fun r2 => by
    rw [List.size_toArray, List.size_toArray, ← hl, ← r2.length]; exact hz
  have door : ∀ {its2 : List Value}, Vals zs its2 → ¬ (!its.toArray.isEmpty && Builtin.List.listTooLong (its.toArray.size + its2.toArray.size)) = true := fun r2 => by
    rw [notLongL (room r2), Bool.and_false]
    exact Bool.false_ne_true
  have fin : ∀ {its2 : List Value}, Vals zs its2 → EP X pins σ Q .none { s with heap := s.heap.update l (Obj.mapSeq fun x => x ++ its2.toArray), toks := s.toks } := fun {its2} r2 =>
    ⟨.non, _, I.lset (its' := its ++ its2) hH e (by simp) (r.append r2) (by rw [List.length_append]; exact hz), rfl, q⟩
  rcases hB with hB | hB
  · obtain ⟨_, its2, n2, r2, _, e2⟩ := lstR I hB
    refine call_meets F.slot_list_extend ⟨_, e, rfl⟩ F.entry_list_extend (F.args_list_extend_2 _ _)
      (AutoSeq1.list_extend_list_list_0 l its.toArray n b its2.toArray n2 (door r2) ?_ ?_) ⟨e, e2, fin r2⟩
    · rw [List.size_toArray, ← hl]; exact z
    · exact Nat.le_succ_of_le (room r2)
  · obtain ⟨its2, r2, ⟨ob, ho, hc, n2, hd⟩, _⟩ := I.tuple hB
    obtain ⟨oc, odt, od, osl⟩ := ob
    dsimp only at hc hd
    subst hc
    subst hd
    refine call_meets F.slot_list_extend ⟨_, e, rfl⟩ F.entry_list_extend (F.args_list_extend_2 _ _)
      (extend_tup l its.toArray n b odt osl its2.toArray n2 (door r2) ?_ ?_) ⟨e, ho, fin r2⟩
    · rw [List.size_toArray, ← hl]; exact z
    · exact Nat.le_succ_of_le (room r2)
def extG : GM := fun ms ds => match ds with
  | [.list es] => if sizeOk (ms.length + es.length) = true then some (.none, ms ++ es) else none
  | [.tuple es] => if sizeOk (ms.length + es.length) = true then some (.none, ms ++ es) else none
  | _ => none
theorem m_ext : MutD K (rExt K) extG := fun G H l xs ws ms ds ms' z Q ex hG hH dx dw hg k => by
  unfold extG at hg
  split at hg
  · obtain ⟨h1, h2⟩ := ite_p hg
    cases h2
    obtain ⟨v, rfl, dv⟩ := da_one dw
    obtain ⟨b, ys, rfl, hy, dy⟩ := dt_list dv
    exact ⟨l, b, xs, ys, rfl, rfl, hH, .inl (hy.mono ex), by rw [dx.len, dy.len]; exact sizeOk_le h1, k _ _ .nn (dx.app dy)⟩
  · obtain ⟨h1, h2⟩ := ite_p hg
    cases h2
    obtain ⟨v, rfl, dv⟩ := da_one dw
    obtain ⟨b, ys, rfl, hy, dy⟩ := dt_tup dv
    exact ⟨l, b, xs, ys, rfl, rfl, hH, .inr (Evl.ex_t ex hy), by rw [dx.len, dy.len]; exact sizeOk_le h1, k _ _ .nn (dx.app dy)⟩
  · cases hg
/-- xs.pop(i), xs.pop() -/
def popG : GM := fun ms ds => match ds with
  | [.int i] => if -(2 ^ 63) ≤ i ∧ i < 2 ^ 63 then (seqIndex? i ms.length).bind fun k => (ms[k]?).map fun d => (d, ms.eraseIdx k) else none
  | _ => none
theorem Da.erase {G : Hp} : ∀ {vs : List V} {ds : List PyData} (i : Nat), Da K G vs ds → Da K G (vs.eraseIdx i) (ds.eraseIdx i)
  | _, _, _, .nil => .nil
  | _, _, 0, .cons _ t => t
  | _, _, i + 1, .cons h t => .cons h (Da.erase i t)
theorem m_pop : MutD K rPopAt popG := fun G H l xs ws ms ds ms' z Q ex hG hH dx dw hg k => by
  unfold popG at hg
  split at hg
  · split at hg
    · rename_i hb
      obtain ⟨j, h1, h2⟩ := Option.bind_eq_some_iff.mp hg
      obtain ⟨d, h3, h4⟩ := Option.map_eq_some_iff.mp h2
      cases h4
      obtain ⟨v, rfl, dv⟩ := da_one dw
      obtain ⟨y, h5, h6⟩ := dx.get h3
      exact ⟨l, xs, _, j, y, rfl, by rw [dt_int dv], hH, hb.1, hb.2, by rw [dx.len]; exact h1, h5, k _ _ h6 (dx.erase j)⟩
    · cases hg
  · cases hg
def popL : GM := fun ms ds => match ds with
  | [] => (ms[ms.length - 1]?).map fun d => (d, ms.dropLast)
  | _ => none
theorem Da.dropL {G : Hp} {vs : List V} {ds : List PyData} (h : Da K G vs ds) : Da K G vs.dropLast ds.dropLast := by
  rw [List.dropLast_eq_take, List.dropLast_eq_take, h.len]
  exact h.take _
theorem m_popL : MutD K rPop popL := fun G H l xs ws ms ds ms' z Q ex hG hH dx dw hg k => by
  unfold popL at hg
  split at hg
  · obtain ⟨d, h3, h4⟩ := Option.map_eq_some_iff.mp hg
    cases h4
    cases dw
    obtain ⟨y, h5, h6⟩ := dx.get h3
    exact ⟨l, xs, y, rfl, rfl, hH, by rw [dx.len]; exact h5, k _ _ h6 dx.dropL⟩
  · cases hg
/-! xs[i] = e -/
section
variable {prog : Program} {w : World} {A : Around} {E : Value → Shared → Prop} {s : Shared}
theorem put_bool {l : Addr} {items : Array Value} {n : Nat} {b : Bool} {v : Value} {Q : Unit → Shared → Prop} (ho : s.heap.get? l = some { cls := .type "list", data := .seq items n }) (hn : (bI b).toNat < items.size)
    (hQ : Q () { s with heap := s.heap.update l (Obj.mapSeq (·.setIfInBounds (bI b).toNat v)) }) : wpAny (model prog w) A (setItem (.ref l) (.bool b) v) Q E s := by
  have hl : s.heap.IsList l items := PySem.IsL.isList (n := n) ho
  unfold setItem
  try (with_reducible refine wpAny_holding ?_)
  first | refine wpAny_bind (wpAny_pure ?_) | skip
  refine wpAny_bind (wpAny_sequenceKey hl.typeIs (by decide) ?_)
  refine wpAny_bind (wpAny_callSpecial?_slot (name := Str.ofString "__setitem__") hl.typeIs slot_list_setitem (wpAny_call_entry slot_list_setitem hl.typeIs entry_list_setitem ?_ (args_list_setitem _ _ _)))
  show wpAny _ _ (Builtin.List.listSubscript? (.bool b) >>= _) _ _ s
  refine wpAny_bind (sub_bool ?_)
  have hb : bI b = (((bI b).toNat : Nat) : Int) := by cases b <;> rfl
  rw [hb]
  generalize (bI b).toNat = j at hn hQ
  have hx : items[j]? = some items[j] := Array.getElem?_eq_getElem hn
  show wpAny _ _ ((seqItemAt l j >>= fun r => pure (r.map (j, ·))) >>= _) _ _ s
  refine wpAny_bind (wpAny_bind (wpAny_seqItemAt ho rfl (wpAny_pure ?_)))
  rw [hx]
  show wpAny _ _ (setSeqItemAt l j v >>= _) _ _ s
  refine wpAny_bind (wpAny_setSeqItemAt ho rfl ?_)
  first
    | exact wpAny_bind (wpAny_pure (wpAny_pure ⟨.none, rfl, wpAny_pure hQ⟩))
    | exact wpAny_pure ⟨.none, rfl, wpAny_pure hQ⟩
end
def rSetB : TSet := fun o i v H Q => ∃ p xs b, o = .ref p ∧ i = .bl b ∧ H p = some (.lst xs) ∧ (bI b).toNat < xs.length ∧ Q (upd H p (.lst (xs.set (bI b).toNat v)))
def rSet2 : TSet := fun o i v H Q => rSetL o i v H Q ∨ rSetB o i v H Q
theorem set_list2 : PSet X rSet2 := fun pins s σ H o i v ov iv u Q I ro ri rv h => by
  rcases h with h | ⟨p, xs, b, rfl, rfl, hp, hj, q⟩
  · exact set_list pins s σ H o i v ov iv u Q I ro ri rv h
  · cases ro
    obtain rfl : iv = Value.bool b := ri
    obtain ⟨its, n, r, ho, hz⟩ := I.lst hp
    have I' : Inv X pins σ (upd H p (.lst (xs.set (bI b).toNat v))) { s with heap := s.heap.update p (Obj.mapSeq (·.setIfInBounds (bI b).toNat u)) } :=
      I.lstUpd hp ho (mapSeq_set its n _ u) (r.set rv _) (by rw [List.length_set]; exact hz) s.toks
    exact put_bool ho (by rw [List.size_toArray, ← r.length]; exact hj) ⟨_, I', q⟩
/-- the place that is told -/
def plI (n : Nat) : PyData → Option Nat
  | .int k => ixN n k
  | .bool b => if (bI b).toNat < n then some (bI b).toNat else none
  | _ => none
def fSetI (i : Nat) (fe fi : FE PyData) : FS := fun ρ => (fe ρ).bind fun p => match p.2[i]? with
  | some (.m (.l _)) => (fi p.2).bind fun q => match q.2[i]? with
    | some (.m (.l ms)) => (plI ms.length q.1).map fun j => .nx (q.2.set i (.m (.l (ms.set j p.1))))
    | _ => none
  | _ => none
theorem s_setI {fe fi : FE PyData} (i : Nat) {tg : Expr} (ht : PG X tg (gSub (tVar i) (tE X.K true fi) rSet2)) (he : PE X e (tE X.K true fe)) (hs : swapsWithSole [tg] e pos.line X.env = pure false := by rfl) (hw : swappedStores [tg] e X.env = pure none := by rfl)
    (h1 : (assignEach [tg] X.env).map (·.2) = [assign tg X.env] := by rfl) : PS X (.Assign [tg] e pos) (tS X.K P (fSetI i fe fi)) := PS.weak (ps_asg he ht hs hw h1) fun D σ H ⟨G, ρ, o, E, ef, k⟩ => by
  obtain ⟨⟨d, ρ1⟩, q1, q2⟩ := Option.bind_eq_some_iff.mp ef
  dsimp only at q2
  split at q2
  case h_2 => cases q2
  rename_i ms0 hi0
  obtain ⟨⟨dk, ρ2⟩, q3, q4⟩ := Option.bind_eq_some_iff.mp q2
  dsimp only at q4
  split at q4
  case h_2 => cases q4
  rename_i ms hi
  obtain ⟨j, hj, rfl⟩ := Option.map_eq_some_iff.mp q4
  refine ⟨G, ρ, d, ρ1, E, q1, fun v G1 H1 t1 o1 E1 d1 => ?_⟩
  obtain ⟨l, xs0, hσ, _, _, _⟩ := E1.muL hi0
  refine ⟨.ref l, hσ, G1, ρ1, _, ρ2, E1, q3, fun w G2 H2 t2 o2 E2 d2 => ?_⟩
  obtain ⟨l2, xs, hσ2, hG, hH, dx⟩ := E2.muL hi
  rw [hσ] at hσ2
  cases hσ2
  have own2 : own σ ρ2 l := ⟨i, ms, hi, hσ⟩
  have s12 : Stp P G H σ ρ G2 H2 σ ρ2 := (Stp.of t1 o1).trans (.of t2 o2)
  have fin : D.nx σ (upd H2 l (.lst (xs.set j v))) := by
    have t3 : Tr (fun a => a = l) G2 H2 G2 (upd H2 l (.lst (xs.set j v))) := tr_cell hG hH
    refine k σ G2 _ (s12.trans ⟨t3.wide fun a _ _ q => by rw [q]; exact own2, fun l' q => .inl (own_setM hi q), fun _ _ => rfl⟩) ?_
    exact env_setM E2 hi hσ t3 (ex_cell E2.ex hG) hG upd_same (.l (Da.set j (d1.mono t2.g) dx))
  unfold plI at hj
  split at hj
  · exact .inl ⟨l, xs, _, j, rfl, dt_int d2, hH, by rw [dx.len]; exact hj, fin⟩
  · obtain ⟨h3, rfl⟩ := ite_p hj
    exact .inr ⟨l, xs, _, rfl, dt_bool d2, hH, by rw [dx.len]; exact h3, fin⟩
  · cases hj
/-! ### x = a new list of one's own -/
def fOwn (f : FE (List PyData)) (i : Nat) : FS := fun ρ => (f ρ).bind fun p => if i < p.2.length then some (.nx (p.2.set i (.m (.l p.1)))) else none
theorem own_run {f : FE (List PyData)} {i : Nat} (hp : i ∉ P) {σ : L2.St} {H : Hp} {D : Ends} (h : tS X.K P (fOwn f i) D σ H) : tAsg (tF X.K bb f) (gName i) D σ H := by
  obtain ⟨G, ρ, o, E, ef, k⟩ := h
  obtain ⟨⟨ds, ρ1⟩, q1, q2⟩ := Option.bind_eq_some_iff.mp ef
  obtain ⟨hi, rfl⟩ := ite_p q2
  refine ⟨G, ρ, ds, ρ1, E, q1, fun p xs G1 H1 h0 hG hH da t o1 E1 => ?_⟩
  have hi' : i < σ.length := by rw [E1.len]; exact hi
  have own' : ∀ l, own (σ.set i (some (.ref p))) (ρ1.set i (.m ds)) l → l = p ∨ own σ ρ1 l := fun l ⟨j, es, w1, w2⟩ => by
    rcases set_get w1 with ⟨rfl, _⟩ | ⟨n, w1⟩
    · rw [List.getElem?_set_self hi'] at w2
      cases w2
      exact .inl rfl
    · rw [List.getElem?_set_ne (Ne.symm n)] at w2
      exact .inr ⟨j, es, w1, w2⟩
  have notp : ¬ own σ ρ1 p := fun q => by
    obtain ⟨ys, z⟩ := own_there E (o1 p q)
    rw [h0] at z
    cases z
  refine k _ G1 H1 ⟨t.wide fun _ _ _ q => q.2, fun l q => (own' l q).elim (fun z => .inr (by rw [z]; exact h0)) fun z => .inl (o1 l z), fun j hj => List.getElem?_set_ne fun z => hp (by rw [z]; exact hj)⟩ ?_
  exact {
    ex := E1.ex
    len := by rw [List.length_set, List.length_set]; exact E1.len
    dat := fun j d q => by
      rcases set_get q with ⟨_, q⟩ | ⟨n, q⟩
      · cases q
      · rw [List.getElem?_set_ne (Ne.symm n)]
        exact E1.dat j d q
    mu := fun j d q => by
      rcases set_get q with ⟨ej, qq⟩ | ⟨n, qq⟩
      · cases qq
        rw [ej]
        exact ⟨p, _, List.getElem?_set_self hi', hG, hH, .l da⟩
      · rw [List.getElem?_set_ne (Ne.symm n)]
        exact E1.mu j d qq
    ne := fun a b d1 d2 l w1 w2 w3 w4 => by
      rcases set_get w1 with ⟨ea, _⟩ | ⟨na, w1⟩
      · rcases set_get w2 with ⟨eb, _⟩ | ⟨nb, w2⟩
        · rw [ea, eb]
        · rw [ea, List.getElem?_set_self hi'] at w3
          cases w3
          rw [List.getElem?_set_ne (Ne.symm nb)] at w4
          exact (notp ⟨b, d2, w2, w4⟩).elim
      · rcases set_get w2 with ⟨eb, _⟩ | ⟨nb, w2⟩
        · rw [eb, List.getElem?_set_self hi'] at w4
          cases w4
          rw [List.getElem?_set_ne (Ne.symm na)] at w3
          exact (notp ⟨a, d1, w1, w3⟩).elim
        · rw [List.getElem?_set_ne (Ne.symm na)] at w3
          rw [List.getElem?_set_ne (Ne.symm nb)] at w4
          exact E1.ne a b d1 d2 l w1 w2 w3 w4 }
theorem s_own {f : FE (List PyData)} (i : Nat) {tg : Expr} (hp : i ∉ P) (he : PE X e (tF X.K bb f)) (ht : PG X tg (gName i)) (hs : swapsWithSole [tg] e pos.line X.env = pure false := by rfl) (hw : swappedStores [tg] e X.env = pure none := by rfl)
    (h1 : (assignEach [tg] X.env).map (·.2) = [assign tg X.env] := by rfl) : PS X (.Assign [tg] e pos) (tS X.K P (fOwn f i)) := PS.weak (ps_asg he ht hs hw h1) fun _ _ _ h => own_run hp h
/-! ### a list of one's own, looked at; made data -/
def atom : PyData → Bool
  | .none | .bool _ | .int _ | .str _ => true
  | _ => false
theorem atom_dt {G G' : Hp} {v : V} {d : PyData} (h : Dt K G v d) (a : atom d = true) : Dt K G' v d := by
  cases h with
  | nn => exact .nn
  | bb b => exact .bb b
  | ii i => exact .ii i
  | ss x => exact .ss x
  | ll _ _ => cases a
  | tt _ _ => cases a
  | dd _ _ => cases a
/-- the slot i as data -/
def froz (i : Nat) (ρ : Rho) : Option Rho := match ρ[i]? with
  | some (.m (.l ds)) => some (ρ.set i (.d (.list ds)))
  | some (.m (.k es)) => some (ρ.set i (.d (.dict es)))
  | _ => none
theorem fz_dt {ρ ρ' : Rho} {i : Nat} (h : froz i ρ = some ρ') : ∃ u d, ρ[i]? = some (.m u) ∧ ρ' = ρ.set i (.d d) ∧ ∀ (G : Hp) (o : HO) (l : Addr), G l = some o → MuOk K G o u → Dt K G (.ref l) d := by
  unfold froz at h
  split at h
  · rename_i ds hi
    cases h
    exact ⟨_, _, hi, rfl, fun G o l e m => by
      cases m with
      | l m => exact .ll (RL.of e) m⟩
  · rename_i es hi
    cases h
    exact ⟨_, _, hi, rfl, fun G o l e m => by
      cases m with
      | k m => exact .dd e m⟩
  · cases h
theorem env_fz {G H : Hp} {σ : L2.St} {ρ ρ' : Rho} {i : Nat} (E : EnvOk K G H σ ρ) (h : froz i ρ = some ρ') : ∃ l xs, own σ ρ l ∧ G l = none ∧ H l = some xs ∧ EnvOk K (upd G l xs) H σ ρ' ∧ (∀ a, own σ ρ' a → own σ ρ a) := by
  obtain ⟨ds, dd, hi, rfl, fz⟩ := fz_dt (K := K) h
  obtain ⟨l, xs, hσ, hG, hH, dx⟩ := E.mu i ds hi
  have ow : own σ ρ l := ⟨i, ds, hi, hσ⟩
  have sub : ∀ a, own σ (ρ.set i (.d dd)) a → own σ ρ a := fun a ⟨j, es, w1, w2⟩ => by
    rcases set_get w1 with ⟨_, q⟩ | ⟨_, q⟩
    · cases q
    · exact ⟨j, es, q, w2⟩
  refine ⟨l, xs, ow, hG, hH, ⟨ex_put E.ex hH hG, by rw [List.length_set]; exact E.len, fun j d q => ?_, fun j d q => ?_, fun a b d1 d2 l' w1 w2 => ?_⟩, sub⟩
  · rcases set_get q with ⟨ej, qq⟩ | ⟨n, qq⟩
    · cases qq
      rw [ej]
      exact ⟨.ref l, hσ, fz _ _ _ upd_same (dx.mono (ex_add hG))⟩
    · obtain ⟨v, h1, h2⟩ := E.dat j d qq
      exact ⟨v, h1, h2.mono (ex_add hG)⟩
  · rcases set_get q with ⟨ej, qq⟩ | ⟨n, qq⟩
    · cases qq
    · obtain ⟨l', ys, h1, h2, h3, h4⟩ := E.mu j d qq
      refine ⟨l', ys, h1, ?_, h3, h4.mono (ex_add hG)⟩
      rw [upd_ne fun z => n (E.ne j i d ds l qq hi (by rw [← z]; exact h1) hσ)]
      exact h2
  · rcases set_get w1 with ⟨_, q⟩ | ⟨_, w1⟩
    · cases q
    rcases set_get w2 with ⟨_, q⟩ | ⟨_, w2⟩
    · cases q
    exact E.ne a b d1 d2 l' w1 w2
theorem ows_false {σ : L2.St} {ρ : Rho} {a : Addr} (h : ows false σ ρ a) : False := by cases h.1
/-- what is told of a list of one's own, itself not handed on -/
def fPeek (i : Nat) (f : FE PyData) : FE PyData := fun ρ => (froz i ρ).bind fun ρ1 => (f ρ1).bind fun p => if atom p.1 = true then some (p.1, ρ) else none
theorem e_peek {f : FE PyData} (i : Nat) (h : PE X e (tE X.K false f)) : PE X e (tE X.K bb (fPeek i f)) := PE.weak h fun σ H Q ⟨G, ρ, d, ρ', E, ef, k⟩ => by
  obtain ⟨ρ1, q1, q2⟩ := Option.bind_eq_some_iff.mp ef
  obtain ⟨⟨z, ρ2⟩, q3, q4⟩ := Option.bind_eq_some_iff.mp q2
  obtain ⟨ha, q5⟩ := ite_p q4
  cases q5
  obtain ⟨l, xs, ow, hG, hH, E1, _⟩ := env_fz E q1
  refine ⟨_, ρ1, _, ρ2, E1, q3, fun v G1 H1 t1 o1 E2 d1 => ?_⟩
  have t : Tr nobody G H G H1 := ⟨fun _ _ q => q, fun a u q _ => t1.h a u q ows_false, fun _ _ _ q _ => q, t1.k⟩
  exact k v G H1 t.none (fun _ q => q) (E.tr t fun a u q => E2.ex a u (t1.g a u (ex_add hG a u q))) (atom_dt d1 ha)
def tPeek (i : Nat) (f : FE Bool) : FE Bool := fun ρ => (froz i ρ).bind fun ρ1 => (f ρ1).map fun p => (p.1, ρ)
theorem t_peek {f : FE Bool} (i : Nat) (h : PT X e (tT X.K false f)) : PT X e (tT X.K bb (tPeek i f)) := PT.weak h fun σ H Q ⟨G, ρ, d, ρ', E, ef, k⟩ => by
  obtain ⟨ρ1, q1, q2⟩ := Option.bind_eq_some_iff.mp ef
  obtain ⟨⟨z, ρ2⟩, q3, q4⟩ := Option.map_eq_some_iff.mp q2
  cases q4
  obtain ⟨l, xs, ow, hG, hH, E1, _⟩ := env_fz E q1
  refine ⟨_, ρ1, _, ρ2, E1, q3, fun G1 H1 t1 o1 E2 => ?_⟩
  have t : Tr nobody G H G H1 := ⟨fun _ _ q => q, fun a u q _ => t1.h a u q ows_false, fun _ _ _ q _ => q, t1.k⟩
  exact k G H1 t.none (fun _ q => q) (E.tr t fun a u q => E2.ex a u (t1.g a u (ex_add hG a u q)))
def fFrz (i : Nat) (f : FS) : FS := fun ρ => (froz i ρ).bind f
theorem ss_frz {sts : List Stmt} {f : FS} (i : Nat) (h : PSs X sts (tS X.K P f)) : PSs X sts (tS X.K P (fFrz i f)) := PSs.weak h fun D σ H ⟨G, ρ, o, E, ef, k⟩ => by
  obtain ⟨ρ1, q1, q2⟩ := Option.bind_eq_some_iff.mp ef
  obtain ⟨l, xs, ow, hG, hH, E1, sub⟩ := env_fz E q1
  refine ⟨_, ρ1, o, E1, q2, k.pre ⟨⟨ex_add hG, fun a u q _ => q, fun a u q g n => ?_, fun a u q => ⟨u, q⟩⟩, fun a q => .inl (sub a q), fun _ _ => rfl⟩⟩
  rw [upd_ne fun z => n (by rw [z]; exact ow)]
  exact g
end
end Tw

set_option Elab.async false
set_option linter.all false
set_option maxRecDepth 100000
set_option maxHeartbeats 2000000
namespace Tw
open PySem PySem.Spec PyProof.Rows L2
open Evl (Ex)
/-! ### comprehensions -/
def wipeR (ρ : Rho) : List Nat → Rho
  | [] => ρ
  | v :: vs => (wipeR ρ vs).set v .un
/-- the slots vs as they were in ρ0, the others as in ρ -/
def backR (ρ0 : Rho) (ρ : Rho) : List Nat → Rho
  | [] => ρ
  | v :: vs => (backR ρ0 ρ vs).set v (match ρ0[v]? with
    | some (.d x) => .d x
    | _ => .un)
section
variable {K : PySem.W.Frag} {G H G1 H1 : Hp} {σ σ2 : L2.St} {ρ ρ0 ρ1 : Rho} {b : Bool}
theorem wipeR_len (ρ : Rho) : ∀ vs : List Nat, (wipeR ρ vs).length = ρ.length
  | [] => rfl
  | v :: vs => by
    show ((wipeR ρ vs).set v .un).length = ρ.length
    rw [List.length_set, wipeR_len ρ vs]
theorem backR_len (ρ0 ρ : Rho) : ∀ vs : List Nat, (backR ρ0 ρ vs).length = ρ.length
  | [] => rfl
  | v :: vs => by
    show ((backR ρ0 ρ vs).set v _).length = ρ.length
    rw [List.length_set, backR_len ρ0 ρ vs]
theorem wipeR_get {j : Nat} {x : Sl} : ∀ {vs : List Nat}, (wipeR ρ vs)[j]? = some x → x = .un ∨ (j ∉ vs ∧ ρ[j]? = some x)
  | [], h => .inr ⟨List.not_mem_nil, h⟩
  | v :: vs, h => by
    rcases set_get (show ((wipeR ρ vs).set v .un)[j]? = some x from h) with ⟨_, q⟩ | ⟨n, q⟩
    · exact .inl q
    · rcases wipeR_get q with q | ⟨q1, q2⟩
      · exact .inl q
      · exact .inr ⟨fun z => (List.mem_cons.mp z).elim n q1, q2⟩
theorem backR_get {j : Nat} {x : Sl} : ∀ {vs : List Nat}, (backR ρ0 ρ vs)[j]? = some x → (j ∈ vs ∧ (x = .un ∨ ∃ y, x = .d y ∧ ρ0[j]? = some (.d y))) ∨ (j ∉ vs ∧ ρ[j]? = some x)
  | [], h => .inr ⟨List.not_mem_nil, h⟩
  | v :: vs, h => by
    rcases set_get (show ((backR ρ0 ρ vs).set v _)[j]? = some x from h) with ⟨ej, q⟩ | ⟨n, q⟩
    · refine .inl ⟨by rw [ej]; exact List.mem_cons_self, ?_⟩
      rw [q, ej]
      split
      · rename_i y hy
        exact .inr ⟨y, rfl, hy⟩
      · exact .inl rfl
    · rcases backR_get q with ⟨q1, q2⟩ | ⟨q1, q2⟩
      · exact .inl ⟨List.mem_cons_of_mem _ q1, q2⟩
      · exact .inr ⟨fun z => (List.mem_cons.mp z).elim n q1, q2⟩
theorem wipe_at {vs : List Nat} {j : Nat} (h : j ∉ vs) : (wipe σ vs)[j]? = σ[j]? := L2.wipe_out h
theorem env_wipe (E : EnvOk K G H σ ρ) (vs : List Nat) : EnvOk K G H (wipe σ vs) (wipeR ρ vs) where
  ex := E.ex
  len := by rw [wipe_length, wipeR_len]; exact E.len
  dat := fun i d q => by
    rcases wipeR_get q with q | ⟨n, q⟩
    · cases q
    · rw [wipe_at n]; exact E.dat i d q
  mu := fun i d q => by
    rcases wipeR_get q with q | ⟨n, q⟩
    · cases q
    · rw [wipe_at n]; exact E.mu i d q
  ne := fun i j d1 d2 l w1 w2 w3 w4 => by
    rcases wipeR_get w1 with q | ⟨n1, q1⟩
    · cases q
    rcases wipeR_get w2 with q | ⟨n2, q2⟩
    · cases q
    rw [wipe_at n1] at w3
    rw [wipe_at n2] at w4
    exact E.ne i j d1 d2 l q1 q2 w3 w4
theorem own_wipe {vs : List Nat} {l : Addr} (h : own (wipe σ vs) (wipeR ρ vs) l) : own σ ρ l := by
  obtain ⟨j, d, w1, w2⟩ := h
  rcases wipeR_get w1 with q | ⟨n, q⟩
  · cases q
  · exact ⟨j, d, q, by rw [← wipe_at n]; exact w2⟩
/-- from within: the slots as they were -/
theorem env_back {vs : List Nat} (E0 : EnvOk K G H σ ρ0) (E : EnvOk K G1 H1 (wipe σ vs) ρ) (g : Ex G G1) : EnvOk K G1 H1 σ (backR ρ0 ρ vs) where
  ex := E.ex
  len := by rw [backR_len, ← E.len, wipe_length]
  dat := fun i d q => by
    rcases backR_get q with ⟨_, q | ⟨y, q, h0⟩⟩ | ⟨n, q⟩
    · cases q
    · cases q
      obtain ⟨v, h1, h2⟩ := E0.dat i d h0
      exact ⟨v, h1, h2.mono g⟩
    · rw [← wipe_at n]; exact E.dat i d q
  mu := fun i d q => by
    rcases backR_get q with ⟨_, q | ⟨y, q, h0⟩⟩ | ⟨n, q⟩
    · cases q
    · cases q
    · rw [← wipe_at n]; exact E.mu i d q
  ne := fun i j d1 d2 l w1 w2 w3 w4 => by
    rcases backR_get w1 with ⟨_, q | ⟨y, q, h0⟩⟩ | ⟨n1, q1⟩
    · cases q
    · cases q
    rcases backR_get w2 with ⟨_, q | ⟨y, q, h0⟩⟩ | ⟨n2, q2⟩
    · cases q
    · cases q
    rw [← wipe_at n1] at w3
    rw [← wipe_at n2] at w4
    exact E.ne i j d1 d2 l q1 q2 w3 w4
theorem own_back {vs : List Nat} {l : Addr} (h : own σ (backR ρ0 ρ vs) l) : own (wipe σ vs) ρ l := by
  obtain ⟨j, d, w1, w2⟩ := h
  rcases backR_get w1 with ⟨_, q | ⟨y, q, h0⟩⟩ | ⟨n, q⟩
  · cases q
  · cases q
  · exact ⟨j, d, q, by rw [wipe_at n]; exact w2⟩
/-- slots that a target within may not store -/
def compl (n : Nat) (vs : List Nat) : List Nat := (List.range n).filter fun j => decide (j ∉ vs)
theorem wipe_eq {vs : List Nat} {n : Nat} (hn : σ.length = n) (hl : σ2.length = n) (h : ∀ j ∈ compl n vs, σ2[j]? = (wipe σ vs)[j]?) : wipe σ2 vs = wipe σ vs := by
  apply List.ext_getElem?
  intro j
  by_cases hj : j ∈ vs
  · have w : ∀ {τ : L2.St} {ws : List Nat}, j ∈ ws → (wipe τ ws)[j]? = if j < τ.length then some none else none := fun {τ ws} m => by
      induction ws with
      | nil => cases m
      | cons v ws ih =>
        show ((wipe τ ws).set v none)[j]? = _
        by_cases e : j = v
        · subst e
          rw [List.getElem?_set_self']
          by_cases hlt : j < τ.length
          · rw [if_pos hlt, List.getElem?_eq_getElem (by rw [wipe_length]; exact hlt)]
            rfl
          · rw [if_neg hlt, List.getElem?_eq_none (by rw [wipe_length]; omega)]
            rfl
        · rw [List.getElem?_set_ne (Ne.symm e)]
          exact ih ((List.mem_cons.mp m).elim (fun z => absurd z e) id)
    rw [w hj, w hj, hn, hl]
  · rw [wipe_at hj, wipe_at hj]
    by_cases hlt : j < n
    · rw [h j (List.mem_filter.mpr ⟨List.mem_range.mpr hlt, decide_eq_true hj⟩), wipe_at hj]
    · rw [List.getElem?_eq_none (by omega), List.getElem?_eq_none (by omega)]
end
def lcF (ft : FG) (tt : FE Bool) (fe : FE PyData) (vs : List Nat) : List PyData → FE (List PyData)
  | [], ρ => some ([], ρ)
  | d :: ds, ρ => (ft d ρ).bind fun ρ1 => (tt ρ1).bind fun p => if p.1 = true then (fe p.2).bind fun q => (lcF ft tt fe vs ds (wipeR q.2 vs)).map fun r => (q.1 :: r.1, r.2) else lcF ft tt fe vs ds (wipeR p.2 vs)
def fLc (fi : FE (List PyData)) (ft : FG) (tt : FE Bool) (fe : FE PyData) (vs : List Nat) : FE (List PyData) := fun ρ => (fi ρ).bind fun p => if sizeOk p.1.length = true then (lcF ft tt fe vs p.1 (wipeR p.2 vs)).map fun q => (q.1, backR p.2 q.2 vs) else none
section
variable {X : Cx} {e elt tg iter : Expr} {ifs : List Expr} {pos : Pos} {bb : Bool}
theorem lc_run {n : Nat} {fi : FE (List PyData)} {ft : FG} {tt : FE Bool} {fe : FE PyData} {vs : List Nat} {σ : L2.St} {H : Hp} {Q : VK} (hn : σ.length = n) (h : tF X.K bb (fLc fi ft tt fe vs) σ H Q) :
    tLc (tI X.K bb fi) (tG X.K (compl n vs) ft) (tT X.K bb tt) (tE X.K bb fe) vs σ H Q := by
  obtain ⟨G, ρ, ys, ρ', E, ef, k⟩ := h
  obtain ⟨⟨ds, ρ1⟩, h1, h2⟩ := Option.bind_eq_some_iff.mp ef
  obtain ⟨hz, h3⟩ : sizeOk ds.length = true ∧ (lcF ft tt fe vs ds (wipeR ρ1 vs)).map (fun q => (q.1, backR ρ1 q.2 vs)) = some (ys, ρ') := by
    dsimp only at h2
    by_cases q : sizeOk ds.length = true
    · rw [if_pos q] at h2; exact ⟨q, h2⟩
    · rw [if_neg q] at h2; cases h2
  obtain ⟨⟨ys', ρe⟩, h4, h5⟩ := Option.map_eq_some_iff.mp h3
  cases h5
  dsimp only at k
  refine ⟨G, ρ, ds, ρ1, E, h1, fun J G1 H1 t1 o1 E1 W D hD => ?_⟩
  have E0 := env_wipe E1 vs
  have hD0 : H D = none := tr_back t1 hD
  have notD : ∀ {a : Addr}, own (wipe σ vs) (wipeR ρ1 vs) a → a ≠ D := fun {a} q z => by
    obtain ⟨xs, w⟩ := own_there E0 q
    rw [z, hD] at w
    cases w
  let Inv' : Nat → Hp → Prop := fun i H' => ∃ G' ρ2 acc accd rest, EnvOk X.K G' H' (wipe σ vs) ρ2 ∧ Tr (fun a => ows bb (wipe σ vs) (wipeR ρ1 vs) a ∨ a = D) G1 (upd H1 D (.lst [])) G' H' ∧ G' D = none ∧ H' D = some (.lst acc) ∧ Da X.K G' acc accd ∧
    (∀ l, own (wipe σ vs) ρ2 l → own (wipe σ vs) (wipeR ρ1 vs) l) ∧ lcF ft tt fe vs (ds.drop i) ρ2 = some (rest, ρe) ∧ accd ++ rest = ys' ∧ acc.length ≤ i
  have start0 : Inv' 0 (upd H1 D (.lst [])) := ⟨G1, wipeR ρ1 vs, [], [], ys', E0.tr (tr_mk0 hD) (ex_new E1.ex hD), .refl, E1.gn hD, upd_same, .nil, fun _ q => q, h4, rfl, Nat.zero_le _⟩
  refine ⟨fun i m H' => m = ds.length - i ∧ i ≤ ds.length ∧ Inv' i H', ⟨ds.length, by omega, Nat.zero_le _, start0⟩, ?_⟩
  rintro i m H' ⟨rfl, hi, G', ρ2, acc, accd, rest, E', t', gD, hDl, da, oo, hf, ea, hlen⟩
  have exG : Ex G1 H' := fun a u z => E'.ex a u (t'.g a u z)
  by_cases hlt : i < ds.length
  · have ed : ds.drop i = ds[i] :: ds.drop (i + 1) := List.drop_eq_getElem_cons hlt
    rw [ed] at hf
    obtain ⟨ρ3, q1, q2⟩ := Option.bind_eq_some_iff.mp hf
    obtain ⟨⟨b, ρ4⟩, q3, q4⟩ := Option.bind_eq_some_iff.mp q2
    refine .inr ⟨W.go i H' hlt exG, Inv' (i + 1), fun H2 z => ⟨ds.length - (i + 1), by omega, rfl, hlt, z⟩, fun x H2 y => ?_⟩
    obtain ⟨G3, t3, e3, d3⟩ := W.yld i H' x H2 ds[i] (List.getElem?_eq_getElem hlt) exG y G' t'.g E'.ex
    have E3 := E'.tr t3 e3
    refine ⟨G3, ρ2, ds[i], ρ3, E3, d3, q1, fun σ2 so E4 => ?_⟩
    have hl2 : σ2.length = n := by rw [so.l, wipe_length, hn]
    refine ⟨wipe_eq hn hl2 so.p, G3, ρ3, b, ρ4, E4, q3, fun G5 H5 t5 o5 E5 => ?_⟩
    have D2 : H2 D = some (.lst acc) := t3.h D _ hDl id
    have g3D : G3 D = none := t3.n D _ hDl gD id
    have own3 : ∀ {a : Addr}, own σ2 ρ3 a → own (wipe σ vs) (wipeR ρ1 vs) a := fun q => oo _ (so.o _ q)
    have nD3 : ¬ ows bb σ2 ρ3 D := fun q => notD (own3 q.2) rfl
    have D5 : H5 D = some (.lst acc) := t5.h D _ D2 nD3
    have g5D : G5 D = none := t5.n D _ D2 g3D nD3
    have T5 : Tr (fun a => ows bb (wipe σ vs) (wipeR ρ1 vs) a ∨ a = D) G1 (upd H1 D (.lst [])) G5 H5 := (t'.trans t3 fun _ _ _ q => q.elim).trans t5 fun a _ _ q => .inl ⟨q.1, own3 q.2⟩
    have toW : ∀ {ρx : Rho} {a : Addr}, (∀ l, own σ2 ρx l → own σ2 ρ4 l) → own (wipe σ vs) (wipeR ρx vs) a → own (wipe σ vs) (wipeR ρ1 vs) a := fun {ρx a} hx q => by
      rw [← wipe_eq hn hl2 so.p] at q
      exact own3 (o5 _ (hx _ (own_wipe q)))
    cases b with
    | false =>
      dsimp only
      rw [if_neg Bool.false_ne_true]
      refine ⟨G5, wipeR ρ4 vs, acc, accd, rest, ?_, T5, g5D, D5, da.mono fun a u z => t5.g a u (t3.g a u z), fun l q => toW (fun _ z => z) q, q4, ea, Nat.le_succ_of_le hlen⟩
      rw [← wipe_eq hn hl2 so.p]
      exact env_wipe E5 vs
    | true =>
      dsimp only
      rw [if_pos rfl]
      obtain ⟨⟨y0, ρ5⟩, q5, q6⟩ := Option.bind_eq_some_iff.mp (show ((fe ρ4).bind fun q => _) = some (rest, ρe) from q4)
      obtain ⟨⟨r0, ρ6⟩, q7, q8⟩ := Option.map_eq_some_iff.mp q6
      cases q8
      refine ⟨G5, ρ4, y0, ρ5, E5, q5, fun v G6 H6 t6 o6 E6 d6 => ?_⟩
      have nD4 : ¬ ows bb σ2 ρ4 D := fun q => notD (own3 (o5 _ q.2)) rfl
      have D6 : H6 D = some (.lst acc) := t6.h D _ D5 nD4
      have g6D : G6 D = none := t6.n D _ D5 g5D nD4
      refine ⟨acc, D6, Nat.lt_of_le_of_lt hlen (Nat.lt_of_lt_of_le hlt (sizeOk_le hz)), ?_⟩
      have E7 : EnvOk X.K G6 (upd H6 D (.lst (acc ++ [v]))) σ2 ρ5 := {
        ex := ex_cell E6.ex g6D
        len := E6.len
        dat := E6.dat
        mu := fun j d q => by
          obtain ⟨l, xs, w1, w2, w3, w4⟩ := E6.mu j d q
          have nl : l ≠ D := notD (own3 (o5 _ (o6 _ ⟨j, d, q, w1⟩)))
          exact ⟨l, xs, w1, w2, by rw [upd_ne nl]; exact w3, w4⟩
        ne := E6.ne }
      refine ⟨G6, wipeR ρ5 vs, acc ++ [v], accd ++ [y0], r0, ?_, ?_, g6D, upd_same, (da.mono fun a u z => t6.g a u (t5.g a u (t3.g a u z))).app (Da.one d6), fun l q => toW (fun _ z => o6 _ z) q, q7, by rw [List.append_assoc]; exact ea, by rw [List.length_append]; exact Nat.succ_le_succ hlen⟩
      · rw [← wipe_eq hn hl2 so.p]
        exact env_wipe E7 vs
      · have T6 : Tr (fun a => ows bb (wipe σ vs) (wipeR ρ1 vs) a ∨ a = D) G1 (upd H1 D (.lst [])) G6 H6 := T5.trans t6 fun a _ _ q => .inl ⟨q.1, own3 (o5 _ q.2)⟩
        exact T6.trans (tr_cell g6D D6) fun a _ _ q => .inr q
  · have en : i = ds.length := by omega
    subst en
    rw [List.drop_length] at hf
    cases hf
    rw [List.append_nil] at ea
    subst ea
    refine .inl ⟨W.stop H' exG, k D acc G' H' hD0 gD hDl da ?_ (fun l q => o1 l (own_wipe (oo l (own_back q)))) (env_back E1 E' t'.g)⟩
    have tA : Tr (ows bb (wipe σ vs) (wipeR ρ1 vs)) G1 H1 G' H' := (tr_mk0 hD).trans t' fun x o q w => w.elim id fun z => by rw [z, hD] at q; cases q
    exact t1.trans tA fun x o q w => ⟨w.1, o1 _ (own_wipe w.2)⟩
end
end Tw

set_option Elab.async false
set_option linter.all false
set_option maxRecDepth 100000
set_option maxHeartbeats 2000000
namespace Tw
open PySem PySem.Spec PyProof.Rows L2
open Evl (Ex)
section
variable {X : Cx} {e elt tg iter : Expr} {ifs : List Expr} {pos : Pos} {bb : Bool} {P : List Nat}
theorem PTs.weak {t t' : TT} (h : PTs X ifs t) (w : ∀ σ H Q, t' σ H Q → t σ H Q) : PTs X ifs t' := ⟨fun pins s σ H Q I q => h.run pins s σ H Q I (w σ H Q q)⟩
theorem ts_nil : PTs X [] (tT X.K bb (ret true)) := PTs.weak pts_nil fun σ H Q ⟨G, ρ, d, ρ', E, ef, k⟩ => by
  obtain ⟨rfl, rfl⟩ := ret_of ef
  exact k G H .refl (fun _ q => q) E
theorem ts_one {c : Expr} {t : FE Bool} (h : PT X c (tT X.K bb t)) : PTs X [c] (tT X.K bb t) := pts_one h
variable {scope : Scope} {own : List (Str × Nat)} {fi : FE (List PyData)} {ft : FG} {tt : FE Bool} {fe : FE PyData}
theorem l_lc (n : Nat) (hc : X.calm = true) (hN : X.N.Nodup) (hi : PI X tg iter (tI X.K bb fi)) (ok : BlkOk X.N X.env.scope scope own)
    (hg : ∀ (s : Shared) (H : Hp) (C : Addr) (cl : List (Str × Addr)) (fp : List Addr), PG (X.blk s H scope (compEnvC scope cl C X.env) fp) tg (tG X.K (compl n (own.map (·.2))) ft))
    (ht : ∀ (s : Shared) (H : Hp) (C : Addr) (cl : List (Str × Addr)) (fp : List Addr), PTs (X.blk s H scope (compEnvC scope cl C X.env) fp) ifs (tT X.K bb tt))
    (he : ∀ (s : Shared) (H : Hp) (C : Addr) (cl : List (Str × Addr)) (fp : List Addr), PE (X.blk s H scope (compEnvC scope cl C X.env) fp) elt (tE X.K bb fe)) (hn : X.N.length = n := by rfl) (hs : ∀ x, foldedSetIterable iter X.env x = pure x := by intro _; rfl) :
    PE X (.ListComp elt [⟨tg, iter, ifs, 0⟩] scope pos) (tF X.K bb (fLc fi ft tt fe (own.map (·.2)))) :=
  PE.weakI (pe_lc hc hN hi ok hg ht he hs) fun pins s σ H Q I h => lc_run (I.len.trans hn) h
/-- y = [.. for .. in ..], stored straight -/
theorem s_setLc {i : Nat} {y : Str} {py spos : Pos} (n : Nat) (hp : i ∉ P) (hc : X.calm = true) (hN : X.N.Nodup) (hy : X.N[i]? = some y) (hyl : X.env.scope.names.lookup y = some .local)
    (hsw : swapsWith (.ListComp elt [⟨tg, iter, ifs, 0⟩] scope pos) (some (.Name y py)) spos.line X.env = pure true) (hi : PI X tg iter (tI X.K bb fi)) (ok : BlkOk X.N X.env.scope scope own)
    (hg : ∀ (s : Shared) (H : Hp) (C : Addr) (cl : List (Str × Addr)) (fp : List Addr), PG (X.blk s H scope (compEnvC scope cl C X.env) fp) tg (tG X.K (compl n (own.map (·.2))) ft))
    (ht : ∀ (s : Shared) (H : Hp) (C : Addr) (cl : List (Str × Addr)) (fp : List Addr), PTs (X.blk s H scope (compEnvC scope cl C X.env) fp) ifs (tT X.K bb tt))
    (he : ∀ (s : Shared) (H : Hp) (C : Addr) (cl : List (Str × Addr)) (fp : List Addr), PE (X.blk s H scope (compEnvC scope cl C X.env) fp) elt (tE X.K bb fe)) (hn : X.N.length = n := by rfl) (hs : ∀ x, foldedSetIterable iter X.env x = pure x := by intro _; rfl) :
    PS X (.Assign [.Name y py] (.ListComp elt [⟨tg, iter, ifs, 0⟩] scope pos) spos) (tS X.K P (fAsg (fOf (fLc fi ft tt fe (own.map (·.2)))) (gNm i))) :=
  PS.weakI (ps_setLc hc hN hy hyl hsw hi ok hg ht he hs) fun pins s D σ H I h => by
    obtain ⟨G, ρ, o, E, ef, k⟩ := h
    refine lc_run (I.len.trans hn) (f_to ?_)
    obtain ⟨⟨d, ρ1⟩, h1, h2⟩ := Option.bind_eq_some_iff.mp ef
    obtain ⟨ρ2, h3, rfl⟩ := Option.map_eq_some_iff.mp h2
    obtain ⟨hlt, rfl⟩ := ite_p h3
    refine ⟨G, ρ, d, ρ1, E, h1, fun v G1 H1 t1 o1 E1 d1 => ?_⟩
    exact k _ G1 H1 ((Stp.of t1 o1).trans ⟨.refl, fun l q => .inl (own_set q), fun j hj => List.getElem?_set_ne fun z => hp (by rw [z]; exact hj)⟩) (E1.set hlt d1)
theorem s_ownLc {i : Nat} {y : Str} {py spos : Pos} (n : Nat) (hp : i ∉ P) (hc : X.calm = true) (hN : X.N.Nodup) (hy : X.N[i]? = some y) (hyl : X.env.scope.names.lookup y = some .local)
    (hsw : swapsWith (.ListComp elt [⟨tg, iter, ifs, 0⟩] scope pos) (some (.Name y py)) spos.line X.env = pure true) (hi : PI X tg iter (tI X.K bb fi)) (ok : BlkOk X.N X.env.scope scope own)
    (hg : ∀ (s : Shared) (H : Hp) (C : Addr) (cl : List (Str × Addr)) (fp : List Addr), PG (X.blk s H scope (compEnvC scope cl C X.env) fp) tg (tG X.K (compl n (own.map (·.2))) ft))
    (ht : ∀ (s : Shared) (H : Hp) (C : Addr) (cl : List (Str × Addr)) (fp : List Addr), PTs (X.blk s H scope (compEnvC scope cl C X.env) fp) ifs (tT X.K bb tt))
    (he : ∀ (s : Shared) (H : Hp) (C : Addr) (cl : List (Str × Addr)) (fp : List Addr), PE (X.blk s H scope (compEnvC scope cl C X.env) fp) elt (tE X.K bb fe)) (hn : X.N.length = n := by rfl) (hs : ∀ x, foldedSetIterable iter X.env x = pure x := by intro _; rfl) :
    PS X (.Assign [.Name y py] (.ListComp elt [⟨tg, iter, ifs, 0⟩] scope pos) spos) (tS X.K P (fOwn (fLc fi ft tt fe (own.map (·.2))) i)) :=
  PS.weakI (ps_setLc hc hN hy hyl hsw hi ok hg ht he hs) fun pins s D σ H I h => by
    have q := own_run (bb := bb) hp h
    exact lc_run (I.len.trans hn) q
end
end Tw

set_option Elab.async false
set_option linter.all false
set_option maxRecDepth 100000
set_option maxHeartbeats 2000000
namespace Tw
open PySem PySem.Spec PyProof.Rows L2
open Evl (Ex)
/-! ### the law as it is called -/
theorem script_G {Pr : Program} {w : World} {K : PySem.W.Frag} {mg mb : Str → Option Value} {k : Nat} {fa a : Addr} {fd : FuncData} {x : Str} {g : List PyData → Option PyData} {s₁ : Shared} {vs : List Value} {ns : List Int}
    (KX : K.In s₁.heap) (hns : s₁.heap.Ns mainGlobals mg) (hmb : s₁.heap.Ns builtinsNs mb) (hbb : ∀ x : Str, x ≠ "__name__" → mb x = bootBuiltins x) (lim : s₁.heap.NoLimit) (gn : s₁.gens = #[])
    (ha : s₁.heap.get? a = some { cls := .type "list", data := .seq vs.toArray }) (hi : IntsAre vs ns) (hl : ns.length ≤ sizeLine) (hr : Room k callerA)
    (F : ∀ base : Heap, K.In base → base.Ns mainGlobals mg → FnG Pr w K mg base k fa fd [x] (spP K 1 g)) (bd : ∀ (s : Shared) (u : Value), BindsTo s fd ⟨[u], []⟩ [(x, u)])
    (ans : g [.list (ns.map .int)] = some (.bool true)) :
    codeAny (model Pr w) callerA (.call (.ref fa) ⟨[.ref a], []⟩) (fun r s' => r = .ok (.ret (.bool true)) ∧ OldK s₁.heap s'.heap ∧ s'.os = s₁.os ∧ AllBare s'.gens) s₁ := by
  have rv := vals_ints hi
  have hlen := hi.length
  have main : ∀ M : Hp, Only M → RL K M a (ns.map V.int) → HOk Pr w M s₁.heap → (∀ b, M b ≠ none → b = a) → (M a ≠ none → K.lookup a = none) →
      codeAny (model Pr w) callerA (.call (.ref fa) ⟨[.ref a], []⟩) (fun r s' => r = .ok (.ret (.bool true)) ∧ OldK s₁.heap s'.heap ∧ s'.os = s₁.os ∧ AllBare s'.gens) s₁ := fun M hO hS ok hA hK => by
    have is_a : ∀ {b : Addr} {u : HO}, M b = some u → b = a := fun {b u} q => hA b (by rw [q]; exact fun z => nomatch z)
    have plainB : ∀ {b : Addr} {o : Obj} {es : Array DictEntry} {ep : Nat}, s₁.heap.get? b = some o → o.data = .dict es ep → M b = none := fun {b o es ep} e d => by
      cases q : M b with
      | none => rfl
      | some u =>
        obtain rfl := is_a q
        rw [ha] at e
        cases e
        cases d
    have nsH : ∀ {b : Addr} {m : Str → Option Value}, s₁.heap.Ns b m → (hidT s₁.heap M).Ns b m := fun {b m} ⟨o, es, ep, e, d, r⟩ => ⟨o, es, ep, hidT_get e (plainB e d), d, r⟩
    have inB : K.In (hidT s₁.heap M) := fun b o e => hidT_get (KX b o e) (by
      cases q : M b with
      | none => rfl
      | some u =>
        obtain rfl := is_a q
        rw [hK (by rw [q]; exact fun z => nomatch z)] at e
        cases e)
    have md : Mod K mg (hidT s₁.heap M) := ⟨inB, nsH hns, ⟨mb, nsH hmb, hbb⟩, let ⟨mc, h1, h2⟩ := lim; ⟨mc, nsH h1, h2⟩⟩
    have none0 : ∀ b, b ∉ frs ([] : List Env) := fun b z => nomatch (show b ∈ ([] : List Addr) from z)
    have e0 : Env0 Pr w K mg (hidT s₁.heap M) callerA [] s₁ M := ⟨rfl, md, fun b o e => of_hidT e, Nat.le_of_eq (hidT_size _ _), trivial, fun b hb => absurd hb (none0 b), ok, .of_eq gn⟩
    have wish : spP K 1 g [.ref a] M (fun v _ => v = .bl true) E0 := ⟨M, [.list (ns.map .int)], _, fun _ _ q => q, .cons (.ll hS (Da.ints ns)) .nil, rfl, ans, fun v _ _ _ _ d => dt_bool d⟩
    refine codeAny_mono ((F _ inB (nsH hns)).run callerA rfl hr [] s₁ M ⟨[.ref a], []⟩ [.ref a] [.ref a] _ e0 (bd s₁ (.ref a)) (.cons rfl .nil) wish) fun r s' hq => ?_
    match r, hq with
    | .error _, hq => exact False.elim hq
    | .ok .next, hq => exact False.elim hq
    | .ok .brk, hq => exact False.elim hq
    | .ok .cont, hq => exact False.elim hq
    | .ok (.ret u), ⟨v, M', os, bare, un, ok', r', q⟩ =>
      dsimp only at q
      subst q
      obtain rfl : u = Value.bool true := r'
      refine ⟨rfl, OldK.of_keep fun b o e => ?_, os, bare⟩
      cases q : M b with
      | none => exact un.keep b o e q (none0 b) (fun z => nomatch z)
      | some t =>
        rcases hO b with z | ⟨ob, xs, z⟩
        · rw [q] at z; cases z
        · have z2 := un.frzs b ob _ z
          obtain ⟨e1, _⟩ := ok b _ z
          obtain ⟨e2, _⟩ := ok' b _ z2
          rw [e] at e1
          cases e1
          exact e2
  cases hk : K.lookup a with
  | some o =>
    have e := KX a o hk
    rw [ha] at e
    cases e
    exact main (fun _ => none) (fun _ => .inl rfl) (.inr ⟨vs, _, hk, rv, by rw [List.length_map]; exact hl⟩) (fun b u z => nomatch (show none = some u from z)) (fun b z => absurd rfl z) fun z => absurd rfl z
  | none =>
    have at_a : ∀ {b : Addr} {u : HO}, (if b = a then some (HO.frz { cls := .type "list", data := .seq vs.toArray } (.lst (ns.map V.int))) else none) = some u → b = a ∧ u = .frz { cls := .type "list", data := .seq vs.toArray } (.lst (ns.map V.int)) := fun {b u} z => by
      by_cases hb : b = a
      · rw [if_pos hb] at z; exact ⟨hb, (Option.some.inj z).symm⟩
      · rw [if_neg hb] at z; cases z
    refine main (fun b => if b = a then some (.frz { cls := .type "list", data := .seq vs.toArray } (.lst (ns.map V.int))) else none) (fun b => ?_) (.inl (.inr ⟨_, if_pos rfl⟩)) (fun b u z => ?_) (fun b z => ?_) fun _ => hk
    · by_cases hb : b = a
      · exact .inr ⟨_, _, if_pos hb⟩
      · exact .inl (if_neg hb)
    · obtain ⟨rfl, rfl⟩ := at_a z
      exact ⟨ha, by rw [List.length_map]; exact hl, vs, _, rv, ha⟩
    · by_cases hb : b = a
      · exact hb
      · exact absurd (if_neg hb) z
/-- what k_head leaves, from the law's own def -/
theorem walk_G {l : PySem.W.OpenLaw} {n k : Nat} {q : Program} {loose : List Str} {XP : (Str → Option Value) → Heap → Prop} {YP : World → Heap → Prop} {d : DefRec} {K : Params → PySem.W.Frag} {g : List PyData → Option PyData} {x : Str}
    (hn : l.most = some n) (hn2 : n ≤ sizeLine) (hdf : d.params.defaults = []) (hr : Room k callerA) (hY : ∀ (w : World) (h : Heap), YP w h → (K w.params).In h)
    (F : ∀ (w : World) (mg : Str → Option Value) (fa : Addr) (h : Heap), (K w.params).In h → h.Ns mainGlobals mg → mg d.name = some (.ref fa) →
      ∃ fd : FuncData, (∀ (s : Shared) (u : Value), BindsTo s fd ⟨[u], []⟩ [(x, u)]) ∧ ∀ base : Heap, (K w.params).In base → base.Ns mainGlobals mg → FnG l.prog w (K w.params) mg base k fa fd [x] (spP (K w.params) 1 g))
    (ans : ∀ ns : List Int, ns.length ≤ n → g [.list (ns.map .int)] = some (.bool true)) : PySem.W.WalkO q loose XP YP l.row.toRowW d [] (fun f vs => PySem.call f vs) := by
  refine Att.attach_call hn hdf fun w s₀ s₁ mg mb fa o pm cd doc a vs ns G Y ho hd hcd hmg hobj hints hlen hg => ?_
  obtain ⟨fd, hb, hF⟩ := F w mg fa _ (hY w _ Y) G.T.g hmg
  exact script_G (hY w _ Y) G.T.g G.T.b G.T.builtins G.T.nolimit hg hobj hints (Nat.le_trans hlen hn2) hr hF hb (ans ns hlen)
/-! ### list(range(..)) -/
section
variable {X : Cx} {e : Expr} {pos p : Pos} {bb : Bool}
def rgOk (a b : Int) : Bool := decide (0 ≤ a ∧ a ≤ 100000 ∧ 0 ≤ b ∧ b ≤ 100000)
def rg1 : PyData → Option (List PyData)
  | .int b => if rgOk 0 b = true then some (ups 0 b.toNat) else none
  | _ => none
theorem rg_da {K : PySem.W.Frag} {G : Hp} (a b : Int) : Da K G (rgV a b) (ups a (b - a).toNat) := Da.of_map (fun i => .ii _) _
theorem l_listRg {a : Expr} {q : Pos} {fa : FE PyData} (hc : X.calm = true) (hg : Gl X "list") (hm : X.mg "list" = none) (hgr : Gl X "range") (hmr : X.mg "range" = none) (ha : PE X a (tE X.K bb fa))
    (n1 : starEach [a] X.env = (false, eval a X.env) :: starEach [] X.env := by rfl) (n2 : starEach [.Call (.Name "range" q) [a] [] p] X.env = (false, eval (.Call (.Name "range" q) [a] [] p) X.env) :: starEach [] X.env := by rfl) {pl : Pos} :
    PE X (.Call (.Name "list" pl) [.Call (.Name "range" q) [a] [] p] [] pos) (tF X.K bb (thnE fa fun x => liftO (rg1 x))) := PE.weak (pe_listRg hc hg hm (prg_1 hgr hmr ha n1) n2) fun σ H Q ⟨G, ρ, d, ρ', E, ef, k⟩ => by
  obtain ⟨x, ρ1, h1, h2⟩ := thnE_of ef
  obtain ⟨h3, rfl⟩ := liftO_of h2
  refine ⟨G, ρ, x, ρ', E, h1, fun v G1 H1 t1 o1 E1 d1 => ?_⟩
  unfold rg1 at h3
  split at h3
  · obtain ⟨h4, rfl⟩ := ite_p h3
    have h5 := of_decide_eq_true h4
    refine ⟨_, dt_int d1, RgOk.of_le (by omega) (by omega) (by omega) (by omega), fun l hl => ?_⟩
    have da := rg_da (K := X.K) (G := G1) 0 ‹Int›
    rw [Int.sub_zero] at da
    exact k l _ G1 _ (tr_back t1 hl) (E1.gn hl) upd_same da (t1.trans (tr_mk0 (ow := nobody) hl) fun _ _ _ q => q.elim) o1 (E1.tr (tr_mk0 hl) (ex_new E1.ex hl))
  · cases h3
end
end Tw

set_option Elab.async false
set_option linter.all false
set_option maxRecDepth 100000
set_option maxHeartbeats 2000000
namespace Tw
open PySem PySem.Spec PyProof.Rows L2
open Evl (Ex)
/-! ### t[::-1] -/
section
variable {prog : Program} {w : World} {A : Around} {E : Value → Shared → Prop} {s : Shared}
theorem fm_congr {α β : Type} {f g : α → Option β} : ∀ {l : List α}, (∀ x ∈ l, f x = g x) → l.filterMap f = l.filterMap g
  | [], _ => rfl
  | x :: l, h => by
    rw [List.filterMap_cons, List.filterMap_cons, h x List.mem_cons_self, fm_congr fun y hy => h y (List.mem_cons_of_mem _ hy)]
theorem back_pick (xs : Array Value) : ((List.range xs.size).filterMap fun (k : Nat) => xs[((xs.size : Int) - 1 + (k : Int) * -1).toNat]?).toArray = xs.toList.reverse.toArray := by
  have e : (List.range xs.size).filterMap (fun (k : Nat) => xs[((xs.size : Int) - 1 + (k : Int) * -1).toNat]?) = ((List.range xs.size).map fun k => xs.size - 1 - k).filterMap (xs[·]?) := by
    rw [List.filterMap_map]
    apply fm_congr
    intro k hk
    have h1 := List.mem_range.mp hk
    show xs[((xs.size : Int) - 1 + (k : Int) * -1).toNat]? = xs[xs.size - 1 - k]?
    rw [show ((xs.size : Int) - 1 + (k : Int) * -1).toNat = xs.size - 1 - k by omega]
  rw [e, PySem.W.krv_range, List.filterMap_reverse, PySem.W.krv_all]
theorem back_applied {sl : Addr} {u : Tok} {n : Nat} {Q : Int × Int × Nat → Shared → Prop} (hs : s.heap.IsSliceOf sl .none .none (.int (-1) u)) (h : Q ((n : Int) - 1, -1, n) s) :
    wpAny (model prog w) A (Builtin.Slice.sliceApplied (.ref sl) (pure (n : Int))) Q E s := by
  obtain ⟨os, hos, hcs, hds⟩ := id hs
  unfold Builtin.Slice.sliceApplied Builtin.Slice.sliceFields
  refine wpAny_bind (wpAny_bind (wpAny_field hos hds (x := .none) rfl (wpAny_bind (wpAny_field hos hds (x := .none) rfl (wpAny_bind (wpAny_field hos hds (x := .int (-1) u) rfl (wpAny_pure ?_)))))))
  refine wpAny_bind (slicePart_int ?_)
  show wpAny _ _ (if ((-1 : Int) == 0) = true then _ else _) _ _ s
  rw [if_neg (by decide)]
  refine wpAny_bind (slicePart_none (wpAny_bind (slicePart_none (wpAny_bind (wpAny_pure ?_)))))
  have e1 : Builtin.Slice.sliceAdjust none none (-1) (n : Int) = ((n : Int) - 1, -1) := rfl
  have e2 : Builtin.Slice.slicePlaces ((n : Int) - 1) (-1) (-1) = n := by
    unfold Builtin.Slice.slicePlaces
    have h1 : ¬ ((-1 : Int) > 0) := by decide
    rw [if_neg h1]
    by_cases h0 : (n : Int) - 1 > -1
    · rw [if_pos h0]
      have e : ((n : Int) - 1 - -1 - 1) / - -1 + 1 = (n : Int) := by
        rw [show (- -1 : Int) = 1 by decide, Int.ediv_one]
        omega
      rw [e, Int.toNat_natCast]
    · rw [if_neg h0]
      have : n = 0 := by omega
      subst this
      rfl
  show wpAny _ _ (match Builtin.Slice.sliceAdjust none none (-1) (n : Int) with | (lo, hi) => pure (lo, (-1 : Int), Builtin.Slice.slicePlaces lo hi (-1))) _ _ s
  rw [e1]
  show wpAny _ _ (pure ((n : Int) - 1, (-1 : Int), Builtin.Slice.slicePlaces ((n : Int) - 1) (-1) (-1))) _ _ s
  rw [e2]
  exact wpAny_pure h
theorem back_tuple {t sl : Addr} {items : Array Value} {u : Tok} {Q : Value → Shared → Prop} (ht : IsTup s.heap t items) (hs : s.heap.IsSliceOf sl .none .none (.int (-1) u))
    (h : Q (.ref s.heap.objs.size) { s with heap := s.heap.push { cls := .type "tuple", data := .seq items.toList.reverse.toArray } }) (hsz : items.size ≤ sizeLine) : wpAny (model prog w) A (getItem (.ref t) (.ref sl)) Q E s := by
  have ht2 : PySem.sizeOk (.seq items.toList.reverse.toArray) := by
    show items.toList.reverse.toArray.size ≤ sizeLine
    rw [List.size_toArray, List.length_reverse, Array.length_toList]
    exact hsz
  obtain ⟨os, hos, hcs, hds⟩ := id hs
  have hTs : s.TypeIs (.ref sl) "slice" := ⟨os, hos, hcs⟩
  unfold getItem
  try with_reducible refine wpAny_holding ?_
  first | refine wpAny_bind (wpAny_pure ?_) | skip
  refine wpAny_bind (wpAny_sequenceKey ht.typeIs (by decide) ?_)
  refine wpAny_bind (wpAny_callSpecial?_slot (name := Str.ofString "__getitem__") ht.typeIs PyProof.Rows.slot_tuple_getitem (wpAny_call_entry PyProof.Rows.slot_tuple_getitem ht.typeIs entry_tuple_getitem ?_ (args_tuple_getitem _ _)))
  refine wpAny_bind (m := Builtin.Tuple.tupleItemsOf (.ref t)) (tupleItemsOf_ ht ?_)
  refine wpAny_bind (wpAny_typeOf hTs ?_)
  rw [if_pos (by decide)]
  refine wpAny_bind (back_applied hs ?_)
  have hno : ¬ (((items.size : Int) - 1 == 0 && (-1 : Int) == 1 && items.size == items.size) = true) := by
    rw [show ((-1 : Int) == 1) = false from rfl, Bool.and_false, Bool.false_and]
    exact Bool.false_ne_true
  show wpAny _ _ (if ((items.size : Int) - 1 == 0 && (-1 : Int) == 1 && items.size == items.size) = true then _ else _) _ _ s
  rw [if_neg hno, back_pick]
  first
    | exact wpAny_bind (m := Builtin.Tuple.tupleExact _) (wpAny_newObj_type (wpAny_pure ⟨_, rfl, wpAny_pure h⟩) ht2)
    | exact wpAny_bind (m := Builtin.Tuple.tupleExact _) (wpAny_newObj_type (wpAny_bind (wpAny_pure (wpAny_pure ⟨_, rfl, wpAny_pure h⟩))) ht2)
    | exact wpAny_bind (wpAny_bind (m := Builtin.Tuple.tupleExact _) (wpAny_newObj_type (wpAny_pure (wpAny_pure ⟨_, rfl, wpAny_pure h⟩)) ht2))
    | exact wpAny_bind (wpAny_bind (m := Builtin.Tuple.tupleExact _) (wpAny_newObj_type (wpAny_pure ⟨_, rfl, wpAny_pure h⟩) ht2))
end
section
variable {X : Cx} {e a b : Expr} {bb : Bool} {f : FE PyData} {pos : Pos} {K : PySem.W.Frag}
def tRev (K : PySem.W.Frag) (te : TE) : TE := fun σ H Q => te σ H fun x H1 => ∃ a, x = .ref a ∧ ((∃ xs, SqL K H1 a xs ∧ ∀ p, H1 p = none → Q (.ref p) (upd H1 p (.lst xs.reverse))) ∨ (∃ xs, SqT K H1 a xs ∧ ∀ p, H1 p = none → Q (.ref p) (upd H1 p (.tup xs.reverse))))
theorem pe_rev {te : TE} {k : Nat} {p1 p2 p3 : Pos} (he : PE X e te) : PE X (.Subscript e (.Slice none none (some (.UnaryOp .USub (.Constant (.int 1) k p1) p2)) p3) pos) (tRev X.K te) := ⟨fun pins s σ H Q I h => by
  refine Subscript_ (thn (he.run pins s σ H _ I h) fun v s1 hz => ?_)
  obtain ⟨x, H1, I1, r1, a, ex, q⟩ := hz
  subst ex
  cases r1
  have st1 : PO X (some (.UnaryOp .USub (.Constant (.int 1) k p1) p2)) (tPart (tUn (rU fun i => .int (-i)) (tC (.int 1)))) := po_some (pe_un un_neg pe_int)
  refine wpAny_Slice (thn (po_none.run pins s1 σ H1 (fun o H2 => o = none ∧ H2 = H1) I1 ⟨rfl, rfl⟩) fun vl s2 hz => ?_)
  obtain ⟨_, _, I2, pl, rfl, rfl⟩ := hz
  refine thn (po_none.run pins s2 σ _ (fun o H3 => o = none ∧ H3 = _) I2 ⟨rfl, rfl⟩) fun vu s3 hz => ?_
  obtain ⟨_, _, I3, pu, rfl, rfl⟩ := hz
  refine thn (st1.run pins s3 σ _ (fun o H4 => o = some (-1) ∧ H4 = _) I3 ⟨1, rfl, -1, rfl, rfl, rfl⟩) fun vs s4 hz => ?_
  obtain ⟨_, _, I4, ps, rfl, rfl⟩ := hz
  have I5 : Inv X pins σ _ { s4 with heap := s4.heap.push { cls := .type "slice", data := .fields #[vl, vu, vs] } } := I4.kept (t' := s4.toks) fun b ob q => Heap.get?_push_of_some _ q
  show wpAny (model X.prog X.w) X.A (subscriptTail e (.Slice none none (some (.UnaryOp .USub (.Constant (.int 1) k p1) p2)) p3) (.ref a) (.ref s4.heap.objs.size)) (EP X pins σ Q) X.xe { s4 with heap := s4.heap.push { cls := .type "slice", data := .fields #[vl, vu, vs] } }
  rcases q with ⟨xs, hx, q⟩ | ⟨xs, hx, q⟩
  · obtain ⟨its, r, ht, hz⟩ := I5.list hx
    refine tail_any (ops := [.ref a, .ref s4.heap.objs.size]) ht.isList.typeIs (PySem.slot_list_getitem.lookup) ?_ (by with_unfolding_all rfl)
    refine wpAny_getItem_list_slice ht.isList (Heap.IsSliceOf.new _ vl vu vs) pl pu ps (by decide) ?_ (by rw [List.size_toArray, ← r.length]; exact hz)
    rw [PySem.W.krv_pick]
    refine ⟨.ref _, _, I5.laid (t' := s4.toks) (o := .lst xs.reverse) (fun b ob q => Heap.get?_push_of_some _ q) (Nat.le_refl _) ?_, rfl, q _ (I5.hok.fresh (Nat.le_refl _))⟩
    exact ⟨by rw [List.length_reverse]; exact hz, _, 0, r.reverse, Heap.get?_push_size _ rfl⟩
  · obtain ⟨its, r, ht, hz⟩ := I5.tuple hx
    cases pl
    cases pu
    cases ps with
    | int i u =>
      refine tail_any (ops := [.ref a, .ref s4.heap.objs.size]) ht.typeIs (PyProof.Rows.slot_tuple_getitem.lookup) ?_ (by with_unfolding_all rfl)
      refine back_tuple ht (Heap.IsSliceOf.new ..) ?_ (by rw [List.size_toArray, ← r.length]; exact hz)
      refine ⟨.ref _, _, I5.laid (t' := s4.toks) (o := .tup xs.reverse) (fun b ob q => Heap.get?_push_of_some _ q) (Nat.le_refl _) ?_, rfl, q _ (I5.hok.fresh (Nat.le_refl _))⟩
      exact ⟨by rw [List.length_reverse]; exact hz, _, r.reverse, IsTup.new _ _⟩⟩
def revD : PyData → Option PyData
  | .list ds => some (.list ds.reverse)
  | .tuple ds => some (.tuple ds.reverse)
  | _ => none
theorem e_rev {k : Nat} {p1 p2 p3 : Pos} (he : PE X e (tE X.K bb f)) : PE X (.Subscript e (.Slice none none (some (.UnaryOp .USub (.Constant (.int 1) k p1) p2)) p3) pos) (tE X.K bb (fUn revD f)) :=
  PE.weak (pe_rev he) fun σ H Q ⟨G, ρ, d, ρ', E, ef, k⟩ => by
    obtain ⟨x, ρ1, h1, h2⟩ := thnE_of ef
    obtain ⟨h5, rfl⟩ := liftO_of h2
    refine ⟨G, ρ, x, ρ', E, h1, fun v G1 H1 t1 o1 E1 d1 => ?_⟩
    unfold revD at h5
    split at h5
    · cases h5
      obtain ⟨a, xs, rfl, hx, dx⟩ := dt_list d1
      refine ⟨a, rfl, .inl ⟨xs, (hx.mono E1.ex).sq, fun p hp => ?_⟩⟩
      have t : Tr nobody G1 H1 (upd G1 p (.lst xs.reverse)) (upd H1 p (.lst xs.reverse)) := Tr.new hp E1.ex
      exact k _ _ _ (t1.trans t fun _ _ _ q => q.elim) o1 (E1.tr t (ex_upd E1.ex)) (.ll (RL.of upd_same) (dx.rev.mono t.g))
    · cases h5
      obtain ⟨a, xs, rfl, hx, dx⟩ := dt_tup d1
      refine ⟨a, rfl, .inr ⟨xs, Evl.ex_t E1.ex hx, fun p hp => ?_⟩⟩
      have t : Tr nobody G1 H1 (upd G1 p (.tup xs.reverse)) (upd H1 p (.tup xs.reverse)) := Tr.new hp E1.ex
      exact k _ _ _ (t1.trans t fun _ _ _ q => q.elim) o1 (E1.tr t (ex_upd E1.ex)) (.tt (SqT.of upd_same) (dx.rev.mono t.g))
    · cases h5
/-! ### in, {}, is -/
def atomsAll : List PyData → Bool
  | [] => true
  | d :: ds => atom d && atomsAll ds
def inA (x : PyData) (ys : List PyData) : Bool := ys.any fun y => PyData.eqv y x
def inD (neg : Bool) : PyData → PyData → Option PyData := fun d e => (itemsOf e).bind fun ys => if (atom d && atomsAll ys) = true then some (.bool (if neg = true then !inA d ys else inA d ys)) else none
theorem eqv_atom {G : Hp} {v u : V} {d e : PyData} (h : Dt K G v d) (h' : Dt K G u e) (a : atom d = true) (b : atom e = true) : eqV v u = PyData.eqv d e ∧ flatV v = true ∧ flatV u = true := by
  cases h <;> cases h' <;> first | (cases a; done) | (cases b; done) | exact ⟨by simp only [eqV, PyData.eqv], rfl, rfl⟩
theorem in_flat {G : Hp} {v : V} {d : PyData} (h : Dt K G v d) (a : atom d = true) : ∀ {us : List V} {ys : List PyData}, Da K G us ys → atomsAll ys = true → inV v us = inA d ys ∧ us.all flatV = true
  | _, _, .nil, _ => ⟨rfl, rfl⟩
  | _, _, .cons h1 t, q => by
    have q2 := Bool.and_eq_true_iff.mp q
    obtain ⟨i1, i2⟩ := in_flat h a t q2.2
    obtain ⟨e1, e2, e3⟩ := eqv_atom h1 h q2.1 a
    have i1' : List.any _ _ = List.any _ _ := i1
    refine ⟨?_, ?_⟩
    · show List.any (_ :: _) _ = List.any (_ :: _) _
      rw [List.any_cons, List.any_cons, e1, i1']
    · rw [List.all_cons, e2, i2]; rfl
theorem d_in (neg : Bool) : OpD K (rIn K neg) (inD neg) := fun G H x y d e z Q ex hd he hz k => by
  obtain ⟨ys, h1, h2⟩ := Option.bind_eq_some_iff.mp hz
  obtain ⟨h3, rfl⟩ := ite_p h2
  have h4 := Bool.and_eq_true_iff.mp h3
  have fx : flatV x = true := (eqv_atom hd hd h4.1 h4.1).2.1
  unfold itemsOf at h1
  split at h1
  · cases h1
    obtain ⟨a, us, rfl, hu, du⟩ := dt_list he
    obtain ⟨i1, i2⟩ := in_flat hd h4.1 du h4.2
    refine ⟨a, us, rfl, .inl (hu.mono ex).sq, fx, i2, ?_⟩
    rw [i1]
    exact k _ G H .refl ex (.bb _)
  · cases h1
    obtain ⟨a, us, rfl, hu, du⟩ := dt_tup he
    obtain ⟨i1, i2⟩ := in_flat hd h4.1 du h4.2
    refine ⟨a, us, rfl, .inr (Evl.ex_t ex hu), fx, i2, ?_⟩
    rw [i1]
    exact k _ G H .refl ex (.bb _)
  · cases h1
theorem e_dict0 : PE X (.Dict [] [] pos) (tE X.K bb (ret (.dict []))) := PE.weak pe_dnewK fun σ H Q ⟨G, ρ, d, ρ', E, ef, k⟩ => by
  obtain ⟨rfl, rfl⟩ := ret_of ef
  intro p hp
  have t : Tr nobody G H (upd G p (.dK [])) (upd H p (.dK [])) := Tr.new hp E.ex
  exact k _ _ _ t.none (fun _ q => q) (E.tr t (ex_upd E.ex)) (.dd (kvs := []) (ds := []) upd_same .nil)
def isNoneD : PyData → PyData → Option PyData := fun d e => match e with
  | .none => some (.bool (match d with
    | .none => true
    | _ => false))
  | _ => none
def notNoneD : PyData → PyData → Option PyData := fun d e => match e with
  | .none => some (.bool (match d with
    | .none => false
    | _ => true))
  | _ => none
def rIsNon : R2 := fun x y H Q => y = .non ∧ Q (.bl (decide (x = .non))) H
def rNotNon : R2 := fun x y H Q => y = .non ∧ Q (.bl (!decide (x = .non))) H
theorem d_isN : OpD K rIsNon isNoneD := fun G H x y d e z Q ex hd he hz k => by
  unfold isNoneD at hz
  split at hz
  · refine ⟨dt_none he, k _ G H .refl ex ?_⟩
    cases hz
    cases hd <;> exact .bb _
  · cases hz
theorem d_notN : OpD K rNotNon notNoneD := fun G H x y d e z Q ex hd he hz k => by
  unfold notNoneD at hz
  split at hz
  · refine ⟨dt_none he, k _ G H .refl ex ?_⟩
    cases hz
    cases hd <;> exact .bb _
  · cases hz
def isB : PyData → PyData → Option PyData
  | .bool a, .bool b => some (.bool (decide (a = b)))
  | _, _ => none
theorem d_isB : OpD K rIsB isB := fun G H x y d e z Q ex hd he hz k => by
  unfold isB at hz
  split at hz
  · cases hz
    exact ⟨_, _, dt_bool hd, dt_bool he, k _ G H .refl ex (.bb _)⟩
  · cases hz
end
end Tw

set_option Elab.async false
set_option linter.all false
set_option maxRecDepth 100000
set_option maxHeartbeats 2000000
namespace Tw
open PySem PySem.Spec PyProof.Rows L2
open Evl (Ex)
/-! ### comprehensions of two clauses -/
def l2F (ft : FG) (tt : FE Bool) (fi1 : FE (List PyData)) (ft1 : FG) (tt1 : FE Bool) (fe : FE PyData) (vs vs1 : List Nat) : List PyData → FE (List PyData)
  | [], ρ => some ([], ρ)
  | d :: ds, ρ => (ft d ρ).bind fun ρ1 => (tt ρ1).bind fun p => if p.1 = true then (fi1 p.2).bind fun q => (lcF ft1 tt1 fe vs1 q.1 (wipeR q.2 vs1)).bind fun r => (l2F ft tt fi1 ft1 tt1 fe vs vs1 ds (wipeR r.2 vs)).map fun z => (r.1 ++ z.1, z.2)
    else l2F ft tt fi1 ft1 tt1 fe vs vs1 ds (wipeR p.2 vs)
def fL2 (fi : FE (List PyData)) (ft : FG) (tt : FE Bool) (fi1 : FE (List PyData)) (ft1 : FG) (tt1 : FE Bool) (fe : FE PyData) (vs vs1 : List Nat) : FE (List PyData) := fun ρ => (fi ρ).bind fun p =>
  (l2F ft tt fi1 ft1 tt1 fe vs vs1 p.1 (wipeR p.2 vs)).bind fun q => if sizeOk q.1.length = true then some (q.1, backR p.2 q.2 vs) else none
theorem wipe2 {σ : L2.St} {vs vs1 : List Nat} {n : Nat} (hn : σ.length = n) (hv : ∀ i ∈ vs1, i ∈ vs) : wipe (wipe σ vs1) vs = wipe σ vs :=
  wipe_eq (σ := σ) hn (by rw [wipe_length, hn]) fun j hj => by
    have h1 := of_decide_eq_true (List.mem_filter.mp hj).2
    rw [wipe_at h1, wipe_at fun z => h1 (hv j z)]
section
variable {X : Cx} {e elt tg iter tg1 iter1 : Expr} {ifs ifs1 : List Expr} {pos : Pos} {bb : Bool}
theorem l2_run {n : Nat} {fi fi1 : FE (List PyData)} {ft ft1 : FG} {tt tt1 : FE Bool} {fe : FE PyData} {vs vs1 : List Nat} (hv : ∀ i ∈ vs1, i ∈ vs) {σ : L2.St} {H : Hp} {Q : VK} (hn : σ.length = n) (h : tF X.K bb (fL2 fi ft tt fi1 ft1 tt1 fe vs vs1) σ H Q) :
    tLc2 (tI X.K bb fi) (tG X.K (compl n vs) ft) (tT X.K bb tt) (tI X.K bb fi1) (tG X.K (compl n vs1) ft1) (tT X.K bb tt1) (tE X.K bb fe) vs vs1 σ H Q := by
  obtain ⟨G, ρ, ys, ρ', E, ef, k⟩ := h
  obtain ⟨⟨ds, ρ1⟩, h1, h2⟩ := Option.bind_eq_some_iff.mp ef
  obtain ⟨⟨ys', ρe⟩, h4, h5⟩ := Option.bind_eq_some_iff.mp h2
  obtain ⟨hz, h6⟩ := ite_p h5
  cases h6
  dsimp only at k hz h4
  refine ⟨G, ρ, ds, ρ1, E, h1, fun J G1 H1 t1 o1 E1 W D hD => ?_⟩
  have E0 := env_wipe E1 vs
  have hD0 : H D = none := tr_back t1 hD
  have notD : ∀ {a : Addr}, own (wipe σ vs) (wipeR ρ1 vs) a → a ≠ D := fun {a} q z => by
    obtain ⟨xs, w⟩ := own_there E0 q
    rw [z, hD] at w
    cases w
  let Tx : Hp → Hp → Prop := fun G' H' => Tr (fun a => ows bb (wipe σ vs) (wipeR ρ1 vs) a ∨ a = D) G1 (upd H1 D (.lst [])) G' H'
  let Inv' : Nat → Hp → Prop := fun i H' => ∃ G' ρ2 acc accd rest, EnvOk X.K G' H' (wipe σ vs) ρ2 ∧ Tx G' H' ∧ G' D = none ∧ H' D = some (.lst acc) ∧ Da X.K G' acc accd ∧
    (∀ l, own (wipe σ vs) ρ2 l → own (wipe σ vs) (wipeR ρ1 vs) l) ∧ l2F ft tt fi1 ft1 tt1 fe vs vs1 (ds.drop i) ρ2 = some (rest, ρe) ∧ accd ++ rest = ys'
  have start0 : Inv' 0 (upd H1 D (.lst [])) := ⟨G1, wipeR ρ1 vs, [], [], ys', E0.tr (tr_mk0 hD) (ex_new E1.ex hD), .refl, E1.gn hD, upd_same, .nil, fun _ q => q, h4, rfl⟩
  refine ⟨fun i m H' => m = ds.length - i ∧ i ≤ ds.length ∧ Inv' i H', ⟨ds.length, by omega, Nat.zero_le _, start0⟩, ?_⟩
  rintro i m H' ⟨rfl, hi, G', ρ2, acc, accd, rest, E', t', gD, hDl, da, oo, hf, ea⟩
  have exG : Ex G1 H' := fun a u z => E'.ex a u (t'.g a u z)
  by_cases hlt : i < ds.length
  · have ed : ds.drop i = ds[i] :: ds.drop (i + 1) := List.drop_eq_getElem_cons hlt
    rw [ed] at hf
    obtain ⟨ρ3, q1, q2⟩ := Option.bind_eq_some_iff.mp hf
    obtain ⟨⟨b, ρ4⟩, q3, q4⟩ := Option.bind_eq_some_iff.mp q2
    refine .inr ⟨W.go i H' hlt exG, Inv' (i + 1), fun H2 z => ⟨ds.length - (i + 1), by omega, rfl, hlt, z⟩, fun x H2 y => ?_⟩
    obtain ⟨G3, t3, e3, d3⟩ := W.yld i H' x H2 ds[i] (List.getElem?_eq_getElem hlt) exG y G' t'.g E'.ex
    have E3 := E'.tr t3 e3
    refine ⟨G3, ρ2, ds[i], ρ3, E3, d3, q1, fun σ2 so E4 => ?_⟩
    have hl2 : σ2.length = n := by rw [so.l, wipe_length, hn]
    have ew : wipe σ2 vs = wipe σ vs := wipe_eq hn hl2 so.p
    refine ⟨ew, G3, ρ3, b, ρ4, E4, q3, fun G5 H5 t5 o5 E5 => ?_⟩
    have D2 : H2 D = some (.lst acc) := t3.h D _ hDl id
    have g3D : G3 D = none := t3.n D _ hDl gD id
    have own3 : ∀ {a : Addr}, own σ2 ρ3 a → own (wipe σ vs) (wipeR ρ1 vs) a := fun q => oo _ (so.o _ q)
    have nD3 : ¬ ows bb σ2 ρ3 D := fun q => notD (own3 q.2) rfl
    have D5 : H5 D = some (.lst acc) := t5.h D _ D2 nD3
    have g5D : G5 D = none := t5.n D _ D2 g3D nD3
    have T5 : Tx G5 H5 := (t'.trans t3 fun _ _ _ q => q.elim).trans t5 fun a _ _ q => .inl ⟨q.1, own3 q.2⟩
    have da5 := da.mono fun a u z => t5.g a u (t3.g a u z)
    have toW : ∀ {ρx : Rho} {a : Addr}, (∀ l, own σ2 ρx l → own σ2 ρ4 l) → own (wipe σ vs) (wipeR ρx vs) a → own (wipe σ vs) (wipeR ρ1 vs) a := fun {ρx a} hx q => by
      rw [← ew] at q
      exact own3 (o5 _ (hx _ (own_wipe q)))
    cases b with
    | false =>
      dsimp only
      rw [if_neg Bool.false_ne_true]
      refine ⟨G5, wipeR ρ4 vs, acc, accd, rest, ?_, T5, g5D, D5, da5, fun l q => toW (fun _ z => z) q, q4, ea⟩
      rw [← ew]
      exact env_wipe E5 vs
    | true =>
      dsimp only
      rw [if_pos rfl]
      obtain ⟨⟨es, ρ5⟩, q5, q6⟩ := Option.bind_eq_some_iff.mp (show ((fi1 ρ4).bind fun q => _) = some (rest, ρe) from q4)
      obtain ⟨⟨r0, ρ6⟩, q7, q8⟩ := Option.bind_eq_some_iff.mp q6
      obtain ⟨⟨z0, ρ7⟩, q9, q10⟩ := Option.map_eq_some_iff.mp q8
      cases q10
      dsimp only at q7 q9
      refine ⟨G5, ρ4, es, ρ5, E5, q5, fun J1 G6 H6 t6 o6 E6 W1 => ?_⟩
      have own4 : ∀ {a : Addr}, own σ2 ρ4 a → own (wipe σ vs) (wipeR ρ1 vs) a := fun q => own3 (o5 _ q)
      have nD4 : ¬ ows bb σ2 ρ4 D := fun q => notD (own4 q.2) rfl
      have D6 : H6 D = some (.lst acc) := t6.h D _ D5 nD4
      have g6D : G6 D = none := t6.n D _ D5 g5D nD4
      have T6 : Tx G6 H6 := T5.trans t6 fun a _ _ q => .inl ⟨q.1, own4 q.2⟩
      have own5 : ∀ {a : Addr}, own σ2 ρ5 a → own (wipe σ vs) (wipeR ρ1 vs) a := fun q => own4 (o6 _ q)
      let In1 : Nat → Hp → Prop := fun j Hj => ∃ Gj ρj acj acd ri, EnvOk X.K Gj Hj (wipe σ2 vs1) ρj ∧ Tx Gj Hj ∧ Ex G6 Gj ∧ Gj D = none ∧ Hj D = some (.lst acj) ∧ Da X.K Gj acj acd ∧
        (∀ l, own (wipe σ2 vs1) ρj l → own (wipe σ vs) (wipeR ρ1 vs) l) ∧ lcF ft1 tt1 fe vs1 (es.drop j) ρj = some (ri, ρ6) ∧ acd ++ (ri ++ z0) = ys'
      have st1 : In1 0 H6 := ⟨G6, wipeR ρ5 vs1, acc, accd, r0, env_wipe E6 vs1, T6, fun _ _ q => q, g6D, D6, da5.mono t6.g, fun l q => own5 (own_wipe q), q7, ea⟩
      refine ⟨fun j m Hj => m = es.length - j ∧ j ≤ es.length ∧ In1 j Hj, ⟨es.length, by omega, Nat.zero_le _, st1⟩, ?_⟩
      rintro j m Hj ⟨rfl, hj, Gj, ρj, acj, acd, ri, Ej, tj, gj6, gjD, hjD, daj, ooj, hfj, eaj⟩
      have exj : Ex G6 Hj := fun a u z => Ej.ex a u (gj6 a u z)
      by_cases hlj : j < es.length
      · have edj : es.drop j = es[j] :: es.drop (j + 1) := List.drop_eq_getElem_cons hlj
        rw [edj] at hfj
        obtain ⟨ρa, w1, w2⟩ := Option.bind_eq_some_iff.mp hfj
        obtain ⟨⟨b1, ρb⟩, w3, w4⟩ := Option.bind_eq_some_iff.mp w2
        refine .inr ⟨W1.go j Hj hlj exj, In1 (j + 1), fun H9 z => ⟨es.length - (j + 1), by omega, rfl, hlj, z⟩, fun x9 H9 y9 => ?_⟩
        obtain ⟨Ga, ta, ea9, d9⟩ := W1.yld j Hj x9 H9 es[j] (List.getElem?_eq_getElem hlj) exj y9 Gj gj6 Ej.ex
        refine ⟨Ga, ρj, es[j], ρa, Ej.tr ta ea9, d9, w1, fun σ3 so3 Ea => ?_⟩
        have hl3 : σ3.length = n := by rw [so3.l, wipe_length, hl2]
        have ew3 : wipe σ3 vs1 = wipe σ2 vs1 := wipe_eq hl2 hl3 so3.p
        refine ⟨ew3, Ga, ρa, b1, ρb, Ea, w3, fun Gb Hb tb ob Eb => ?_⟩
        have owna : ∀ {a : Addr}, own σ3 ρa a → own (wipe σ vs) (wipeR ρ1 vs) a := fun q => ooj _ (so3.o _ q)
        have nDa : ¬ ows bb σ3 ρa D := fun q => notD (owna q.2) rfl
        have Da9 : H9 D = some (.lst acj) := ta.h D _ hjD id
        have gaD : Ga D = none := ta.n D _ hjD gjD id
        have Db : Hb D = some (.lst acj) := tb.h D _ Da9 nDa
        have gbD : Gb D = none := tb.n D _ Da9 gaD nDa
        have Tb : Tx Gb Hb := (tj.trans ta fun _ _ _ q => q.elim).trans tb fun a _ _ q => .inl ⟨q.1, owna q.2⟩
        have toV : ∀ {ρx : Rho} {a : Addr}, (∀ l, own σ3 ρx l → own σ3 ρb l) → own (wipe σ2 vs1) (wipeR ρx vs1) a → own (wipe σ vs) (wipeR ρ1 vs) a := fun {ρx a} hx q => by
          rw [← ew3] at q
          exact owna (ob _ (hx _ (own_wipe q)))
        cases b1 with
        | false =>
          dsimp only
          rw [if_neg Bool.false_ne_true]
          refine ⟨Gb, wipeR ρb vs1, acj, acd, ri, ?_, Tb, fun a u z => tb.g a u (ta.g a u (gj6 a u z)), gbD, Db, daj.mono fun a u z => tb.g a u (ta.g a u z), fun l q => toV (fun _ z => z) q, w4, eaj⟩
          rw [← ew3]
          exact env_wipe Eb vs1
        | true =>
          dsimp only
          rw [if_pos rfl]
          obtain ⟨⟨y0, ρc⟩, w5, w6⟩ := Option.bind_eq_some_iff.mp (show ((fe ρb).bind fun q => _) = some (ri, ρ6) from w4)
          obtain ⟨⟨r1, ρd⟩, w7, w8⟩ := Option.map_eq_some_iff.mp w6
          cases w8
          refine ⟨Gb, ρb, y0, ρc, Eb, w5, fun v Gc Hc tc oc Ec dc => ?_⟩
          have ownb : ∀ {a : Addr}, own σ3 ρb a → own (wipe σ vs) (wipeR ρ1 vs) a := fun q => owna (ob _ q)
          have nDb : ¬ ows bb σ3 ρb D := fun q => notD (ownb q.2) rfl
          have Dc : Hc D = some (.lst acj) := tc.h D _ Db nDb
          have gcD : Gc D = none := tc.n D _ Db gbD nDb
          have len1 : acj.length < sizeLine := by
            have e1 : acj.length + (1 + r1.length + z0.length) = ys'.length := by
              rw [← eaj, daj.len]
              simp only [List.length_append, List.length_cons]
              omega
            have e2 := of_decide_eq_true hz
            exact Evl.sz_lt (by omega)
          refine ⟨acj, Dc, len1, ?_⟩
          have E7 : EnvOk X.K Gc (upd Hc D (.lst (acj ++ [v]))) σ3 ρc := {
            ex := ex_cell Ec.ex gcD
            len := Ec.len
            dat := Ec.dat
            mu := fun j d q => by
              obtain ⟨l, xs, w1, w2, w3, w4⟩ := Ec.mu j d q
              have nl : l ≠ D := notD (ownb (oc _ ⟨j, d, q, w1⟩))
              exact ⟨l, xs, w1, w2, by rw [upd_ne nl]; exact w3, w4⟩
            ne := Ec.ne }
          refine ⟨Gc, wipeR ρc vs1, acj ++ [v], acd ++ [y0], r1, ?_, ?_, fun a u z => tc.g a u (tb.g a u (ta.g a u (gj6 a u z))), gcD, upd_same, (daj.mono fun a u z => tc.g a u (tb.g a u (ta.g a u z))).app (Da.one dc), fun l q => toV (fun _ z => oc _ z) q, w7, ?_⟩
          · rw [← ew3]
            exact env_wipe E7 vs1
          · have T7 : Tx Gc Hc := Tb.trans tc fun a _ _ q => .inl ⟨q.1, ownb q.2⟩
            exact T7.trans (tr_cell gcD Dc) fun a _ _ q => .inr q
          · rw [List.append_assoc]
            exact eaj
      · have ej : j = es.length := by omega
        subst ej
        rw [List.drop_length] at hfj
        cases hfj
        refine .inl ⟨W1.stop Hj exj, Gj, wipeR ρ6 vs, acj, acd, z0, ?_, tj, gjD, hjD, daj, fun l q => ?_, q9, eaj⟩
        · have e9 := env_wipe Ej vs
          rw [wipe2 hl2 hv, ew] at e9
          exact e9
        · rw [← ew, ← wipe2 hl2 hv] at q
          exact ooj _ (own_wipe q)
  · have en : i = ds.length := by omega
    subst en
    rw [List.drop_length] at hf
    cases hf
    rw [List.append_nil] at ea
    subst ea
    refine .inl ⟨W.stop H' exG, k D acc G' H' hD0 gD hDl da ?_ (fun l q => o1 l (own_wipe (oo l (own_back q)))) (env_back E1 E' t'.g)⟩
    have tA : Tr (ows bb (wipe σ vs) (wipeR ρ1 vs)) G1 H1 G' H' := (tr_mk0 hD).trans t' fun x o q w => w.elim id fun z => by rw [z, hD] at q; cases q
    exact t1.trans tA fun x o q w => ⟨w.1, o1 _ (own_wipe w.2)⟩
variable {scope : Scope} {own : List (Str × Nat)} {vs1 : List Nat} {fi fi1 : FE (List PyData)} {ft ft1 : FG} {tt tt1 : FE Bool} {fe : FE PyData}
theorem l_lc2 (n : Nat) (hc : X.calm = true) (hN : X.N.Nodup) (hi : PI X tg iter (tI X.K bb fi)) (ok : BlkOk X.N X.env.scope scope own) (hv : ∀ i ∈ vs1, i ∈ own.map (·.2))
    (hg : ∀ (s : Shared) (H : Hp) (C : Addr) (cl : List (Str × Addr)) (fp : List Addr), PG (X.blk s H scope (compEnvC scope cl C X.env) fp) tg (tG X.K (compl n (own.map (·.2))) ft))
    (ht : ∀ (s : Shared) (H : Hp) (C : Addr) (cl : List (Str × Addr)) (fp : List Addr), PTs (X.blk s H scope (compEnvC scope cl C X.env) fp) ifs (tT X.K bb tt))
    (hi1 : ∀ (s : Shared) (H : Hp) (C : Addr) (cl : List (Str × Addr)) (fp : List Addr), PI (X.blk s H scope (compEnvC scope cl C X.env) fp) tg1 iter1 (tI X.K bb fi1))
    (hg1 : ∀ (s : Shared) (H : Hp) (C : Addr) (cl : List (Str × Addr)) (fp : List Addr), PG (X.blk s H scope (compEnvC scope cl C X.env) fp) tg1 (tG X.K (compl n vs1) ft1))
    (ht1 : ∀ (s : Shared) (H : Hp) (C : Addr) (cl : List (Str × Addr)) (fp : List Addr), PTs (X.blk s H scope (compEnvC scope cl C X.env) fp) ifs1 (tT X.K bb tt1))
    (he : ∀ (s : Shared) (H : Hp) (C : Addr) (cl : List (Str × Addr)) (fp : List Addr), PE (X.blk s H scope (compEnvC scope cl C X.env) fp) elt (tE X.K bb fe)) (hn : X.N.length = n := by rfl)
    (hs : ∀ x, foldedSetIterable iter X.env x = pure x := by intro _; rfl) (hs1 : ∀ env x, foldedSetIterable iter1 env x = pure x := by intro _ _; rfl) :
    PE X (.ListComp elt [⟨tg, iter, ifs, 0⟩, ⟨tg1, iter1, ifs1, 0⟩] scope pos) (tF X.K bb (fL2 fi ft tt fi1 ft1 tt1 fe (own.map (·.2)) vs1)) :=
  PE.weakI (pe_lc2 hc hN hi ok hv hg ht hi1 hg1 ht1 he hs hs1) fun pins s σ H Q I h => l2_run hv (I.len.trans hn) h
end
end Tw

set_option Elab.async false
set_option linter.all false
set_option maxRecDepth 100000
set_option maxHeartbeats 2000000
namespace Tw
open PySem PySem.Spec PyProof.Rows L2
open Evl (Ex)
section
variable {X : Cx} {P : List Nat} {pos : Pos} {e : Expr} {es : List Expr} {bb : Bool}
def fRetF (f : FE (List PyData)) : FS := fun ρ => (f ρ).map fun p => .rf p.1 p.2
theorem s_retF {f : FE (List PyData)} (h : PE X e (tF X.K bb f)) : PS X (.Return (some e) pos) (tS X.K P (fRetF f)) := PS.weak (ps_ret h) fun D σ H ⟨G, ρ, o, E, ef, k⟩ => by
  obtain ⟨⟨d, ρ'⟩, h1, rfl⟩ := Option.map_eq_some_iff.mp ef
  refine ⟨G, ρ, d, ρ', E, h1, fun p xs G' H' hp hG hH da t o E' => k p xs σ G' H' (.of t o) E' (.inr hp) (fun q => ?_) hG hH da⟩
  obtain ⟨ys, z⟩ := own_there E (o p q)
  rw [hp] at z
  cases z
def fRetO (i : Nat) : FS := fun ρ => match ρ[i]? with
  | some (.m (.l ds)) => some (.rf ds (ρ.set i .un))
  | _ => none
theorem s_retO (i : Nat) (h : PE X e (tVar i)) : PS X (.Return (some e) pos) (tS X.K P (fRetO i)) := PS.weak (ps_ret h) fun D σ H ⟨G, ρ, o, E, ef, k⟩ => by
  unfold fRetO at ef
  split at ef
  case h_2 => cases ef
  rename_i ds hi
  cases ef
  obtain ⟨l, xs, hσ, hG, hH, dx⟩ := E.muL hi
  have sub : ∀ {a : Addr}, own σ (ρ.set i .un) a → own σ ρ a ∧ a ≠ l := fun {a} ⟨j, es, w1, w2⟩ => by
    rcases set_get w1 with ⟨_, q⟩ | ⟨n, q⟩
    · cases q
    · exact ⟨⟨j, es, q, w2⟩, fun z => n (E.ne j i es ds l q hi (by rw [← z]; exact w2) hσ)⟩
  refine ⟨.ref l, hσ, k l xs σ G H ⟨.refl, fun a q => .inl (sub q).1, fun _ _ => rfl⟩ ⟨E.ex, by rw [List.length_set]; exact E.len, fun j d q => ?_, fun j d q => ?_, fun a b d1 d2 l' w1 w2 => ?_⟩ (.inl ⟨i, ds, hi, hσ⟩) (fun q => (sub q).2 rfl) hG hH dx⟩
  · rcases set_get q with ⟨_, q⟩ | ⟨_, q⟩
    · cases q
    · exact E.dat j d q
  · rcases set_get q with ⟨_, q⟩ | ⟨_, q⟩
    · cases q
    · exact E.mu j d q
  · rcases set_get w1 with ⟨_, q⟩ | ⟨_, w1⟩
    · cases q
    rcases set_get w2 with ⟨_, q⟩ | ⟨_, w2⟩
    · cases q
    exact E.ne a b d1 d2 l' w1 w2
/-- a def of data that hands back a new list -/
def spF (K : PySem.W.Frag) (n : Nat) (g : List PyData → Option (List PyData)) : Sp := fun vs H Q _ => ∃ (G : Hp) (ds : List PyData) (d : List PyData), Ex G H ∧ Da K G vs ds ∧ ds.length = n ∧ g ds = some d ∧
  ∀ p xs G' H', H p = none → G' p = none → H' p = some (.lst xs) → Da K G' xs d → Tr nobody G H G' H' → Ex G' H' → Q (.ref p) H'
def outF : Option Out → Option (List PyData)
  | some (.rf ds _) => some ds
  | _ => none
def runF (m : Nat) (fb : FS) (ds : List PyData) : Option (List PyData) := outF (fb (ds.map Sl.d ++ List.replicate (m - ds.length) Sl.un))
theorem fn_F {Pr : Program} {w : World} {K : PySem.W.Frag} {mg : Str → Option Value} {base : Heap} {x qual : Str} {st : Stmt} {f : Addr} {fd : FuncData} {N ps : List Str} {k : Nat} (F : Fun K x qual st f fd) (S : FnScope N ps (defScope st)) {fb : FS}
    (body : ∀ (cdv : Value) (A : Around) (outer : List Env) (s : Shared) (H : Hp), Here k (bx Pr w K mg base N qual st f cdv A outer s H) → PSs (bx Pr w K mg base N qual st f cdv A outer s H) (defBody st) (tS K [] fb)) : FnG Pr w K mg base (k + 1) f fd ps (spF K ps.length (runF N.length fb)) :=
  fn_G F S (fun vs H Q E ⟨G, ds, d, ex, da, hl, _⟩ => by rw [da.len, hl]) fun cdv A outer s H hh vs Q ⟨G, ds, d, ex, da, hl, hg, k⟩ => by
    refine ⟨_, body cdv A outer s H hh, ?_⟩
    unfold runF at hg
    have e1 : L2.start N vs = vs.map some ++ List.replicate (N.length - ds.length) none := by unfold L2.start; rw [da.len]
    rw [e1]
    have E : EnvOk K G H (vs.map some ++ List.replicate (N.length - ds.length) none) (ds.map Sl.d ++ List.replicate (N.length - ds.length) Sl.un) := env_args (env_un ex) da
    have hm : noM (ds.map Sl.d ++ List.replicate (N.length - ds.length) Sl.un) := noM_args noM_un ds
    cases ho : fb (ds.map Sl.d ++ List.replicate (N.length - ds.length) Sl.un) with
    | none => rw [ho] at hg; cases hg
    | some o =>
      rw [ho] at hg
      refine ⟨G, _, o, E, ho, ?_⟩
      cases o with
      | rf e r =>
        cases hg
        exact fun p xs σ' G' H' s' E' w1 w2 w3 w4 w5 => k p xs G' H' (w1.elim (fun q => (hm.own q).elim) id) w3 w4 w5 (s'.t.wide fun _ _ _ q => (hm.own q).elim) E'.ex
      | rt e r => cases hg
      | nx r => cases hg
      | bk r => cases hg
      | ct r => cases hg
variable {k : Nat} {f : Addr} {fd : FuncData} {ps : List Str} {x : Str} {p : Pos} {n : Nat}
def fCallF (n : Nat) (g : List PyData → Option (List PyData)) (r : FE (List PyData)) : FE (List PyData) := thnE r fun xs => liftO (if xs.length = n then g xs else none)
theorem l_callF {g : List PyData → Option (List PyData)} {ra : FE (List PyData)} (F : FnG X.prog X.w X.K X.mg X.base k f fd ps (spF X.K n g)) (hh : Here k X) (hg : Gl X x) (hm : X.mg x = some (.ref f)) (hk : PySem.W.keepIn X.K (.ref f) = true) (hb : Binds X.K fd ps [])
    (ha : PA X (e :: es) (tA X.K bb ra)) (hdb : (x == ("__debug__" : Str)) = false := by decide) (he : starEach (e :: es) X.env = (false, eval e X.env) :: starEach es X.env := by rfl) (hpl : (backTo pos (starEach es X.env)).any (·.1) = false := by rfl) :
    PE X (.Call (.Name x p) (e :: es) [] pos) (tF X.K bb (fCallF n g ra)) := PE.weak (call_G F hh hg hm hk hb ha hdb he hpl) fun σ H Q ⟨G, ρ, d, ρ', E, ef, kk⟩ => by
  obtain ⟨x, ρ1, h1, h2⟩ := thnE_of ef
  obtain ⟨h3, rfl⟩ := liftO_of h2
  split at h3
  case isFalse => cases h3
  rename_i hl
  refine ⟨G, ρ, x, ρ', E, h1, fun v G1 H1 t1 o1 E1 d1 => ⟨G1, x, d, E1.ex, d1, hl, h3, fun p xs G2 H2 hp hG hH da t2 ex2 => ?_⟩⟩
  exact kk p xs G2 H2 (tr_back t1 hp) hG hH da (t1.trans t2 fun _ _ _ q => q.elim) o1 (E1.tr t2 ex2)
/-- sorted(..), list(..), xs + ys, xs * n as new lists: the value is told to be new -/
def CallN (K : PySem.W.Frag) (r : List V → Hp → VK → Prop) (g : List PyData → Option (List PyData)) : Prop :=
  ∀ (G H : Hp) (xs : List V) (ds z : List PyData) (Q : VK), Ex G H → Da K G xs ds → g ds = some z → (∀ p ys, H p = none → Da K G ys z → Q (.ref p) (upd H p (.lst ys))) → r xs H Q
theorem callN_run {r : List V → Hp → VK → Prop} {g : List PyData → Option (List PyData)} {ra : FE (List PyData)} (hr : CallN X.K r g) {σ : L2.St} {H : Hp} {Q : VK} (h : tF X.K bb (thnE ra fun xs => liftO (g xs)) σ H Q) : tA X.K bb ra σ H fun vs H1 => r vs H1 Q := by
  obtain ⟨G, ρ, d, ρ', E, ef, k⟩ := h
  obtain ⟨x, ρ1, h1, h2⟩ := thnE_of ef
  obtain ⟨h5, rfl⟩ := liftO_of h2
  refine ⟨G, ρ, x, ρ', E, h1, fun v G1 H1 t1 o1 E1 d1 => ?_⟩
  refine hr G1 H1 v x d Q E1.ex d1 h5 fun p ys hp da => ?_
  exact k p ys G1 _ (tr_back t1 hp) (E1.gn hp) upd_same da (t1.trans (tr_mk0 (ow := nobody) hp) fun _ _ _ q => q.elim) o1 (E1.tr (tr_mk0 hp) (ex_new E1.ex hp))
theorem l_callB {id : String} {r : List V → Hp → VK → Prop} {g : List PyData → Option (List PyData)} {ra : FE (List PyData)} (hc : CallR X (.builtin id) r) (hr : CallN X.K r g) (hg : Gl X x) (hm : X.mg x = none)
    (hv : bootBuiltins x = some (.builtin id)) (ha : PA X (e :: es) (tA X.K bb ra)) (hn : x ≠ "__name__" := by decide) (hdb : (x == ("__debug__" : Str)) = false := by decide)
    (he : starEach (e :: es) X.env = (false, eval e X.env) :: starEach es X.env := by rfl) (hpl : (backTo pos (starEach es X.env)).any (·.1) = false := by rfl) : PE X (.Call (.Name x p) (e :: es) [] pos) (tF X.K bb (thnE ra fun xs => liftO (g xs))) :=
  PE.weak (pe_callB hc hg hm hv ha hn hdb he hpl) fun _ _ _ h => callN_run hr h
theorem l_callTy {T : String} {r : List V → Hp → VK → Prop} {g : List PyData → Option (List PyData)} {ra : FE (List PyData)} (hc : CallR X (.type T) r) (hr : CallN X.K r g) (hg : Gl X x) (hm : X.mg x = none)
    (hv : bootBuiltins x = some (.type T)) (ha : PA X (e :: es) (tA X.K bb ra)) (hn : x ≠ "__name__" := by decide) (hdb : (x == ("__debug__" : Str)) = false := by decide)
    (he : starEach (e :: es) X.env = (false, eval e X.env) :: starEach es X.env := by rfl) (hpl : (backTo pos (starEach es X.env)).any (·.1) = false := by rfl) : PE X (.Call (.Name x p) (e :: es) [] pos) (tF X.K bb (thnE ra fun xs => liftO (g xs))) :=
  PE.weak (pe_callTy hc hg hm hv ha hn hdb he hpl) fun _ _ _ h => callN_run hr h
def listN : List PyData → Option (List PyData)
  | [.list ds] => some ds
  | [.tuple ds] => some ds
  | _ => none
theorem n_list {K : PySem.W.Frag} : CallN K (rListD2 K) listN := fun G H xs ds z Q ex hd hz k => by
  unfold listN at hz
  split at hz
  · cases hz
    obtain ⟨v, rfl, h⟩ := da_one hd
    obtain ⟨a, ys, rfl, hy, dy⟩ := dt_list h
    exact ⟨a, ys, rfl, .inl (hy.mono ex).sq, fun l hl => k l ys hl dy⟩
  · cases hz
    obtain ⟨v, rfl, h⟩ := da_one hd
    obtain ⟨a, ys, rfl, hy, dy⟩ := dt_tup h
    exact ⟨a, ys, rfl, .inr (Evl.ex_t ex hy), fun l hl => k l ys hl dy⟩
  · cases hz
theorem e_globE {i : Int} (hg : Gl X x) (hm : ∃ t, X.mg x = some (.int i t)) (hd : (x == ("__debug__" : Str)) = false := by decide) : PE X (.Name x pos) (tE X.K bb (ret (.int i))) := by
  obtain ⟨t, hm⟩ := hm
  exact e_glob hg hm hd
theorem Here.mono {j k : Nat} (h : Here k X) (q : j ≤ k) : Here j X := ⟨h.g, h.r.mono q, h.c⟩
/-- a def as it is called -/
structure Cal (Pr : Program) (w : World) (K : PySem.W.Frag) (mg : Str → Option Value) (base : Heap) (k : Nat) (x : Str) (ps : List Str) (sp : Sp) (f : Addr) (fd : FuncData) : Prop where
  ok : FnG Pr w K mg base k f fd ps sp
  gl : mg x = some (.ref f)
  kp : PySem.W.keepIn K (.ref f) = true
  bd : Binds K fd ps []
theorem t_chain {a b c : Expr} {op op' : CmpOp} {r r' : R2} {g g' : PyData → PyData → Option PyData} {fa fb fc : FE PyData} (ho : OpR X (compareOp op) r) (ho' : OpR X (compareOp op') r') (hr : OpD X.K r g) (hr' : OpD X.K r' g')
    (ha : PE X a (tE X.K bb fa)) (hb : PE X b (tE X.K bb fb)) (hc : PE X c (tE X.K bb fc)) (hm : lastMarks [op, op'] [b, c] = false := by rfl) : PT X (.Compare a [op, op'] [b, c] pos) (tT X.K bb (fTst (fChain g g' fa fb fc))) :=
  PT.weak (pt_chain ho ho' ha hb hc hm) fun σ H Q h => by
    have h' := tst_run h
    exact chain_run hr hr' h'
end
end Tw

set_option Elab.async false
set_option linter.all false
set_option maxRecDepth 100000
set_option maxHeartbeats 2000000
namespace Tw
open PySem PySem.Spec PyProof.Rows L2
open Evl (Ex)
section
variable {X : Cx} {a b e : Expr} {pos : Pos} {bb : Bool} {fa fb fe : FE PyData} {P : List Nat} {K : PySem.W.Frag}
/-! ### x += e -/
def fAug (i : Nat) (g : PyData → PyData → Option PyData) (fe : FE PyData) : FS := fun ρ => match ρ[i]? with
  | some (.d x) => (fe ρ).bind fun p => (g x p.1).bind fun z => if i < p.2.length then some (.nx (p.2.set i (.d z))) else none
  | _ => none
theorem s_aug {i : Nat} {x : Str} {op : Operator} {r : R2} {g : PyData → PyData → Option PyData} {pos' : Pos} (hp : i ∉ P) (hN : X.N.Nodup) (hi : X.N[i]? = some x) (hx : Loc X.env.scope x) (ho : OpR X (inplaceOp op) r) (hr : OpD X.K r g) (he : PE X e (tE X.K bb fe))
    (hf : X.fn x = true ∨ X.env.scope.names.lookup x = some .local := by first | exact .inl rfl | exact .inr rfl) : PS X (.AugAssign (.Name x pos') op e pos) (tS X.K P (fAug i g fe)) :=
  PS.weak (ps_aug (ti := r) hN hi hx he ho hf) fun D σ H ⟨G, ρ, o, E, ef, k⟩ => by
    unfold fAug at ef
    split at ef
    case h_2 => cases ef
    rename_i d0 h0
    obtain ⟨⟨d, ρ1⟩, h1, h2⟩ := Option.bind_eq_some_iff.mp ef
    obtain ⟨z, h3, h4⟩ := Option.bind_eq_some_iff.mp h2
    obtain ⟨hl, rfl⟩ := ite_p h4
    obtain ⟨v, hv, dv⟩ := E.dat i d0 h0
    refine ⟨v, hv, G, ρ, d, ρ1, E, h1, fun u G1 H1 t1 o1 E1 d1 => ?_⟩
    refine hr G1 H1 v u d0 d z _ E1.ex (dv.mono t1.g) d1 h3 fun w G2 H2 t2 x2 d2 => ?_
    have E2 := E1.tr t2 x2
    exact k _ G2 H2 ((Stp.of t1 o1).trans ⟨t2.none, fun l q => .inl (own_set q), fun j hj => List.getElem?_set_ne fun z => hp (by rw [z]; exact hj)⟩) (E2.set hl d2)
/-! ### new lists by an operator -/
def OpN (K : PySem.W.Frag) (r : R2) (g : PyData → PyData → Option (List PyData)) : Prop :=
  ∀ (G H : Hp) (x y : V) (d e : PyData) (z : List PyData) (Q : VK), Ex G H → Dt K G x d → Dt K G y e → g d e = some z → (∀ p ys, H p = none → Da K G ys z → Q (.ref p) (upd H p (.lst ys))) → r x y H Q
def fOpN (g : PyData → PyData → Option (List PyData)) (fa fb : FE PyData) : FE (List PyData) := thnE fa fun x => thnE fb fun y => liftO (g x y)
theorem l_op {op : Operator} {r : R2} {g : PyData → PyData → Option (List PyData)} (ho : OpR X (binaryOp op) r) (hr : OpN X.K r g) (ha : PE X a (tE X.K bb fa)) (hb : PE X b (tE X.K bb fb)) :
    PE X (.BinOp a op b pos) (tF X.K bb (fOpN g fa fb)) := PE.weak (pe_op ho ha hb) fun σ H Q ⟨G, ρ, ds, ρ', E, ef, k⟩ => by
  obtain ⟨x, ρ1, h1, h2⟩ := thnE_of ef
  obtain ⟨y, ρ2, h3, h4⟩ := thnE_of h2
  obtain ⟨h5, rfl⟩ := liftO_of h4
  refine ⟨G, ρ, x, ρ1, E, h1, fun v G1 H1 t1 o1 E1 d1 => ⟨G1, ρ1, y, ρ', E1, h3, fun u G2 H2 t2 o2 E2 d2 => ?_⟩⟩
  refine hr G2 H2 v u x y ds Q E2.ex (d1.mono t2.g) d2 h5 fun p ys hp da => ?_
  have t3 : Tr nobody G2 H2 G2 (upd H2 p (.lst ys)) := tr_mk0 hp
  exact k p ys G2 _ (tr_back t1 (tr_back t2 hp)) (E2.gn hp) upd_same da ((t1.seq o1 t2).trans t3 fun _ _ _ q => q.elim) (fun l q => o1 l (o2 l q)) (E2.tr t3 (ex_new E2.ex hp))
/-- a list times an int -/
def rRepR (K : PySem.W.Frag) : R2 := fun x y H Q => ∃ l k xs, x = .ref l ∧ y = .int k ∧ RL K H l xs ∧ -(2 ^ 63) ≤ k ∧ k < 2 ^ 63 ∧ xs.length * k.toNat ≤ sizeLine ∧
  ∀ p, H p = none → Q (.ref p) (upd H p (.lst (List.replicate k.toNat xs).flatten))
theorem op_repR : OpR X (binaryOp .Mult) (rRepR X.K) := fun pins s σ H x y v u Q I rx ry h => by
  obtain ⟨l, k, xs, rfl, rfl, hH, h1, h2, hz, q⟩ := h
  cases rx
  obtain ⟨t, rfl⟩ := ry
  obtain ⟨z, its, n, r, hl, e⟩ := lstR I hH
  have hlen : its.toArray.size * k.toNat ≤ sizeLine := by rw [List.size_toArray, ← hl]; exact hz
  have hcap : ¬ its.toArray.size * k.toNat > (2 ^ 63 - 1) / 8 := by
    have : (sizeLine : Nat) ≤ (2 ^ 63 - 1) / 8 := by decide
    omega
  have hfit : ¬ (!Builtin.List.listFitsIndex k) = true := by rw [fitsIndex_both h1 h2]; exact Bool.false_ne_true
  have hlong : ¬ Builtin.List.listTooLong (its.toArray.size * k.toNat) = true := by rw [notLongL hlen]; exact Bool.false_ne_true
  have hnew : List.foldl (fun x1 x2 => x1 ++ x2) #[] (List.replicate (if its.toArray.isEmpty = true then 0 else k.toNat) its.toArray) = (List.replicate k.toNat its).flatten.toArray := by
    have f0 : ∀ m : Nat, List.foldl (fun x1 x2 => x1 ++ x2) #[] (List.replicate m its.toArray) = (List.replicate m its).flatten.toArray := fun m => by simpa using foldl_rep its m []
    rw [f0]
    cases its with
    | nil => simp
    | cons a r' => rw [if_neg (by simp)]
  refine wpAny_binaryOp_repeat_ref (T := "list") (U := "int") (by decide) ⟨_, e, rfl⟩ (fun s' => PySem.typeIs_int s' k t) noFill_list_mul F.fills_int_mul F.slot_int_rmul repeat_list F.slot_int_index.lookup
    (call_meets F.slot_int_rmul (PySem.typeIs_int s k t) F.entry_int_rmul (F.args_int_rmul_2 _ _) (int___rmul___int_list k t l its.toArray n)
      ⟨e, rfl, ⟨_, e, rfl⟩, call_meets F.slot_list_mul ⟨_, e, rfl⟩ F.entry_list_mul (F.args_list_mul_2 _ _) (AutoListH.list___mul___list_int_3 l its.toArray n k t hfit hcap hlong) ⟨e, ?_⟩⟩)
  rw [hnew]
  exact ⟨.ref _, _, I.lnew (t' := s.toks) (r.rep k.toNat) (by rw [PyProof.Rows.lm_len_rep_flat, Nat.mul_comm]; exact hz), rfl, q _ I.fresh⟩
theorem Da.rep {G : Hp} {xs : List V} {ds : List PyData} (h : Da K G xs ds) : ∀ n : Nat, Da K G (List.replicate n xs).flatten (List.replicate n ds).flatten
  | 0 => .nil
  | n + 1 => by
    rw [List.replicate_succ, List.replicate_succ, List.flatten_cons, List.flatten_cons]
    exact h.app (Da.rep h n)
def repN : PyData → PyData → Option (List PyData)
  | .list ds, .int k => if -(2 ^ 62) ≤ k ∧ k < 2 ^ 62 ∧ ds.length * k.toNat ≤ 100000 then some (List.replicate k.toNat ds).flatten else none
  | _, _ => none
theorem n_rep : OpN K (rRepR K) repN := fun G H x y d e z Q ex hd he hz k => by
  unfold repN at hz
  split at hz
  · obtain ⟨hb, rfl⟩ := ite_p hz
    obtain ⟨a, xs, rfl, hx, dx⟩ := dt_list hd
    exact ⟨a, _, xs, rfl, dt_int he, hx.mono ex, by omega, by omega, by rw [dx.len]; exact Evl.sz_of hb.2.2, fun p hp => k p _ hp (dx.rep _)⟩
  · cases hz
/-- list + list -/
def catN : PyData → PyData → Option (List PyData)
  | .list ds, .list es => if sizeOk (ds.length + es.length) = true then some (ds ++ es) else none
  | _, _ => none
theorem n_cat : OpN K (rCatR K) catN := fun G H x y d e z Q ex hd he hz k => by
  unfold catN at hz
  split at hz
  · obtain ⟨hs, rfl⟩ := ite_p hz
    obtain ⟨a, xs, rfl, hx, dx⟩ := dt_list hd
    obtain ⟨b, ys, rfl, hy, dy⟩ := dt_list he
    exact ⟨a, b, xs, ys, rfl, rfl, hx.mono ex, hy.mono ex, by rw [dx.len, dy.len]; exact sizeOk_le hs, fun p hp => k p _ hp (dx.app dy)⟩
  · cases hz
end
/-- how these reckon -/
theorem fAug_ok {i : Nat} {g : PyData → PyData → Option PyData} {fe : FE PyData} {ρ ρ1 : Rho} {x d z : PyData} (h0 : ρ[i]? = some (.d x)) (h1 : fe ρ = some (d, ρ1)) (h2 : g x d = some z) (h3 : i < ρ1.length) : fAug i g fe ρ = some (.nx (ρ1.set i (.d z))) := by
  unfold fAug
  rw [h0]
  dsimp only
  rw [h1, Option.bind_some]
  dsimp only
  rw [h2, Option.bind_some, if_pos h3]
end Tw

set_option Elab.async false
set_option linter.all false
set_option maxRecDepth 100000
set_option maxHeartbeats 2000000
namespace Tw
open PySem PySem.Spec PyProof.Rows L2
open Evl (Ex)
/-! ### a module's tuples -/
mutual
/-- what a module's value reads as, whatever the heap -/
inductive KD (K : PySem.W.Frag) : Value → PyData → Prop
  | nn : KD K .none .none
  | bb (b : Bool) : KD K (.bool b) (.bool b)
  | ii (i : Int) (t : Tok) : KD K (.int i t) (.int i)
  | ss (x : Str) (t : Tok) : KD K (.str x t) (.str x)
  | tt {a : Addr} {o : Obj} {its : Array Value} {n : Nat} {ds : List PyData} (h : K.lookup a = some o) (hc : o.cls = .type "tuple") (hd : o.data = .seq its n) (hz : its.size ≤ sizeLine) (t : KDs K its.toList ds) : KD K (.ref a) (.tuple ds)
inductive KDs (K : PySem.W.Frag) : List Value → List PyData → Prop
  | nil : KDs K [] []
  | cons {u : Value} {us : List Value} {d : PyData} {ds : List PyData} (h : KD K u d) (t : KDs K us ds) : KDs K (u :: us) (d :: ds)
end
mutual
theorem KD.data {K : PySem.W.Frag} : ∀ {u : Value} {d : PyData}, KD K u d → ∃ v, RelV v u ∧ ∀ G, Dt K G v d
  | _, _, .nn => ⟨.non, rfl, fun _ => .nn⟩
  | _, _, .bb b => ⟨.bl b, rfl, fun _ => .bb b⟩
  | _, _, .ii i t => ⟨.int i, ⟨t, rfl⟩, fun _ => .ii i⟩
  | _, _, .ss x t => ⟨.str x, ⟨t, rfl⟩, fun _ => .ss x⟩
  | _, _, .tt h hc hd hz t => by
    obtain ⟨vs, r, q⟩ := KDs.data t
    exact ⟨.ref _, rfl, fun G => .tt (.inr ⟨_, _, _, h, hc, hd, hz, r⟩) (q G)⟩
theorem KDs.data {K : PySem.W.Frag} : ∀ {us : List Value} {ds : List PyData}, KDs K us ds → ∃ vs, Vals vs us ∧ ∀ G, Da K G vs ds
  | _, _, .nil => ⟨[], .nil, fun _ => .nil⟩
  | _, _, .cons h t => by
    obtain ⟨v, r, q⟩ := KD.data h
    obtain ⟨vs, r2, q2⟩ := KDs.data t
    exact ⟨v :: vs, .cons r r2, fun G => .cons (q G) (q2 G)⟩
end
section
variable {X : Cx} {a b e : Expr} {es : List Expr} {pos p : Pos} {bb : Bool} {fa fb fe fi : FE PyData} {P : List Nat} {K : PySem.W.Frag} {x : Str}
theorem e_globT {d : PyData} (hg : Gl X x) (hm : ∃ u, X.mg x = some u ∧ KD X.K u d) (hd : (x == ("__debug__" : Str)) = false := by decide) : PE X (.Name x pos) (tE X.K bb (ret d)) := by
  obtain ⟨u, hm, k⟩ := hm
  obtain ⟨v, r, q⟩ := k.data
  exact e_con (pe_glob hg hm r hd) q
/-! ### is not, of truths -/
def notB : PyData → PyData → Option PyData
  | .bool a, .bool b => some (.bool (!decide (a = b)))
  | _, _ => none
theorem d_notB : OpD K rNotB notB := fun G H x y d e z Q ex hd he hz k => by
  unfold notB at hz
  split at hz
  · cases hz
    exact ⟨_, _, dt_bool hd, dt_bool he, k _ G H .refl ex (.bb _)⟩
  · cases hz
/-! ### a, b = x, y -/
def fPar (i j : Nat) (r : FE (List PyData)) : FS := fun ρ => (r ρ).bind fun p => match p.1 with
  | [x, y] => if i < p.2.length ∧ j < p.2.length then some (.nx ((p.2.set i (.d x)).set j (.d y))) else none
  | _ => none
theorem s_par {i j : Nat} {x y : Str} {r : FE (List PyData)} {px py pt pt2 : Pos} {kt k2 : Nat} (hpi : i ∉ P) (hpj : j ∉ P) (hc : X.calm = true) (hN : X.N.Nodup) (hi : X.N[i]? = some x) (hj : X.N[j]? = some y) (hij : i ≠ j)
    (hx : X.env.scope.names.lookup x = some .local) (hy : X.env.scope.names.lookup y = some .local) (ha : PA X [a, b] (tA X.K bb r))
    (hw : swappedStores [.Tuple [.Name x px, .Name y py] kt pt] (.Tuple [a, b] k2 pt2) X.env = pure (some [x, y]) := by rfl)
    (hs : swapsWithSole [.Tuple [.Name x px, .Name y py] kt pt] (.Tuple [a, b] k2 pt2) pos.line X.env = pure false := by rfl) :
    PS X (.Assign [.Tuple [.Name x px, .Name y py] kt pt] (.Tuple [a, b] k2 pt2) pos) (tS X.K P (fPar i j r)) := PS.weak (ps_par hc hN hi hj hij hx hy ha hw hs) fun D σ H ⟨G, ρ, o, E, ef, k⟩ => by
  unfold fPar at ef
  obtain ⟨⟨ds, ρ1⟩, h1, h2⟩ := Option.bind_eq_some_iff.mp ef
  dsimp only at h2
  split at h2
  case h_2 => cases h2
  rename_i d1 d2
  obtain ⟨⟨l1, l2⟩, rfl⟩ := ite_p h2
  refine ⟨G, ρ, _, ρ1, E, h1, fun vs G1 H1 t1 o1 E1 da => ?_⟩
  obtain ⟨v, w, rfl, dv, dw⟩ := da_two da
  refine ⟨v, w, rfl, ?_⟩
  have E2 := E1.set l1 dv
  have E3 := E2.set (by rw [List.length_set]; exact l2) dw
  exact k _ G1 H1 ((Stp.of t1 o1).trans ⟨.refl, fun l q => .inl (own_set (own_set q)), fun m hm => by
    rw [List.getElem?_set_ne fun z => hpj (by rw [z]; exact hm), List.getElem?_set_ne fun z => hpi (by rw [z]; exact hm)]⟩) E3
/-! ### a def that changes its list, called with a new one -/
variable {k n : Nat} {f : Addr} {fd : FuncData} {ps : List Str}
def fCallN (n : Nat) (g : List PyData → List PyData → Option (PyData × List PyData)) (r0 : FE (List PyData)) (ra : FE (List PyData)) : FE PyData := thnE r0 fun ms => thnE ra fun ds => liftO (if ds.length = n then (g ms ds).map (·.1) else none)
/-- beside a new list that no slot holds -/
theorem env_keep {G H G1 H1 : Hp} {σ : L2.St} {ρ : Rho} {l : Addr} (E : EnvOk K G H σ ρ) (nw : ¬ own σ ρ l) (t : Tr (fun a => a = l) G H G1 H1) (e : Ex G1 H1) : EnvOk K G1 H1 σ ρ where
  ex := e
  len := E.len
  dat := fun i d q => by
    obtain ⟨v, h1, h2⟩ := E.dat i d q
    exact ⟨v, h1, h2.mono t.g⟩
  mu := fun i ds q => by
    obtain ⟨m, xs, h1, h2, h3, h4⟩ := E.mu i ds q
    have ne : m ≠ l := fun z => nw (by rw [← z]; exact ⟨i, ds, q, h1⟩)
    exact ⟨m, xs, h1, t.n m _ h3 h2 ne, t.h m _ h3 ne, h4.mono t.g⟩
  ne := E.ne
theorem e_callN {g : List PyData → List PyData → Option (PyData × List PyData)} {r0 ra : FE (List PyData)} (F : FnG X.prog X.w X.K X.mg X.base k f fd ps (spM X.K n g)) (hh : Here k X) (hg : Gl X x) (hm : X.mg x = some (.ref f)) (hk : PySem.W.keepIn X.K (.ref f) = true) (hb : Binds X.K fd ps [])
    (h0 : PE X e (tF X.K true r0)) (ha : PA X es (tA X.K true ra)) (hdb : (x == ("__debug__" : Str)) = false := by decide) (he : starEach (e :: es) X.env = (false, eval e X.env) :: starEach es X.env := by rfl) (hpl : (backTo pos (starEach es X.env)).any (·.1) = false := by rfl) :
    PE X (.Call (.Name x p) (e :: es) [] pos) (tE X.K true (fCallN n g r0 ra)) := PE.weak (call_G F hh hg hm hk hb (pa_cons h0 ha he) hdb he hpl) fun σ H Q ⟨G, ρ, d, ρ', E, ef, kk⟩ => by
  obtain ⟨ms, ρ1, h1, h2⟩ := thnE_of ef
  obtain ⟨ds, ρ2, h3, h4⟩ := thnE_of h2
  obtain ⟨h5, rfl⟩ := liftO_of h4
  split at h5
  case isFalse => cases h5
  rename_i hl
  obtain ⟨⟨z, ms'⟩, h6, rfl⟩ := Option.map_eq_some_iff.mp h5
  refine ⟨G, ρ, ms, ρ1, E, h1, fun l xs G1 H1 hp hG hH dx t1 o1 E1 => ?_⟩
  have nw : ¬ own σ ρ1 l := fun q => by
    obtain ⟨ys, z⟩ := own_there E (o1 l q)
    rw [hp] at z
    cases z
  refine ⟨G1, ρ1, ds, ρ', E1, h3, fun ws G2 H2 t2 o2 E2 d2 => ?_⟩
  have nw2 : ¬ own σ ρ' l := fun q => nw (o2 l q)
  have not2 : ¬ ows true σ ρ1 l := fun q => nw q.2
  have hG2 : G2 l = none := t2.n l _ hH hG not2
  have hH2 : H2 l = some (.lst xs) := t2.h l _ hH not2
  refine ⟨G2, l, xs, ws, ms, ds, _, ms', rfl, E2.ex, hG2, hH2, dx.mono t2.g, d2, hl, h6, fun v G3 H3 xs' t3 ex3 hG3 hH3 dx3 dv => ?_⟩
  have t12 := t1.seq o1 t2
  have t13 : Tr (ows true σ ρ) G H G3 H3 := {
    g := fun x o q => t3.g x o (t12.g x o q)
    h := fun x o q w => by
      by_cases z : x = l
      · subst z; rw [hp] at q; cases q
      · exact t3.h x o (t12.h x o q w) z
    n := fun x o q gq w => by
      by_cases z : x = l
      · subst z; rw [hp] at q; cases q
      · exact t3.n x o (t12.h x o q w) (t12.n x o q gq w) z
    k := fun x o q => let ⟨u, e⟩ := t12.k x o q; t3.k x u e }
  exact kk v G3 H3 t13 (fun l' q => o1 l' (o2 l' q)) (env_keep E2 nw2 t3 ex3) dv
end
end Tw

set_option Elab.async false
set_option linter.all false
set_option maxRecDepth 100000
set_option maxHeartbeats 2000000
namespace Tw
open PySem PySem.Spec PyProof.Rows L2
open Evl (Ex)
section
variable {X : Cx} {a b e i : Expr} {es : List Expr} {pos p q : Pos} {bb : Bool} {fa fb fe fi : FE PyData} {P : List Nat} {K : PySem.W.Frag} {x : Str}
/-! ### tuple(range(n)) -/
def fTupRg (f : FE PyData) : FE PyData := thnE f fun x => liftO ((rg1 x).map .tuple)
theorem e_tupRg (hc : X.calm = true) (hg : Gl X "tuple") (hm : X.mg "tuple" = none) (hgr : Gl X "range") (hmr : X.mg "range" = none) (ha : PE X a (tE X.K bb fa))
    (n1 : starEach [a] X.env = (false, eval a X.env) :: starEach [] X.env := by rfl) (n2 : starEach [.Call (.Name "range" q) [a] [] p] X.env = (false, eval (.Call (.Name "range" q) [a] [] p) X.env) :: starEach [] X.env := by rfl) {pl : Pos} :
    PE X (.Call (.Name "tuple" pl) [.Call (.Name "range" q) [a] [] p] [] pos) (tE X.K bb (fTupRg fa)) := PE.weak (pe_tupRg hc hg hm (prg_1 hgr hmr ha n1) n2) fun σ H Q ⟨G, ρ, d, ρ', E, ef, k⟩ => by
  obtain ⟨x, ρ1, h1, h2⟩ := thnE_of ef
  obtain ⟨h4, rfl⟩ := liftO_of h2
  obtain ⟨ds, h3, rfl⟩ := Option.map_eq_some_iff.mp h4
  refine ⟨G, ρ, x, ρ', E, h1, fun v G1 H1 t1 o1 E1 d1 => ?_⟩
  unfold rg1 at h3
  split at h3
  · obtain ⟨h6, rfl⟩ := ite_p h3
    have h5 := of_decide_eq_true h6
    refine ⟨_, dt_int d1, RgOk.of_le (by omega) (by omega) (by omega) (by omega), fun l hl => ?_⟩
    have da := rg_da (K := X.K) (G := G1) 0 ‹Int›
    rw [Int.sub_zero] at da
    have t2 : Tr nobody G1 H1 (upd G1 l (.tup (rgV 0 ‹Int›))) (upd H1 l (.tup (rgV 0 ‹Int›))) := Tr.new hl E1.ex
    exact k _ _ _ (t1.trans t2 fun _ _ _ q => q.elim) o1 (E1.tr t2 (ex_upd E1.ex)) (.tt (SqT.of upd_same) (da.mono t2.g))
  · cases h3
/-! ### xs[i] += e, a list of one's own -/
def rGetL : V → V → Hp → VK → Prop := fun o i H Q => ∃ p xs k v, o = .ref p ∧ i = .int k ∧ H p = some (.lst xs) ∧ atI xs k = some v ∧ Q v H
theorem get_list : PGet X rGetL := fun pins s σ H o i ov iv Q I ro ri h => by
  obtain ⟨p, xs, k, z, rfl, rfl, hp, he, q⟩ := h
  cases ro
  obtain ⟨t, rfl⟩ := ri
  obtain ⟨its, r, pl, hz⟩ := I.list (SqL.of hp)
  obtain ⟨j, h1, h2, h3, h4, h5⟩ := atI_get he
  obtain ⟨w, ew, rw'⟩ := r.get h2
  have hl := r.length
  have hn := line63
  have fin : EP X pins σ Q w s := ⟨z, H, I, rw', q⟩
  by_cases h0 : 0 ≤ k
  · have hj : k.toNat = j := by
      rw [seqIndex_of h0 h5] at h1
      exact Option.some.inj h1
    exact wpAny_getItem_list pl.isList h0 (by omega) (by rw [hj]; simpa using ew) fin
  · have hj : (k + (its.toArray.size : Int)).toNat = j := by
      rw [seqIndex_neg (by omega) h4] at h1
      rw [List.size_toArray, ← hl]
      exact Option.some.inj h1
    exact wpAny_getItem_list_neg pl.isList (by omega) (by rw [List.size_toArray] <;> omega) (by omega) (by rw [hj]; simpa using ew) fin
/-- the number is told ahead of e, the list of both -/
def fAugI (i : Nat) (g : PyData → PyData → Option PyData) (fi fe : FE PyData) : FS := fun ρ => match ρ[i]? with
  | some (.m (.l _)) => (fi ρ).bind fun p => match p.1, p.2[i]? with
    | .int k, some (.m (.l ms)) => (ixN ms.length k).bind fun j => (ms[j]?).bind fun x => (fe p.2).bind fun q => match q.2[i]? with
      | some (.m (.l ns)) => if ns.length = ms.length then (g x q.1).map fun z => .nx (q.2.set i (.m (.l (ns.set j z)))) else none
      | _ => none
    | _, _ => none
  | _ => none
theorem ixN_at {xs : List V} {k : Int} {j : Nat} (h : ixN xs.length k = some j) {v : V} (hv : xs[j]? = some v) : atI xs k = some v := by
  unfold atI
  rw [h]
  exact hv
theorem s_augI {op : Operator} {r : R2} {g : PyData → PyData → Option PyData} {o ie : Expr} {tpos : Pos} (n : Nat) (ho : PE X o (tVar n)) (hi : PE X ie (tE X.K true fi)) (hop : OpR X (inplaceOp op) r) (hr : OpD X.K r g) (he : PE X e (tE X.K true fe))
    (ha : ∀ ov iv new, augStore ie ov iv new = (do holding [new, ov, iv] (setItem ov iv new); release [new, ov, iv] []; pure .next) := by intros; rfl) :
    PS X (.AugAssign (.Subscript o ie tpos) op e pos) (tS X.K P (fAugI n g fi fe)) :=
  PS.weak (ps_augS (tip := r) ho hi get_list he hop set_list ha) fun D σ H ⟨G, ρ, o, E, ef, k⟩ => by
    unfold fAugI at ef
    split at ef
    case h_2 => cases ef
    rename_i ms0 h0
    obtain ⟨⟨dk, ρ1⟩, h1, h2⟩ := Option.bind_eq_some_iff.mp ef
    dsimp only at h2
    split at h2
    case h_2 => cases h2
    rename_i kk ms hm1
    obtain ⟨j, hj, h3⟩ := Option.bind_eq_some_iff.mp h2
    obtain ⟨x, hx, h4⟩ := Option.bind_eq_some_iff.mp h3
    obtain ⟨⟨y, ρ2⟩, h5, h6⟩ := Option.bind_eq_some_iff.mp h4
    dsimp only at h6
    split at h6
    case h_2 => cases h6
    rename_i ns hm2
    split at h6
    case isFalse => cases h6
    rename_i hlen
    obtain ⟨z, hz, rfl⟩ := Option.map_eq_some_iff.mp h6
    obtain ⟨l, xs0, hσ, _, _, _⟩ := E.muL h0
    refine ⟨.ref l, hσ, G, ρ, _, ρ1, E, h1, fun vk G1 H1 t1 o1 E1 d1 => ?_⟩
    obtain ⟨l1, xs1, hσ1, hG1, hH1, dx1⟩ := E1.muL hm1
    rw [hσ] at hσ1
    cases hσ1
    obtain ⟨vx, hvx, dvx⟩ := dx1.get hx
    have hj1 : ixN xs1.length kk = some j := by rw [dx1.len]; exact hj
    refine ⟨l, xs1, kk, vx, rfl, dt_int d1, hH1, ixN_at hj1 hvx, G1, ρ1, y, ρ2, E1, h5, fun vy G2 H2 t2 o2 E2 d2 => ?_⟩
    obtain ⟨l2, xs2, hσ2, hG2, hH2, dx2⟩ := E2.muL hm2
    rw [hσ] at hσ2
    cases hσ2
    refine hr G2 H2 vx vy x y z _ E2.ex (dvx.mono t2.g) d2 hz fun vz G3 H3 t3 x3 d3 => ?_
    have E3 := E2.tr t3 x3
    obtain ⟨l3, xs3, hσ3, hG3, hH3, dx3⟩ := E3.muL hm2
    rw [hσ] at hσ3
    cases hσ3
    have hj3 : ixN xs3.length kk = some j := by rw [dx3.len, hlen]; exact hj
    refine ⟨l, xs3, kk, j, rfl, dt_int d1, hH3, hj3, ?_⟩
    have own3 : own σ ρ2 l := ⟨n, ns, hm2, hσ⟩
    have s13 : Stp P G H σ ρ G3 H3 σ ρ2 := ((Stp.of t1 o1).trans (.of t2 o2)).trans ⟨t3.none, fun _ q => .inl q, fun _ _ => rfl⟩
    have t4 : Tr (fun a => a = l) G3 H3 G3 (upd H3 l (.lst (xs3.set j vz))) := tr_cell hG3 hH3
    refine k σ G3 _ (s13.trans ⟨t4.wide fun a _ _ q => by rw [q]; exact own3, fun l' q => .inl (own_setM hm2 q), fun _ _ => rfl⟩) ?_
    exact env_setM E3 hm2 hσ t4 (ex_cell E3.ex hG3) hG3 upd_same (.l (Da.set j d3 dx3))
end
/-- how it reckons -/
theorem fAugI_ok {i : Nat} {g : PyData → PyData → Option PyData} {fi fe : FE PyData} {ρ ρ1 ρ2 : Rho} {ms0 ms ns : List PyData} {k : Int} {j : Nat} {x y z : PyData} (h0 : ρ[i]? = some (.m ms0)) (h1 : fi ρ = some (.int k, ρ1)) (h2 : ρ1[i]? = some (.m ms)) (h3 : ixN ms.length k = some j) (h4 : ms[j]? = some x)
    (h5 : fe ρ1 = some (y, ρ2)) (h6 : ρ2[i]? = some (.m ns)) (h7 : ns.length = ms.length) (h8 : g x y = some z) : fAugI i g fi fe ρ = some (.nx (ρ2.set i (.m (ns.set j z)))) := by
  unfold fAugI
  rw [h0]
  dsimp only
  rw [h1, Option.bind_some]
  dsimp only
  rw [h2]
  dsimp only
  rw [h3, Option.bind_some, h4, Option.bind_some, h5, Option.bind_some]
  dsimp only
  rw [h6]
  dsimp only
  rw [if_pos h7, h8]
  rfl
end Tw

set_option Elab.async false
set_option linter.all false
set_option maxRecDepth 100000
set_option maxHeartbeats 2000000
namespace Tw
open PySem PySem.Spec PyProof.Rows L2
open Evl (Ex)
/-! ### dicts, read and filled -/
def keyOf : PyData → Option Key
  | .int i => some (.inl i)
  | .str x => some (.inr x)
  | _ => none
def isK : Key → PyData → Bool
  | .inl i, .int j => decide (j = i)
  | .inr x, .str y => decide (y = x)
  | _, _ => false
theorem isK_key (k q : Key) : isK k (keyD q) = decide (q = k) := by
  cases k <;> cases q <;> simp [isK, keyD]
def getE (es : List (PyData × PyData)) (k : Key) : Option PyData := (es.find? fun e => isK k e.1).map (·.2)
def hasE (es : List (PyData × PyData)) (k : Key) : Bool := es.any fun e => isK k e.1
def putE (es : List (PyData × PyData)) (k : Key) (v : PyData) : List (PyData × PyData) :=
  if hasE es k = true then es.map (fun e => if isK k e.1 = true then (e.1, v) else e) else es ++ [(keyD k, v)]
section
variable {K : PySem.W.Frag} {G : Hp}
def zipE (kvs : List (Key × V)) (ds : List PyData) : List (PyData × PyData) := (kvs.map fun p => keyD p.1).zip ds
theorem ek_get (k : Key) : ∀ {kvs : List (Key × V)} {ds : List PyData}, Da K G (kvs.map (·.2)) ds → (∀ d, getE (zipE kvs ds) k = some d → ∃ v, valV kvs k = some v ∧ Dt K G v d) ∧ (getE (zipE kvs ds) k = none → valV kvs k = none) ∧ hasE (zipE kvs ds) k = (valV kvs k).isSome
  | [], ds, h => by
    cases h
    exact ⟨fun d q => (by cases q), fun _ => rfl, rfl⟩
  | p :: kvs, ds, h => by
    cases h with
    | cons h1 h2 =>
      rename_i d0 ds
      obtain ⟨i1, i2, i3⟩ := ek_get k h2
      have e : zipE (p :: kvs) (d0 :: ds) = (keyD p.1, d0) :: zipE kvs ds := rfl
      rw [e]
      unfold getE at i1 i2 ⊢
      unfold hasE at i3 ⊢
      by_cases c : p.1 = k
      · have t : isK k (keyD p.1) = true := by rw [isK_key, decide_eq_true c]
        rw [List.find?_cons_of_pos (p := fun e : PyData × PyData => isK k e.1) t, valV_pos c, List.any_cons, t]
        exact ⟨fun d q => ⟨_, rfl, by cases q; exact h1⟩, fun q => (by cases q), rfl⟩
      · have t : isK k (keyD p.1) = false := by rw [isK_key, decide_eq_false c]
        rw [List.find?_cons_of_neg (p := fun e : PyData × PyData => isK k e.1) (by rw [t]; decide), valV_neg c, List.any_cons, t, Bool.false_or]
        exact ⟨i1, i2, i3⟩
theorem ek_map {k : Key} {v : V} {d : PyData} (hv : Dt K G v d) : ∀ {kvs : List (Key × V)} {ds : List PyData}, Da K G (kvs.map (·.2)) ds →
    ∃ ds', Da K G ((kvs.map fun kv => if kv.1 = k then (kv.1, v) else kv).map (·.2)) ds' ∧ (zipE kvs ds).map (fun e => if isK k e.1 = true then (e.1, d) else e) = zipE (kvs.map fun kv => if kv.1 = k then (kv.1, v) else kv) ds'
  | [], ds, h => by
    cases h
    exact ⟨[], .nil, rfl⟩
  | p :: kvs, ds, h => by
    cases h with
    | cons h1 h2 =>
      rename_i d0 ds
      obtain ⟨ds', a, b⟩ := ek_map (k := k) hv h2
      have e : zipE (p :: kvs) (d0 :: ds) = (keyD p.1, d0) :: zipE kvs ds := rfl
      rw [e]
      by_cases c : p.1 = k
      · have t : isK k (keyD p.1) = true := by rw [isK_key, decide_eq_true c]
        refine ⟨d :: ds', ?_, ?_⟩
        · show Da K G ((if p.1 = k then (p.1, v) else p).2 :: _) _
          rw [if_pos c]
          exact .cons hv a
        · show (if isK k (keyD p.1) = true then (keyD p.1, d) else (keyD p.1, d0)) :: (zipE kvs ds).map _ = zipE ((if p.1 = k then (p.1, v) else p) :: kvs.map _) _
          rw [b, if_pos t, if_pos c]
          rfl
      · have t : isK k (keyD p.1) = false := by rw [isK_key, decide_eq_false c]
        refine ⟨d0 :: ds', ?_, ?_⟩
        · show Da K G ((if p.1 = k then (p.1, v) else p).2 :: _) _
          rw [if_neg c]
          exact .cons h1 a
        · show (if isK k (keyD p.1) = true then (keyD p.1, d) else (keyD p.1, d0)) :: (zipE kvs ds).map _ = zipE ((if p.1 = k then (p.1, v) else p) :: kvs.map _) _
          rw [b, if_neg (by rw [t]; decide), if_neg c]
          rfl
theorem ek_put {k : Key} {v : V} {d : PyData} {kvs : List (Key × V)} {ds : List PyData} (hv : Dt K G v d) (h : Da K G (kvs.map (·.2)) ds) : MuOk K G (.dK (putK kvs k v)) (.k (putE (zipE kvs ds) k d)) := by
  obtain ⟨_, _, i3⟩ := ek_get k h
  have c : (kvs.any fun kv => decide (kv.1 = k)) = hasE (zipE kvs ds) k := by rw [i3, valV_any]
  unfold putK putE
  rw [c]
  by_cases q : hasE (zipE kvs ds) k = true
  · rw [if_pos q, if_pos q]
    obtain ⟨ds', a, b⟩ := ek_map (k := k) hv h
    rw [b]
    exact .k a
  · rw [if_neg q, if_neg q]
    have l : (kvs.map fun p => keyD p.1).length = ds.length := by rw [List.length_map, ← h.len, List.length_map]
    have e : zipE kvs ds ++ [(keyD k, d)] = zipE (kvs ++ [(k, v)]) (ds ++ [d]) := by
      unfold zipE
      rw [List.map_append, List.zip_append l]
      rfl
    rw [e]
    refine .k ?_
    rw [List.map_append]
    exact h.app (Da.one hv)
/-- data dicts, read -/
theorem dt_dict {v : V} {es : List (PyData × PyData)} (h : Dt K G v (.dict es)) : ∃ a kvs ds, v = .ref a ∧ G a = some (.dK kvs) ∧ Da K G (kvs.map (·.2)) ds ∧ es = zipE kvs ds := by
  cases h with
  | dd h t => exact ⟨_, _, _, rfl, h, t, rfl⟩
theorem keyOf_dt {v : V} {d : PyData} {k : Key} (h : Dt K G v d) (e : keyOf d = some k) : v = kV k := by
  cases h <;> cases e <;> rfl
end
theorem tr_cell' {G H : Hp} {l : Addr} {o o' : HO} (hH : H l = some o) : Tr (fun a => a = l) G H G (upd H l o') where
  g := fun _ _ q => q
  h := fun x u q n => by rw [upd_ne n]; exact q
  n := fun _ _ _ q _ => q
  k := fun x u q => by
    by_cases z : x = l
    · subst z; exact ⟨_, upd_same⟩
    · exact ⟨u, by rw [upd_ne z]; exact q⟩
section
variable {X : Cx} {bb : Bool} {P : List Nat} {pos tpos : Pos}
def rDg : R2 := fun x y H Q => ∃ a v, x = .ref a ∧ DGet H a y (some v) ∧ Q v H
theorem ix_dict (hu : X.A.units + 1 < cLine) : IxR X rDg := by
  intro value slice pins s σ H x y v u Q I rx ry q hs
  obtain ⟨a, w, rfl, g, q⟩ := q
  cases rx
  have hT := dict_typeIs I g
  unfold subscriptTail
  refine wpAny_bind ?_
  rw [getitemInPython_of_ne hT.not_modules]
  refine wpAny_bind (wpAny_specialOf hT PySem.F.slot_dict_getitem.lookup ?_)
  have h₂ := d_getItem (A := X.A) (E := X.xe) (Q := EP X pins σ Q) hu I g ry fun w' s3 I3 rw' => ⟨w, H, I3, rw', q⟩
  have fin : wpAny (model X.prog X.w) X.A (subscripted slice false (.ref a) u) (fun r s₃ => wpAny (model X.prog X.w) X.A (letTemporaryGo value (.ref a) r >>= fun _ => pure r) (EP X pins σ Q) X.xe s₃) X.xe s := by
    rw [hs]
    exact wpAny_operating (wpAny_mono h₂ (fun r s₃ h₃ => wpAny_bind (wpAny_letTemporaryGo (wpAny_pure h₃))) fun _ _ x => x)
  first
    | exact wpAny_pure (wpAny_bind fin)
    | exact wpAny_bind (wpAny_pure (wpAny_bind fin))
    | exact wpAny_bind fin
def dgD : PyData → PyData → Option PyData
  | .dict es, x => (keyOf x).bind (getE es)
  | _, _ => none
theorem d_dg : OpD X.K rDg dgD := fun G H x y d e z Q ex hd he hz k => by
  unfold dgD at hz
  split at hz
  · obtain ⟨kk, h1, h2⟩ := Option.bind_eq_some_iff.mp hz
    obtain ⟨a, kvs, ds, rfl, hx, dx, rfl⟩ := dt_dict hd
    obtain ⟨v, hv, dv⟩ := (ek_get kk dx).1 _ h2
    have ey := keyOf_dt he h1
    refine ⟨a, v, rfl, ?_, k v G H .refl ex dv⟩
    rw [ey, ← hv]
    exact DGet.k (ex _ _ hx)
  · cases hz
/-- a list, a tuple, a text or a dict -/
def ixE (d x : PyData) : Option PyData := (ixD d x).or (dgD d x)
theorem ix_all (hu : X.A.units + 1 < cLine) : IxR X (fun x y H Q => rIx3 X.K x y H Q ∨ rDg x y H Q) := ix_seqB.or (ix_dict hu)
theorem d_ixE : OpD X.K (fun x y H Q => rIx3 X.K x y H Q ∨ rDg x y H Q) ixE := d_ix.or d_dg
/-- in, not in -/
def rDin (neg : Bool) : R2 := fun x y H Q => ∃ a o, y = .ref a ∧ DGet H a x o ∧ Q (.bl (if neg = true then !o.isSome else o.isSome)) H
theorem op_inDict (hu : X.A.units + 1 < cLine) : OpR X (compareOp .In) (rDin false) := by
  intro pins s σ H x y v u Q I rx ry q
  obtain ⟨a, o, rfl, g, q⟩ := q
  cases ry
  exact L2.d_in hu I g rx fun s3 I3 => ⟨.bl o.isSome, H, I3, rfl, q⟩
theorem op_notInDict (hu : X.A.units + 1 < cLine) : OpR X (compareOp .NotIn) (rDin true) := by
  intro pins s σ H x y v u Q I rx ry q
  obtain ⟨a, o, rfl, g, q⟩ := q
  cases ry
  exact L2.d_notIn hu I g rx fun s3 I3 => ⟨.bl (!o.isSome), H, I3, rfl, q⟩
def inK (neg : Bool) : PyData → PyData → Option PyData
  | x, .dict es => (keyOf x).map fun k => .bool (if neg = true then !hasE es k else hasE es k)
  | _, _ => none
theorem d_inK (neg : Bool) : OpD X.K (rDin neg) (inK neg) := fun G H x y d e z Q ex hd he hz k => by
  unfold inK at hz
  split at hz
  · obtain ⟨kk, h1, rfl⟩ := Option.map_eq_some_iff.mp hz
    obtain ⟨a, kvs, ds, rfl, hx, dx, rfl⟩ := dt_dict he
    have ey := keyOf_dt hd h1
    refine ⟨a, valV kvs kk, rfl, ?_, ?_⟩
    · rw [ey]
      exact DGet.k (ex _ _ hx)
    · rw [← (ek_get kk dx).2.2]
      exact k _ G H .refl ex (.bb _)
  · cases hz
/-! x = {} -/
def fOwnK (i : Nat) : FS := fun ρ => if i < ρ.length then some (.nx (ρ.set i (.m (.k [])))) else none
theorem s_ownK (i : Nat) {tg : Expr} {dpos : Pos} (hp : i ∉ P) (ht : PG X tg (gName i)) (hs : swapsWithSole [tg] (.Dict [] [] dpos) pos.line X.env = pure false := by rfl) (hw : swappedStores [tg] (.Dict [] [] dpos) X.env = pure none := by rfl)
    (h1 : (assignEach [tg] X.env).map (·.2) = [assign tg X.env] := by rfl) : PS X (.Assign [tg] (.Dict [] [] dpos) pos) (tS X.K P (fOwnK i)) := PS.weak (ps_asg pe_dnewK ht hs hw h1) fun D σ H ⟨G, ρ, o, E, ef, k⟩ => by
  obtain ⟨hi, rfl⟩ := ite_p ef
  intro p hp0
  have hi' : i < σ.length := by rw [E.len]; exact hi
  have t : Tr nobody G H G (upd H p (.dK [])) := tr_mk0 hp0
  have hG : G p = none := E.gn hp0
  have notp : ¬ own σ ρ p := fun q => by
    obtain ⟨ys, z⟩ := own_there E q
    rw [hp0] at z
    cases z
  have own' : ∀ l, own (σ.set i (some (.ref p))) (ρ.set i (.m (.k []))) l → l = p ∨ own σ ρ l := fun l ⟨j, es, w1, w2⟩ => by
    rcases set_get w1 with ⟨rfl, _⟩ | ⟨n, w1⟩
    · rw [List.getElem?_set_self hi'] at w2
      cases w2
      exact .inl rfl
    · rw [List.getElem?_set_ne (Ne.symm n)] at w2
      exact .inr ⟨j, es, w1, w2⟩
  have E1 := E.tr t (ex_new E.ex hp0)
  refine k _ G _ ⟨t.wide fun _ _ _ q => q.elim, fun l q => (own' l q).elim (fun z => .inr (by rw [z]; exact hp0)) fun z => .inl z, fun j hj => List.getElem?_set_ne fun z => hp (by rw [z]; exact hj)⟩ ?_
  exact {
    ex := E1.ex
    len := by rw [List.length_set, List.length_set]; exact E1.len
    dat := fun j d q => by
      rcases set_get q with ⟨_, q⟩ | ⟨n, q⟩
      · cases q
      · rw [List.getElem?_set_ne (Ne.symm n)]
        exact E1.dat j d q
    mu := fun j d q => by
      rcases set_get q with ⟨ej, qq⟩ | ⟨n, qq⟩
      · cases qq
        rw [ej]
        exact ⟨p, _, List.getElem?_set_self hi', hG, upd_same, .k (kvs := []) (ds := []) .nil⟩
      · rw [List.getElem?_set_ne (Ne.symm n)]
        exact E1.mu j d qq
    ne := fun a b d1 d2 l w1 w2 w3 w4 => by
      rcases set_get w1 with ⟨ea, _⟩ | ⟨na, w1⟩
      · rcases set_get w2 with ⟨eb, _⟩ | ⟨nb, w2⟩
        · rw [ea, eb]
        · rw [ea, List.getElem?_set_self hi'] at w3
          cases w3
          rw [List.getElem?_set_ne (Ne.symm nb)] at w4
          exact (notp ⟨b, d2, w2, w4⟩).elim
      · rcases set_get w2 with ⟨eb, _⟩ | ⟨nb, w2⟩
        · rw [eb, List.getElem?_set_self hi'] at w4
          cases w4
          rw [List.getElem?_set_ne (Ne.symm na)] at w3
          exact (notp ⟨a, d1, w1, w3⟩).elim
        · rw [List.getElem?_set_ne (Ne.symm na)] at w3
          rw [List.getElem?_set_ne (Ne.symm nb)] at w4
          exact E1.ne a b d1 d2 l w1 w2 w3 w4 }
/-! d[k] = v -/
def fPutK (i : Nat) (fe fk : FE PyData) : FS := fun ρ => (fe ρ).bind fun p => match p.2[i]? with
  | some (.m (.k _)) => (fk p.2).bind fun q => match q.2[i]? with
    | some (.m (.k es)) => (keyOf q.1).bind fun k => if es.length < 100000 then some (.nx (q.2.set i (.m (.k (putE es k p.1))))) else none
    | _ => none
  | _ => none
theorem s_putK {fe fk : FE PyData} {o ie e : Expr} (n : Nat) (hu : X.A.units + 1 < cLine) (ho : PE X o (tVar n)) (hi : PE X ie (tE X.K true fk)) (he : PE X e (tE X.K true fe)) (hs : swapsWith e (some (.Subscript o ie tpos)) pos.line X.env = pure false := by rfl) :
    PS X (.Assign [.Subscript o ie tpos] e pos) (tS X.K P (fPutK n fe fk)) := PS.weak (ps_dput hu ho hi he hs) fun D σ H ⟨G, ρ, o, E, ef, k⟩ => by
  obtain ⟨⟨d, ρ1⟩, q1, q2⟩ := Option.bind_eq_some_iff.mp ef
  dsimp only at q2
  split at q2
  case h_2 => cases q2
  rename_i es0 hi0
  obtain ⟨⟨dk, ρ2⟩, q3, q4⟩ := Option.bind_eq_some_iff.mp q2
  dsimp only at q4
  split at q4
  case h_2 => cases q4
  rename_i es hi2
  obtain ⟨kk, q5, q6⟩ := Option.bind_eq_some_iff.mp q4
  obtain ⟨hlen, rfl⟩ := ite_p q6
  refine ⟨G, ρ, d, ρ1, E, q1, fun v G1 H1 t1 o1 E1 d1 => ?_⟩
  obtain ⟨l, kvs0, ds0, hσ, _, _, _, _⟩ := E1.muK hi0
  refine ⟨.ref l, hσ, G1, ρ1, dk, ρ2, E1, q3, fun w G2 H2 t2 o2 E2 d2 => ?_⟩
  obtain ⟨l2, kvs, ds, hσ2, hG, hH, dx, ees⟩ := E2.muK hi2
  rw [hσ] at hσ2
  cases hσ2
  have own2 : own σ ρ2 l := ⟨n, _, hi2, hσ⟩
  have s12 : Stp P G H σ ρ G2 H2 σ ρ2 := (Stp.of t1 o1).trans (.of t2 o2)
  have ey := keyOf_dt d2 q5
  have lz : kvs.length < sizeLine := by
    have : es.length = kvs.length := by
      rw [ees, List.length_zip, List.length_map, ← dx.len, List.length_map, Nat.min_self]
    rw [← this]
    exact Evl.sz_lt hlen
  refine ⟨l, upd H2 l (.dK (putK kvs kk v)), rfl, ?_, ?_⟩
  · rw [ey]
    exact DPut.k hH lz
  have t3 : Tr (fun a => a = l) G2 H2 G2 (upd H2 l (.dK (putK kvs kk v))) := tr_cell' hH
  refine k σ G2 _ (s12.trans ⟨t3.wide fun a _ _ q => by rw [q]; exact own2, fun l' q => .inl (own_setM hi2 q), fun _ _ => rfl⟩) ?_
  refine env_setM E2 hi2 hσ t3 (ex_cell E2.ex hG) hG upd_same ?_
  rw [ees]
  exact ek_put (d1.mono t2.g) dx
end
end Tw
namespace Tw
open PySem L2
theorem Here.u1 {k : Nat} {X : Cx} (h : Here k X) : X.A.units + 1 < cLine := by
  have := h.u
  omega
/-- how d[k] = v reckons -/
theorem fPutK_ok {i : Nat} {fe fk : FE PyData} {ρ ρ1 ρ2 : Rho} {d x : PyData} {es0 es : List (PyData × PyData)} {k : Key} (h1 : fe ρ = some (d, ρ1)) (h2 : ρ1[i]? = some (.m (.k es0))) (h3 : fk ρ1 = some (x, ρ2)) (h4 : ρ2[i]? = some (.m (.k es))) (h5 : keyOf x = some k) (h6 : es.length < 100000) :
    fPutK i fe fk ρ = some (.nx (ρ2.set i (.m (.k (putE es k d))))) := by
  unfold fPutK
  rw [h1, Option.bind_some]
  dsimp only
  rw [h2]
  dsimp only
  rw [h3, Option.bind_some]
  dsimp only
  rw [h4]
  dsimp only
  rw [h5, Option.bind_some, if_pos h6]
end Tw

set_option Elab.async false
set_option linter.all false
set_option maxRecDepth 100000
set_option maxHeartbeats 2000000
namespace Tw
open PySem PySem.Spec PyProof.Rows L2
open Evl (Ex)
/-! ### xs.index(x); & and >> -/
def indexN (ds : List PyData) (x : PyData) : Option Nat := ds.findIdx? fun y => PyData.eqv y x
def indexD : PyData → PyData → Option PyData
  | .list ds, x => if (atom x && atomsAll ds) = true then (indexN ds x).map fun j => .int (j : Nat) else none
  | _, _ => none
section
variable {X : Cx} {K : PySem.W.Frag} {bb : Bool}
theorem atomsAll_get : ∀ {ds : List PyData} {j : Nat} {d : PyData}, atomsAll ds = true → ds[j]? = some d → atom d = true
  | [], _, _, _, h => by cases h
  | d :: ds, 0, _, h, e => by
    cases e
    exact (Bool.and_eq_true_iff.mp h).1
  | d :: ds, j + 1, _, h, e => atomsAll_get (ds := ds) (j := j) (Bool.and_eq_true_iff.mp h).2 e
theorem e_index {fo fe : FE PyData} {o e : Expr} {apos cpos : Pos} (ho : PE X o (tE X.K bb fo)) (he : PE X e (tE X.K bb fe)) (hbase : attributeBase o "index" X.env (eval o X.env) = eval o X.env := by rfl)
    (hfew : ((backTo cpos (starEach [e] X.env)).all (fun x => !x.1) && (backToKw cpos (keywordEach [] X.env)).all (fun x => x.1.isSome)
      && decide ([e].length + ([] : List Keyword).length + (if ([] : List Keyword).isEmpty then 0 else 1) < 30)) = true := by rfl)
    (hline : (apos.endLine == cpos.line) = true := by rfl) (hs : starEach [e] X.env = (false, eval e X.env) :: starEach [] X.env := by rfl) (hplain : (backTo cpos (starEach [] X.env)).any (·.1) = false := by rfl) :
    PE X (.Call (.Attribute o "index" apos) [e] [] cpos) (tE X.K bb (fBin indexD fo fe)) :=
  PE.weak (pe_bm PySem.F.plainAttrs_list PySem.F.slot_list_index PySem.F.type_list_index mt_index ho (a_cons he a_nil hs) hbase hfew hline hs hplain) fun σ H Q ⟨G, ρ, d, ρ', E, ef, k⟩ => by
    obtain ⟨x, ρ1, h1, h2⟩ := thnE_of ef
    obtain ⟨y, ρ2, h3, h4⟩ := thnE_of h2
    obtain ⟨h5, rfl⟩ := liftO_of h4
    unfold indexD at h5
    split at h5
    case h_2 => cases h5
    rename_i ds
    split at h5
    case isFalse => cases h5
    rename_i ha
    have h6 := h5
    obtain ⟨j, hj, rfl⟩ := Option.map_eq_some_iff.mp h6
    have ha := Bool.and_eq_true_iff.mp ha
    refine ⟨G, ρ, _, ρ1, E, h1, fun v G1 H1 t1 o1 E1 d1 => ?_⟩
    obtain ⟨a, xs, rfl, hx, dx⟩ := dt_list d1
    refine ⟨.inl ⟨rfl, xs, (hx.mono E1.ex).sq⟩, G1, ρ1, [y], ρ', E1, ?_, fun ws G2 H2 t2 o2 E2 d2 => ?_⟩
    · show thnE fe (fun x => thnE fNil fun xs => ret (x :: xs)) ρ1 = _
      unfold thnE
      rw [h3]
      rfl
    obtain ⟨w, rfl, dw⟩ := da_one d2
    have dx2 := dx.mono t2.g
    have hx2 := (hx.mono t2.g).mono E2.ex
    obtain ⟨hlt, hz, hno⟩ := List.findIdx?_eq_some_iff_getElem.mp hj
    obtain ⟨z, hz1, dz⟩ := dx2.get (List.getElem?_eq_getElem hlt)
    have flat : ∀ {m : Nat} {z' : V}, xs[m]? = some z' → ∃ d', ds[m]? = some d' ∧ eqV z' w = PyData.eqv d' y ∧ flatV z' = true ∧ flatV w = true := fun {m z'} e => by
      obtain ⟨d', e1, e2⟩ := dx2.getV e
      obtain ⟨q1, q2, q3⟩ := eqv_atom e2 dw (atomsAll_get ha.2 e1) ha.1
      exact ⟨d', e1, q1, q2, q3⟩
    obtain ⟨d0, e0, q1, q2, q3⟩ := flat hz1
    rw [List.getElem?_eq_getElem hlt] at e0
    cases e0
    refine ⟨a, xs, w, j, z, rfl, rfl, hx2.sq, q3, List.all_eq_true.mpr fun z' hz' => ?_, hz1, by rw [q1]; exact hz, fun m z' hm e => ?_, ?_⟩
    · obtain ⟨m, e⟩ := List.mem_iff_getElem?.mp hz'
      obtain ⟨_, _, _, q, _⟩ := flat e
      exact q
    · obtain ⟨d', e1, q, _, _⟩ := flat e
      have hm' : m < ds.length := by omega
      rw [List.getElem?_eq_getElem hm'] at e1
      cases e1
      rw [q]
      have := hno m hm
      simpa using this
    · exact k _ G2 H2 (t1.trans t2 fun a o q1 q2 => ⟨q2.1, o1 a q2.2⟩) (fun l q => o1 l (o2 l q)) E2 (.ii _)
def andI : PyData → PyData → Option PyData
  | .int i, .int j => some (.int (Builtin.bitAnd i j))
  | _, _ => none
theorem d_andI : OpD K (rI0 fun i j => .int (Builtin.bitAnd i j)) andI := opD_I0 (h := fun i j => .int (Builtin.bitAnd i j)) (fun _ _ _ => .ii _) fun d e z h => by
  unfold andI at h
  split at h
  · exact ⟨_, _, rfl, rfl, (Option.some.inj h).symm⟩
  · cases h
def shrI : PyData → PyData → Option PyData
  | .int i, .int j => if 0 ≤ j then some (.int (i / 2 ^ j.toNat)) else none
  | _, _ => none
theorem d_shrI : OpD K (rI (fun _ j => 0 ≤ j) fun i j => .int (i / 2 ^ j.toNat)) shrI := opD_I (h := fun i j => .int (i / 2 ^ j.toNat)) (fun _ _ _ => .ii _) fun d e z h => by
  unfold shrI at h
  split at h
  · obtain ⟨h1, h2⟩ := ite_p h
    exact ⟨_, _, rfl, rfl, h1, h2⟩
  · cases h
end
end Tw

set_option Elab.async false
set_option linter.all false
set_option maxRecDepth 100000
set_option maxHeartbeats 2000000
namespace Tw
open PySem PySem.Spec PyProof.Rows L2
open Evl (Ex)
/-! ### match of a tuple by rows of names -/
/-- the cases, the subject a tuple of xs -/
structure PM (X : Cx) (cs : List MatchCase) (t : List V → TS) : Prop where
  run : ∀ (pins : List (Addr × Obj)) (s : Shared) (σ : L2.St) (H : Hp) (D : Ends) (a : Addr) (xs : List V) (first : Bool), Inv X pins σ H s → SqT X.K H a xs → t xs D σ H →
    wpAny (model X.prog X.w) X.A (matchCases cs X.env (.ref a) first) (SP X pins D) X.xe s
section
variable {X : Cx} {e : Expr} {cs : List MatchCase} {body : List Stmt} {pos : Pos} {P : List Nat} {bb : Bool} {f : FS} {g : List PyData → FS}
theorem PM.weak {t t' : List V → TS} (h : PM X cs t) (w : ∀ xs D σ H, t' xs D σ H → t xs D σ H) : PM X cs t' := ⟨fun pins s σ H D a xs first I hq q => h.run pins s σ H D a xs first I hq (w xs D σ H q)⟩
theorem pm_nil : PM X [] (fun _ => tNext) := ⟨fun _ _ σ H _ _ _ _ I _ h => wpAny_matchCases_nil ⟨σ, H, I, h⟩⟩
def tCase (n : Nat) (tg : TGs) (t : TS) (u : List V → TS) : List V → TS := fun xs D σ H => if xs.length = n then tg xs σ H (fun σ' H' => t D σ' H') else u xs D σ H
theorem pm_one {x : Str} {i : Nat} {px pp : Pos} {t : TS} {u : List V → TS} (hc : X.calm = true) (hN : X.N.Nodup) (hi : X.N[i]? = some x) (hx : Loc X.env.scope x) (hb : PSs X body t) (hr : PM X cs u)
    (hf : X.fn x = true ∨ X.env.scope.names.lookup x = some .local := by first | exact .inl rfl | exact .inr rfl | assumption) :
    PM X (⟨.MatchSequence [.MatchAs none (some x) px] pp, none, body⟩ :: cs) (tCase 1 (gCons (gName i) gNil) t u) := by
  refine ⟨fun pins s σ H D a xs first I hq h => ?_⟩
  obtain ⟨its, rv, ht, hz⟩ := I.tuple hq
  have hsz : sizeLine < 2 ^ 62 := by decide
  have hl := rv.length
  refine wpAny_matchCases_cons ?_
  unfold tCase at h
  by_cases hn : xs.length = 1
  · rw [if_pos hn] at h
    refine matchSeq_tuple_hit ht (by simp only [List.size_toArray]; omega) (by simp only [List.size_toArray, List.length_cons, List.length_nil]; omega) ?_
    have I1 := I.tok (s.toks + 1 + 1)
    have e1 : [Pattern.MatchAs none (some x) px].length = its.toArray.size := by simp only [List.size_toArray, List.length_cons, List.length_nil]; omega
    rw [e1]
    refine unpackItems_tuple (I.ok.hd hc) (by obtain ⟨z1, z2, z3⟩ := ht; exact ⟨z1, z2, z3⟩) fun h' hx' => ?_
    have I2 := I1.kept (h' := h') (t' := s.toks + 1 + 1) fun b o e => hx' b o (Nat.ne_of_lt (Heap.lt_size e)) e
    obtain ⟨v, r, ev, h, eh⟩ := h
    subst h
    subst ev
    cases rv with
    | cons r1 rr =>
      cases rr
      refine wpAny_matchEach_cons (wpAny_matchPattern_Capture ?_) rfl
      refine wpAny_matchEach_nil ?_
      refine assignInOrder_cons (wpAny_bindName (store_ok I2 hN hi hx r1 (fun s2 I3 => assignInOrder_nil ?_) hf))
      exact hb.run pins s2 _ H D I3 eh
  · rw [if_neg hn] at h
    refine matchSeq_tuple_miss ht (by simp only [List.size_toArray]; omega) (by simp only [List.size_toArray, List.length_cons, List.length_nil]; omega) ?_
    exact hr.run pins _ σ H D a xs false (I.tok _) hq h
theorem pm_two {x y : Str} {i j : Nat} {px py pp : Pos} {t : TS} {u : List V → TS} (hc : X.calm = true) (hN : X.N.Nodup) (hi : X.N[i]? = some x) (hj : X.N[j]? = some y) (hx : Loc X.env.scope x) (hy : Loc X.env.scope y) (hb : PSs X body t) (hr : PM X cs u)
    (hf : X.fn x = true ∨ X.env.scope.names.lookup x = some .local := by first | exact .inl rfl | exact .inr rfl | assumption) (hg : X.fn y = true ∨ X.env.scope.names.lookup y = some .local := by first | exact .inl rfl | exact .inr rfl | assumption) :
    PM X (⟨.MatchSequence [.MatchAs none (some x) px, .MatchAs none (some y) py] pp, none, body⟩ :: cs) (tCase 2 (gCons (gName i) (gCons (gName j) gNil)) t u) := by
  refine ⟨fun pins s σ H D a xs first I hq h => ?_⟩
  obtain ⟨its, rv, ht, hz⟩ := I.tuple hq
  have hsz : sizeLine < 2 ^ 62 := by decide
  have hl := rv.length
  refine wpAny_matchCases_cons ?_
  unfold tCase at h
  by_cases hn : xs.length = 2
  · rw [if_pos hn] at h
    refine matchSeq_tuple_hit ht (by simp only [List.size_toArray]; omega) (by simp only [List.size_toArray, List.length_cons, List.length_nil]; omega) ?_
    have I1 := I.tok (s.toks + 1 + 1)
    have e1 : [Pattern.MatchAs none (some x) px, Pattern.MatchAs none (some y) py].length = its.toArray.size := by simp only [List.size_toArray, List.length_cons, List.length_nil]; omega
    rw [e1]
    refine unpackItems_tuple (I.ok.hd hc) (by obtain ⟨z1, z2, z3⟩ := ht; exact ⟨z1, z2, z3⟩) fun h' hx' => ?_
    have I2 := I1.kept (h' := h') (t' := s.toks + 1 + 1) fun b o e => hx' b o (Nat.ne_of_lt (Heap.lt_size e)) e
    obtain ⟨v, r, ev, v2, r2, ev2, h3⟩ := h
    obtain ⟨ev3, h⟩ := h3
    subst ev3; subst ev2; subst ev
    cases rv with
    | cons r1 rr =>
      cases rr with
      | cons r2 rr =>
      cases rr
      refine wpAny_matchEach_cons (wpAny_matchPattern_Capture ?_) rfl
      refine wpAny_matchEach_cons (wpAny_matchPattern_Capture ?_) rfl
      refine wpAny_matchEach_nil ?_
      refine assignInOrder_cons (wpAny_bindName (store_ok I2 hN hi hx r1 (fun s2 I3 => ?_) hf))
      refine assignInOrder_cons (wpAny_bindName (store_ok I3 hN hj hy r2 (fun s3 I4 => assignInOrder_nil ?_) hg))
      exact hb.run pins s3 _ H D I4 h
  · rw [if_neg hn] at h
    refine matchSeq_tuple_miss ht (by simp only [List.size_toArray]; omega) (by simp only [List.size_toArray, List.length_cons, List.length_nil]; omega) ?_
    exact hr.run pins _ σ H D a xs false (I.tok _) hq h
theorem ps_match {te : TE} {u : List V → TS} (he : PE X e te) (hm : PM X cs u) : PS X (.Match e cs pos) (fun D σ H => te σ H fun x H1 => ∃ a xs, x = .ref a ∧ SqT X.K H1 a xs ∧ u xs D σ H1) := by
  refine ⟨fun pins s σ H D I h => ?_⟩
  refine wpAny_Match (thn (he.run pins s σ H _ I h) fun v s1 ⟨x, H1, I1, r1, a, xs, ex, hq, q⟩ => ?_)
  subst ex
  cases r1
  exact hm.run pins s1 σ H1 D a xs true I1 hq q
/-! as denotations -/
def tM (K : PySem.W.Frag) (P : List Nat) (f : List PyData → FS) : List V → TS := fun xs D σ H => ∃ (G : Hp) (ρ : Rho) (ds : List PyData) (o : Out), EnvOk K G H σ ρ ∧ Da K G xs ds ∧ f ds ρ = some o ∧ Kont K P G H σ ρ D o
def mEnd : List PyData → FS := fun _ => fNext
def mCase (is : List Nat) (f : FS) (g : List PyData → FS) : List PyData → FS := fun ds ρ => if ds.length = is.length then (gSeq (is.map gNm) ds ρ).bind f else g ds ρ
def fMat (fe : FE PyData) (g : List PyData → FS) : FS := fun ρ => (fe ρ).bind fun p => match p.1 with
  | .tuple ds => g ds p.2
  | _ => none
theorem m_nil : PM X [] (tM X.K P mEnd) := PM.weak pm_nil fun xs D σ H ⟨G, ρ, ds, o, E, dx, ef, k⟩ => by
  cases ef
  exact k σ G H .refl E
theorem m_one {x : Str} {i : Nat} {px pp : Pos} (hp : i ∉ P) (hc : X.calm = true) (hN : X.N.Nodup) (hi : X.N[i]? = some x) (hx : Loc X.env.scope x) (hb : PSs X body (tS X.K P f)) (hr : PM X cs (tM X.K P g))
    (hf : X.fn x = true ∨ X.env.scope.names.lookup x = some .local := by first | exact .inl rfl | exact .inr rfl) :
    PM X (⟨.MatchSequence [.MatchAs none (some x) px] pp, none, body⟩ :: cs) (tM X.K P (mCase [i] f g)) := PM.weak (pm_one hc hN hi hx hb hr hf) fun xs D σ H ⟨G, ρ, ds, o, E, dx, ef, k⟩ => by
  unfold tCase
  unfold mCase at ef
  have hl := dx.len
  change (if ds.length = 1 then _ else _) = _ at ef
  by_cases hn : ds.length = 1
  · rw [if_pos hn] at ef
    rw [if_pos (hl.trans hn)]
    match ds, hn with
    | [d], _ =>
    obtain ⟨ρ1, q1, q2⟩ := Option.bind_eq_some_iff.mp ef
    obtain ⟨ρ2, q3, q4⟩ := Option.bind_eq_some_iff.mp (show (gNm i d ρ).bind _ = some ρ1 from q1)
    cases q4
    obtain ⟨hi', rfl⟩ := ite_p q3
    obtain ⟨v, rfl, dv⟩ := da_one dx
    refine ⟨v, [], rfl, rfl, G, _, o, E.set hi' dv, q2, k.pre ⟨.refl, fun l q => .inl (own_set q), fun j hj => List.getElem?_set_ne fun z => hp (by rw [z]; exact hj)⟩⟩
  · rw [if_neg hn] at ef
    rw [if_neg (by rw [hl]; exact hn)]
    exact ⟨G, ρ, ds, o, E, dx, ef, k⟩
theorem m_two {x y : Str} {i j : Nat} {px py pp : Pos} (hp : i ∉ P) (hp2 : j ∉ P) (hc : X.calm = true) (hN : X.N.Nodup) (hi : X.N[i]? = some x) (hj : X.N[j]? = some y) (hx : Loc X.env.scope x) (hy : Loc X.env.scope y) (hb : PSs X body (tS X.K P f)) (hr : PM X cs (tM X.K P g))
    (hf : X.fn x = true ∨ X.env.scope.names.lookup x = some .local := by first | exact .inl rfl | exact .inr rfl) (hg : X.fn y = true ∨ X.env.scope.names.lookup y = some .local := by first | exact .inl rfl | exact .inr rfl) :
    PM X (⟨.MatchSequence [.MatchAs none (some x) px, .MatchAs none (some y) py] pp, none, body⟩ :: cs) (tM X.K P (mCase [i, j] f g)) := PM.weak (pm_two hc hN hi hj hx hy hb hr hf hg) fun xs D σ H ⟨G, ρ, ds, o, E, dx, ef, k⟩ => by
  unfold tCase
  unfold mCase at ef
  have hl := dx.len
  change (if ds.length = 2 then _ else _) = _ at ef
  by_cases hn : ds.length = 2
  · rw [if_pos hn] at ef
    rw [if_pos (hl.trans hn)]
    match ds, hn with
    | [d, d2], _ =>
    obtain ⟨ρ1, q1, q2⟩ := Option.bind_eq_some_iff.mp ef
    obtain ⟨ρ2, q3, q4⟩ := Option.bind_eq_some_iff.mp (show (gNm i d ρ).bind _ = some ρ1 from q1)
    obtain ⟨ρ3, q5, q6⟩ := Option.bind_eq_some_iff.mp (show (gNm j d2 ρ2).bind _ = some ρ1 from q4)
    cases q6
    obtain ⟨hi', rfl⟩ := ite_p q3
    obtain ⟨hj', rfl⟩ := ite_p q5
    cases dx with
    | cons dv dt =>
      obtain ⟨v2, rfl, dv2⟩ := da_one dt
      have E1 := E.set hi' dv
      have E2 := E1.set hj' dv2
      refine ⟨_, _, rfl, _, _, rfl, rfl, G, _, o, E2, q2, k.pre ((Stp.trans (⟨.refl, fun l q => .inl (own_set q), fun j hj => List.getElem?_set_ne fun z => hp (by rw [z]; exact hj)⟩) ⟨.refl, fun l q => .inl (own_set q), fun j hj => List.getElem?_set_ne fun z => hp2 (by rw [z]; exact hj)⟩))⟩
  · rw [if_neg hn] at ef
    rw [if_neg (by rw [hl]; exact hn)]
    exact ⟨G, ρ, ds, o, E, dx, ef, k⟩
theorem s_match (he : PE X e (tE X.K bb fe)) (hm : PM X cs (tM X.K P g)) : PS X (.Match e cs pos) (tS X.K P (fMat fe g)) := PS.weak (ps_match he hm) fun D σ H ⟨G, ρ, o, E, ef, k⟩ => by
  obtain ⟨⟨d, ρ1⟩, h1, h2⟩ := Option.bind_eq_some_iff.mp ef
  cases d with
  | tuple ds =>
    refine ⟨G, ρ, _, ρ1, E, h1, fun v G1 H1 t1 o1 E1 d1 => ?_⟩
    obtain ⟨a, xs, rfl, hx, dx⟩ := dt_tup d1
    exact ⟨a, xs, rfl, Evl.ex_t E1.ex hx, G1, ρ1, ds, o, E1, dx, h2, k.pre (.of t1 o1)⟩
  | _ => cases h2
end
/-! ### all, any of anything plain -/
def smpl : PyData → Bool
  | .none => true
  | .bool _ => true
  | .int _ => true
  | _ => false
theorem smpl_plain : ∀ {ds : List PyData}, ds.all smpl = true → PyData.plainAll ds = true ∧ ∀ x ∈ ds, x.fits63
  | [], _ => ⟨rfl, fun _ h => nomatch h⟩
  | d :: ds, h => by
    rw [List.all_cons, Bool.and_eq_true] at h
    obtain ⟨a, b⟩ := smpl_plain h.2
    have q : d.plain = true ∧ d.fits63 := by
      cases d <;> first | exact ⟨rfl, trivial⟩ | (cases h.1; done)
    refine ⟨by rw [PyData.plainAll, q.1, a]; rfl, fun x hx => ?_⟩
    rcases List.mem_cons.mp hx with rfl | hx
    · exact q.2
    · exact b x hx
def allV : List PyData → Option PyData
  | [.list ds] => if ds.all smpl = true then some (.bool (ds.all PyData.truthy)) else none
  | [.tuple ds] => if ds.all smpl = true then some (.bool (ds.all PyData.truthy)) else none
  | _ => none
def anyV : List PyData → Option PyData
  | [.list ds] => if ds.all smpl = true then some (.bool (ds.any PyData.truthy)) else none
  | [.tuple ds] => if ds.all smpl = true then some (.bool (ds.any PyData.truthy)) else none
  | _ => none
section
variable {X : Cx} {K : PySem.W.Frag}
def rTruV (K : PySem.W.Frag) (tr : List PyData → Bool) : List V → Hp → VK → Prop := fun vs H Q => ∃ (a : Addr) (xs : List V) (ds : List PyData), vs = [V.ref a] ∧ (SqL K H a xs ∨ SqT K H a xs) ∧ Da K H xs ds ∧ ds.all smpl = true ∧ Q (.bl (tr ds)) H
theorem call_allV (hc : X.calm = true) : CallR X (.builtin "all") (rTruV X.K fun ds => ds.all PyData.truthy) := fun pins s σ H vs us Q I r ⟨a, xs, ds, ev, hs, dx, sm, q⟩ => by
  subst ev
  rw [Vals.ref1 r]
  obtain ⟨p1, p2⟩ := smpl_plain sm
  have fin : ∀ h' tk, (∀ b o, s.heap.get? b = some o → h'.get? b = some o) → EP X pins σ Q (.bool (ds.all PyData.truthy)) { s with heap := h', toks := tk } := fun h' tk hk => ⟨.bl _, H, I.kept hk, rfl, q⟩
  rcases hs with hs | hs
  · obtain ⟨its, rv, hl, _⟩ := I.list hs
    obtain ⟨as, hr⟩ := Da.reads I dx rv
    exact PySem.W.all_list_data (I.ok.hd hc) hl.isList hr p1 p2 fin
  · obtain ⟨its, rv, hl, _⟩ := I.tuple hs
    obtain ⟨as, hr⟩ := Da.reads I dx rv
    exact PySem.W.all_tuple_data (I.ok.hd hc) hl hr p1 p2 fin
theorem call_anyV (hc : X.calm = true) : CallR X (.builtin "any") (rTruV X.K fun ds => ds.any PyData.truthy) := fun pins s σ H vs us Q I r ⟨a, xs, ds, ev, hs, dx, sm, q⟩ => by
  subst ev
  rw [Vals.ref1 r]
  obtain ⟨p1, p2⟩ := smpl_plain sm
  have fin : ∀ h' tk, (∀ b o, s.heap.get? b = some o → h'.get? b = some o) → EP X pins σ Q (.bool (ds.any PyData.truthy)) { s with heap := h', toks := tk } := fun h' tk hk => ⟨.bl _, H, I.kept hk, rfl, q⟩
  rcases hs with hs | hs
  · obtain ⟨its, rv, hl, _⟩ := I.list hs
    obtain ⟨as, hr⟩ := Da.reads I dx rv
    exact PySem.W.any_list_data (I.ok.hd hc) hl.isList hr p1 p2 fin
  · obtain ⟨its, rv, hl, _⟩ := I.tuple hs
    obtain ⟨as, hr⟩ := Da.reads I dx rv
    exact PySem.W.any_tuple_data (I.ok.hd hc) hl hr p1 p2 fin
theorem d_truV {tr : List PyData → Bool} {g : List PyData → Option PyData} (hg : ∀ ds z, g ds = some z → ∃ es, (ds = [.list es] ∨ ds = [.tuple es]) ∧ es.all smpl = true ∧ z = .bool (tr es)) : CallD K (rTruV K tr) g := fun G H xs ds z Q ex hd hz k => by
  obtain ⟨es, h | h, sm, rfl⟩ := hg ds z hz
  · subst h
    obtain ⟨v, rfl, h⟩ := da_one hd
    obtain ⟨a, ys, rfl, hy, dy⟩ := dt_list h
    exact ⟨a, ys, es, rfl, .inl (hy.mono ex).sq, dy.mono ex, sm, k _ G H .refl ex (.bb _)⟩
  · subst h
    obtain ⟨v, rfl, h⟩ := da_one hd
    obtain ⟨a, ys, rfl, hy, dy⟩ := dt_tup h
    exact ⟨a, ys, es, rfl, .inr (Evl.ex_t ex hy), dy.mono ex, sm, k _ G H .refl ex (.bb _)⟩
theorem d_allV : CallD K (rTruV K fun ds => ds.all PyData.truthy) allV := d_truV fun ds z h => by
  unfold allV at h
  split at h
  · obtain ⟨a, b⟩ := ite_p h
    exact ⟨_, .inl rfl, a, b⟩
  · obtain ⟨a, b⟩ := ite_p h
    exact ⟨_, .inr rfl, a, b⟩
  · cases h
theorem d_anyV : CallD K (rTruV K fun ds => ds.any PyData.truthy) anyV := d_truV fun ds z h => by
  unfold anyV at h
  split at h
  · obtain ⟨a, b⟩ := ite_p h
    exact ⟨_, .inl rfl, a, b⟩
  · obtain ⟨a, b⟩ := ite_p h
    exact ⟨_, .inr rfl, a, b⟩
  · cases h
end
end Tw

set_option Elab.async false
set_option linter.all false
set_option maxRecDepth 100000
set_option maxHeartbeats 2000000
namespace Tw
open PySem PySem.Spec PyProof.Rows L2
open Evl (Ex)
/-! ### a def whose second argument is a list that it may change -/
def spM1 (K : PySem.W.Frag) (n : Nat) (g : List PyData → List PyData → Option (PyData × List PyData)) : Sp := fun vs H Q _ => ∃ (G : Hp) (v0 : V) (d0 : PyData) (l : Addr) (xs ws : List V) (ms ds : List PyData) (d : PyData) (ms' : List PyData), vs = v0 :: .ref l :: ws ∧ Ex G H ∧ G l = none ∧
  H l = some (.lst xs) ∧ Da K G xs ms ∧ Dt K G v0 d0 ∧ Da K G ws ds ∧ ds.length + 1 = n ∧ g ms (d0 :: ds) = some (d, ms') ∧
  ∀ v G' H' xs', Tr (fun a => a = l) G H G' H' → Ex G' H' → G' l = none → H' l = some (.lst xs') → Da K G' xs' ms' → Dt K G' v d → Q v H'
def outM1 : Option Out → Option (PyData × List PyData)
  | some (.rt d (_ :: .m (.l ms) :: _)) => some (d, ms)
  | some (.nx (_ :: .m (.l ms) :: _)) => some (.none, ms)
  | _ => none
def runM1 (m : Nat) (fb : FS) (ms : List PyData) : List PyData → Option (PyData × List PyData)
  | d0 :: ds => outM1 (fb (.d d0 :: .m ms :: (ds.map Sl.d ++ List.replicate (m - (ds.length + 2)) Sl.un)))
  | [] => none
theorem fn_M1 {Pr : Program} {w : World} {K : PySem.W.Frag} {mg : Str → Option Value} {base : Heap} {x qual : Str} {st : Stmt} {f : Addr} {fd : FuncData} {N ps : List Str} {k : Nat} (F : Fun K x qual st f fd) (S : FnScope N ps (defScope st)) {fb : FS} (hps : 1 < ps.length)
    (body : ∀ (cdv : Value) (A : Around) (outer : List Env) (s : Shared) (H : Hp), Here k (bx Pr w K mg base N qual st f cdv A outer s H) → PSs (bx Pr w K mg base N qual st f cdv A outer s H) (defBody st) (tS K [1] fb)) : FnG Pr w K mg base (k + 1) f fd ps (spM1 K (ps.length - 1) (runM1 N.length fb)) :=
  fn_G F S (fun vs H Q E ⟨G, v0, d0, l, xs, ws, ms, ds, d, ms', ev, ex, hG, hH, da, d0t, db, hl, _⟩ => by rw [ev, List.length_cons, List.length_cons, db.len]; omega) fun cdv A outer s H hh vs Q ⟨G, v0, d0, l, xs, ws, ms, ds, d, ms', ev, ex, hG, hH, da, d0t, db, hl, hg, k⟩ => by
    refine ⟨_, body cdv A outer s H hh, ?_⟩
    unfold runM1 at hg
    have e1 : L2.start N vs = some v0 :: some (.ref l) :: (ws.map some ++ List.replicate (N.length - (ds.length + 2)) none) := by unfold L2.start; rw [ev, List.length_cons, List.length_cons, db.len]; rfl
    rw [e1]
    have hm : noM (ds.map Sl.d ++ List.replicate (N.length - (ds.length + 2)) Sl.un) := noM_args noM_un ds
    have E : EnvOk K G H (some v0 :: some (.ref l) :: (ws.map some ++ List.replicate (N.length - (ds.length + 2)) none)) (.d d0 :: .m ms :: (ds.map Sl.d ++ List.replicate (N.length - (ds.length + 2)) Sl.un)) := env_cons (env_m (env_args (env_un ex) db) hm hG hH da) d0t
    have ow : ∀ a, own (some v0 :: some (.ref l) :: (ws.map some ++ List.replicate (N.length - (ds.length + 2)) none)) (.d d0 :: .m ms :: (ds.map Sl.d ++ List.replicate (N.length - (ds.length + 2)) Sl.un)) a → a = l := fun a ⟨i, es, q1, q2⟩ => by
      cases i with
      | zero => cases q1
      | succ i =>
        cases i with
        | zero => cases q2; rfl
        | succ i => exact (hm i es q1).elim
    cases ho : fb (.d d0 :: .m ms :: (ds.map Sl.d ++ List.replicate (N.length - (ds.length + 2)) Sl.un)) with
    | none => dsimp only at hg; rw [ho] at hg; cases hg
    | some o =>
      dsimp only at hg
      rw [ho] at hg
      refine ⟨G, _, o, E, ho, ?_⟩
      have at0 : ∀ {σ' : L2.St} {G' H' : Hp} {z : Sl} {ρ' : Rho} {ms'' : List PyData}, Stp [1] G H (some v0 :: some (.ref l) :: (ws.map some ++ List.replicate (N.length - (ds.length + 2)) none)) (.d d0 :: .m ms :: (ds.map Sl.d ++ List.replicate (N.length - (ds.length + 2)) Sl.un)) G' H' σ' (z :: .m ms'' :: ρ') →
          EnvOk K G' H' σ' (z :: .m ms'' :: ρ') → G' l = none ∧ ∃ xs', H' l = some (.lst xs') ∧ Da K G' xs' ms'' := fun {σ' G' H' z ρ' ms''} s' E' => by
        obtain ⟨l', xs', q1, q2, q3, q4⟩ := E'.muL (i := 1) (ds := ms'') rfl
        rw [s'.p 1 (List.mem_singleton.mpr rfl)] at q1
        cases q1
        exact ⟨q2, xs', q3, q4⟩
      cases o with
      | rt e r =>
        match r, hg with
        | z :: .m (.l ms'') :: r, hg =>
          cases hg
          exact fun v σ' G' H' s' E' dv => by
            obtain ⟨q2, xs', q3, q4⟩ := at0 s' E'
            exact k v G' H' xs' (s'.t.wide fun a _ _ q => ow a q) E'.ex q2 q3 q4 dv
      | rf ds' r => cases hg
      | nx r =>
        match r, hg with
        | z :: .m (.l ms'') :: r, hg =>
          cases hg
          exact fun σ' G' H' s' E' => by
            obtain ⟨q2, xs', q3, q4⟩ := at0 s' E'
            exact k .non G' H' xs' (s'.t.wide fun a _ _ q => ow a q) E'.ex q2 q3 q4 .nn
      | bk r => cases hg
      | ct r => cases hg
section
variable {X : Cx} {k : Nat} {f : Addr} {fd : FuncData} {ps : List Str} {x : Str} {p pos : Pos} {e0 e : Expr} {es : List Expr} {bb : Bool} {n : Nat}
def fCallM1 (n : Nat) (g : List PyData → List PyData → Option (PyData × List PyData)) (i : Nat) (fa : FE PyData) (ra : FE (List PyData)) : FE PyData := fun ρ => match ρ[i]? with
  | some (.m (.l _)) => thnE fa (fun d0 => thnE ra fun ds ρ1 => if ds.length + 1 = n then match ρ1[i]? with
    | some (.m (.l ms)) => (g ms (d0 :: ds)).map fun p => (p.1, ρ1.set i (.m (.l p.2)))
    | _ => none
    else none) ρ
  | _ => none
theorem e_callM1 {g : List PyData → List PyData → Option (PyData × List PyData)} {fa : FE PyData} {ra : FE (List PyData)} (i : Nat) (F : FnG X.prog X.w X.K X.mg X.base k f fd ps (spM1 X.K n g)) (hh : Here k X) (hg : Gl X x) (hm : X.mg x = some (.ref f)) (hk : PySem.W.keepIn X.K (.ref f) = true) (hb : Binds X.K fd ps [])
    (ha0 : PE X e0 (tE X.K true fa)) (h0 : PE X e (tVar i)) (ha : PA X es (tA X.K true ra)) (hdb : (x == ("__debug__" : Str)) = false := by decide) (he : starEach (e0 :: e :: es) X.env = (false, eval e0 X.env) :: starEach (e :: es) X.env := by rfl) (he2 : starEach (e :: es) X.env = (false, eval e X.env) :: starEach es X.env := by rfl) (hpl : (backTo pos (starEach (e :: es) X.env)).any (·.1) = false := by rfl) :
    PE X (.Call (.Name x p) (e0 :: e :: es) [] pos) (tE X.K true (fCallM1 n g i fa ra)) := PE.weak (call_G F hh hg hm hk hb (pa_cons ha0 (pa_cons h0 ha he2) he) hdb he hpl) fun σ H Q ⟨G, ρ, d, ρ', E, ef, kk⟩ => by
  unfold fCallM1 at ef
  split at ef
  case h_2 => cases ef
  rename_i ms0 hi0
  obtain ⟨d0, ρ0, h00, ef⟩ := thnE_of ef
  obtain ⟨ds, ρ1, h1, h2⟩ := thnE_of ef
  split at h2
  case isFalse => cases h2
  rename_i hl
  split at h2
  case h_2 => cases h2
  rename_i ms hi
  obtain ⟨⟨z, ms'⟩, h3, h4⟩ := Option.map_eq_some_iff.mp h2
  cases h4
  obtain ⟨l, _, hσ, _, _, _⟩ := E.muL hi0
  refine ⟨G, ρ, d0, ρ0, E, h00, fun v0 G0 H0 t0 o0 E0 dv0 => ⟨.ref l, hσ, G0, ρ0, ds, ρ1, E0, h1, fun ws G1 H1 t1 o1 E1 d1 => ?_⟩⟩
  obtain ⟨l2, xs, hσ2, hG, hH, dx⟩ := E1.muL hi
  rw [hσ] at hσ2
  cases hσ2
  refine ⟨G1, v0, d0, l, xs, ws, ms, ds, _, ms', rfl, E1.ex, hG, hH, dx, dv0.mono t1.g, d1, hl, h3, fun v G2 H2 xs' t2 ex2 hG2 hH2 dx2 dv => ?_⟩
  have own1 : own σ ρ1 l := ⟨i, _, hi, hσ⟩
  exact kk v G2 H2 ((t0.seq o0 t1).trans t2 fun a _ _ q => ⟨rfl, by rw [q]; exact o0 l (o1 l own1)⟩) (fun l' q => o0 l' (o1 l' (own_setM hi q))) (env_setM E1 hi hσ t2 ex2 hG2 hH2 (.l dx2)) dv
end
/-! ### a module's text -/
section
variable {X : Cx} {bb : Bool} {pos : Pos}
theorem e_globS {x : Str} {z : Str} (hg : Gl X x) (hm : ∃ t, X.mg x = some (.str z t)) (hd : (x == ("__debug__" : Str)) = false := by decide) : PE X (.Name x pos) (tE X.K bb (ret (.str z))) := by
  obtain ⟨t, hm⟩ := hm
  exact PE.weak (pe_glob (v := .str z) hg hm ⟨t, rfl⟩ hd) fun σ H Q ⟨G, ρ, d, ρ', E, ef, k⟩ => by
    cases ef
    exact k _ G H .refl (fun _ q => q) E (.ss _)
end
/-! ### range of three -/
def upsC (lo c : Int) (n : Nat) : List PyData := (List.range n).map fun i => .int (lo + (i : Nat) * c)
def rng3 : List PyData → Option (List PyData)
  | [.int i, .int j, .int c] => if (c ≠ 0 ∧ c.natAbs < 1073741824) ∧ Builtin.Range.small i j c = true then some (upsC i c (Builtin.Range.rangeSize i j c).toNat) else none
  | _ => none
section
variable {X : Cx} {tg : Expr} {bb : Bool} {pos p : Pos}
theorem walk_rc {K : PySem.W.Frag} {G : Hp} (lo c : Int) (n : Nat) : WalkD K G (Itc lo c n) (upsC lo c n) where
  go := fun i H hi ex => by unfold upsC at hi; rw [List.length_map, List.length_range] at hi; exact hi
  stop := fun H ex => by unfold upsC; rw [List.length_map, List.length_range]; exact Nat.le_refl _
  yld := fun i H x H' y hy ex q G2 e1 e2 => by
    obtain ⟨rfl, rfl⟩ := q
    unfold upsC at hy
    rw [List.getElem?_map] at hy
    cases hr : (List.range n)[i]? with
    | none => rw [hr] at hy; cases hy
    | some j =>
      rw [hr] at hy
      obtain ⟨hj, ej⟩ := List.getElem?_eq_some_iff.mp hr
      rw [List.getElem_range] at ej
      cases ej
      cases hy
      exact ⟨G2, .refl, e2, .ii _⟩
theorem rsize_nat (i j c : Int) (hc : c ≠ 0) : Builtin.Range.rangeSize i j c = (((Builtin.Range.rangeSize i j c).toNat : Nat) : Int) := by
  have : 0 ≤ Builtin.Range.rangeSize i j c := by
    unfold Builtin.Range.rangeSize
    split
    · split
      · have := Int.ediv_nonneg (a := j - i - 1) (b := c) (by omega) (by omega)
        omega
      · exact Int.le_refl _
    · split
      · have := Int.ediv_nonneg (a := i - j - 1) (b := -c) (by omega) (by omega)
        omega
      · exact Int.le_refl _
  exact (Int.toNat_of_nonneg this).symm
theorem i_rng3 {a b c : Expr} {ra : FE (List PyData)} (hg : Gl X "range") (hm : X.mg "range" = none) (ha : PA X [a, b, c] (tA X.K bb ra))
    (hs : starEach [a, b, c] X.env = (false, eval a X.env) :: starEach [b, c] X.env := by rfl) (hpl : (backTo pos (starEach [b, c] X.env)).any (·.1) = false := by rfl) :
    PI X tg (.Call (.Name "range" p) [a, b, c] [] pos) (tI X.K bb (fRng rng3 ra)) := PI.weak (pi_range3 hg hm ha hs hpl) fun σ H R ⟨G, ρ, ds, ρ', E, ef, k⟩ => by
  obtain ⟨x, ρ1, h1, h2⟩ := thnE_of ef
  obtain ⟨h3, rfl⟩ := liftO_of h2
  refine ⟨G, ρ, x, ρ', E, h1, fun v G1 H1 t1 o1 E1 d1 => ?_⟩
  unfold rng3 at h3
  split at h3
  · rename_i i j c
    obtain ⟨hb, rfl⟩ := ite_p h3
    cases d1 with
    | cons dv d1 =>
    obtain ⟨v1, v2, rfl, d2, d3⟩ := da_two d1
    exact ⟨i, j, c, _, by rw [dt_int dv, dt_int d2, dt_int d3], ⟨hb.1.1, hb.1.2, hb.2, rsize_nat i j c hb.1.1⟩, k _ G1 H1 t1 o1 E1 (walk_rc _ _ _)⟩
  · cases h3
end
/-! ### min, max of a row of numbers -/
def extV (f : Int → Int → Int) : List PyData → Option PyData
  | [.list (.int n :: ds)] => (intsOf ds).map fun ns => .int (ns.foldl f n)
  | [.tuple (.int n :: ds)] => (intsOf ds).map fun ns => .int (ns.foldl f n)
  | _ => none
def rExtV (K : PySem.W.Frag) (f : Int → Int → Int) : List V → Hp → VK → Prop := fun vs H Q => ∃ (a : Addr) (n : Int) (ns : List Int), vs = [V.ref a] ∧ (SqL K H a ((n :: ns).map V.int) ∨ SqT K H a ((n :: ns).map V.int)) ∧ Q (.int (ns.foldl f n)) H
theorem ints_alike : ∀ ns : List Int, PySem.W.AlikeAll (ns.map PyData.int) := fun ns =>
  ⟨fun x hx y hy => by
    obtain ⟨i, _, rfl⟩ := List.mem_map.mp hx
    obtain ⟨j, _, rfl⟩ := List.mem_map.mp hy
    rfl, fun x hx => by
    obtain ⟨i, _, rfl⟩ := List.mem_map.mp hx
    exact fun z => nomatch z⟩
theorem ints_depth : ∀ ns : List Int, PyData.depthAll (ns.map PyData.int) = 0
  | [] => rfl
  | n :: ns => by
    rw [List.map_cons]
    show max (PyData.depth (.int n)) (PyData.depthAll (ns.map PyData.int)) = 0
    rw [ints_depth ns]
    rfl
section
variable {X : Cx} {K : PySem.W.Frag}
theorem ext_fin {pins : List (Addr × Obj)} {σ : L2.St} {H : Hp} {s : Shared} {Q : VK} (I : Inv X pins σ H s) {m : Int} (q : Q (.int m) H) : ∀ {v : Value} {h' : Heap} {tk : Nat} {bs : List Addr}, Reads h' v (.int m) bs → (∀ b o, s.heap.get? b = some o → h'.get? b = some o) → EP X pins σ Q v { s with heap := h', toks := tk } := fun {v h' tk bs} r hk => by
  cases r with
  | int i t => exact ⟨.int _, H, I.kept hk, ⟨t, rfl⟩, q⟩
theorem call_minV (hc : X.calm = true) (hu : X.A.units + 64 < cLine) : CallR X (.builtin "min") (rExtV X.K min) := fun pins s σ H vs us Q I r ⟨a, n, ns, ev, hs, q⟩ => by
  subst ev
  rw [Vals.ref1 r]
  have al := ints_alike (n :: ns)
  have dp := ints_depth (n :: ns)
  rw [List.map_cons] at al dp
  rcases hs with hs | hs
  · obtain ⟨its, rv, hl, _⟩ := I.list hs
    obtain ⟨as, hr⟩ := Da.reads (H := H) I (Da.ints (n :: ns)) rv
    exact PySem.W.min_list_data (I.ok.hd hc) hl.isList hr al (by rw [dp]; omega) fun i v h' tk bs hv r hk => by
      rw [PySem.W.minD_ints] at r
      exact ext_fin I q r hk
  · obtain ⟨its, rv, hl, _⟩ := I.tuple hs
    obtain ⟨as, hr⟩ := Da.reads (H := H) I (Da.ints (n :: ns)) rv
    exact PySem.W.min_tuple_data (I.ok.hd hc) hl hr al (by rw [dp]; omega) fun i v h' tk bs hv r hk => by
      rw [PySem.W.minD_ints] at r
      exact ext_fin I q r hk
theorem call_maxV (hc : X.calm = true) (hu : X.A.units + 64 < cLine) : CallR X (.builtin "max") (rExtV X.K max) := fun pins s σ H vs us Q I r ⟨a, n, ns, ev, hs, q⟩ => by
  subst ev
  rw [Vals.ref1 r]
  have al := ints_alike (n :: ns)
  have dp := ints_depth (n :: ns)
  rw [List.map_cons] at al dp
  rcases hs with hs | hs
  · obtain ⟨its, rv, hl, _⟩ := I.list hs
    obtain ⟨as, hr⟩ := Da.reads (H := H) I (Da.ints (n :: ns)) rv
    exact PySem.W.max_list_data (I.ok.hd hc) hl.isList hr al (by rw [dp]; omega) fun i v h' tk bs hv r hk => by
      rw [PySem.W.maxD_ints] at r
      exact ext_fin I q r hk
  · obtain ⟨its, rv, hl, _⟩ := I.tuple hs
    obtain ⟨as, hr⟩ := Da.reads (H := H) I (Da.ints (n :: ns)) rv
    exact PySem.W.max_tuple_data (I.ok.hd hc) hl hr al (by rw [dp]; omega) fun i v h' tk bs hv r hk => by
      rw [PySem.W.maxD_ints] at r
      exact ext_fin I q r hk
theorem d_extV (f : Int → Int → Int) : CallD K (rExtV K f) (extV f) := fun G H xs ds z Q ex hd hz k => by
  unfold extV at hz
  split at hz
  · rename_i n es
    obtain ⟨ns, h1, rfl⟩ := Option.map_eq_some_iff.mp hz
    obtain rfl := intsOf_eq h1
    obtain ⟨v, rfl, h⟩ := da_one hd
    obtain ⟨a, ys, rfl, hy, dy⟩ := dt_list h
    obtain rfl := da_ints (ns := n :: ns) dy
    exact ⟨a, n, ns, rfl, .inl (hy.mono ex).sq, k _ G H .refl ex (.ii _)⟩
  · rename_i n es
    obtain ⟨ns, h1, rfl⟩ := Option.map_eq_some_iff.mp hz
    obtain rfl := intsOf_eq h1
    obtain ⟨v, rfl, h⟩ := da_one hd
    obtain ⟨a, ys, rfl, hy, dy⟩ := dt_tup h
    obtain rfl := da_ints (ns := n :: ns) dy
    exact ⟨a, n, ns, rfl, .inr (Evl.ex_t ex hy), k _ G H .refl ex (.ii _)⟩
  · cases hz
end
end Tw

set_option Elab.async false
set_option linter.all false
set_option maxRecDepth 100000
set_option maxHeartbeats 2000000
namespace Tw
open PySem PySem.Spec PyProof.Rows L2
open Evl (Ex)
/-! ### x in a row, both anything plain -/
section
variable {X : Cx} {K : PySem.W.Frag}
def layB (d : PyData) (ys : List PyData) : Bool := d.canLay0 && PyData.canLayAll0 ys && decide (d.depth ≤ 60)
theorem layB_of {d : PyData} {ys : List PyData} (h : layB d ys = true) : d.canLay0 = true ∧ PyData.canLayAll0 ys = true ∧ d.depth ≤ 60 := by
  have h1 := Bool.and_eq_true_iff.mp h
  have h2 := Bool.and_eq_true_iff.mp h1.1
  exact ⟨h2.1, h2.2, of_decide_eq_true h1.2⟩
def rInP (K : PySem.W.Frag) (neg : Bool) : R2 := fun x y H Q => ∃ d ys, Dt K H x d ∧ (Dt K H y (.list ys) ∨ Dt K H y (.tuple ys)) ∧ layB d ys = true ∧ Q (.bl (if neg = true then !inA d ys else inA d ys)) H
theorem op_inP (hu : X.A.units + 64 < cLine) : OpR X (compareOp .In) (rInP X.K false) := by
  intro pins s σ H x y v u Q I rx ry ⟨d, ys, hd, he, hl, q⟩
  obtain ⟨l1, l2, l3⟩ := layB_of hl
  obtain ⟨as, r1⟩ := hd.reads I rx
  have room : X.A.units + 1 + min (PyData.depthAll ys) d.depth < cLine := by
    have := Nat.min_le_right (PyData.depthAll ys) d.depth
    omega
  rcases he with he | he
  · obtain ⟨bs, r2⟩ := he.reads I ry
    exact SeqAt.in_list_reads r2 r1 l2 l1 room ⟨.bl _, H, I, rfl, q⟩
  · obtain ⟨bs, r2⟩ := he.reads I ry
    exact SeqAt.in_tuple_reads r2 r1 l2 l1 room ⟨.bl _, H, I, rfl, q⟩
theorem op_notInP (hu : X.A.units + 64 < cLine) : OpR X (compareOp .NotIn) (rInP X.K true) := by
  intro pins s σ H x y v u Q I rx ry ⟨d, ys, hd, he, hl, q⟩
  obtain ⟨l1, l2, l3⟩ := layB_of hl
  obtain ⟨as, r1⟩ := hd.reads I rx
  have room : X.A.units + 1 + min (PyData.depthAll ys) d.depth < cLine := by
    have := Nat.min_le_right (PyData.depthAll ys) d.depth
    omega
  rcases he with he | he
  · obtain ⟨bs, r2⟩ := he.reads I ry
    exact SeqAt.notIn_list_reads r2 r1 l2 l1 room ⟨.bl _, H, I, rfl, q⟩
  · obtain ⟨bs, r2⟩ := he.reads I ry
    exact SeqAt.notIn_tuple_reads r2 r1 l2 l1 room ⟨.bl _, H, I, rfl, q⟩
def inP (neg : Bool) : PyData → PyData → Option PyData := fun d e => (itemsOf e).bind fun ys => if layB d ys = true then some (.bool (if neg = true then !inA d ys else inA d ys)) else none
theorem d_inP (neg : Bool) : OpD K (rInP K neg) (inP neg) := fun G H x y d e z Q ex hd he hz k => by
  obtain ⟨ys, h1, h2⟩ := Option.bind_eq_some_iff.mp hz
  obtain ⟨h3, rfl⟩ := ite_p h2
  unfold itemsOf at h1
  split at h1
  · cases h1
    exact ⟨d, ys, hd.mono ex, .inl (he.mono ex), h3, k _ G H .refl ex (.bb _)⟩
  · cases h1
    exact ⟨d, ys, hd.mono ex, .inr (he.mono ex), h3, k _ G H .refl ex (.bb _)⟩
  · cases h1
end
def inG (neg : Bool) : PyData → PyData → Option PyData := fun d e => (inD neg d e).or (inP neg d e)
section
variable {X : Cx} {bb : Bool}
theorem op_inG (hu : X.A.units + 64 < cLine) : OpR X (compareOp .In) (fun x y H Q => rIn X.K false x y H Q ∨ rInP X.K false x y H Q) := op_in_seq.or (op_inP hu)
theorem op_notInG (hu : X.A.units + 64 < cLine) : OpR X (compareOp .NotIn) (fun x y H Q => rIn X.K true x y H Q ∨ rInP X.K true x y H Q) := op_notIn_seq.or (op_notInP hu)
theorem d_inG {K : PySem.W.Frag} (neg : Bool) : OpD K (fun x y H Q => rIn K neg x y H Q ∨ rInP K neg x y H Q) (inG neg) := (d_in neg).or (d_inP neg)
/-! ### d.get(k) -/
def getD1 : PyData → PyData → Option PyData
  | .dict es, x => (keyOf x).map fun k => (getE es k).getD .none
  | _, _ => none
theorem e_get {fo fe : FE PyData} {o e : Expr} {apos cpos : Pos} (hu : X.A.units + 1 < cLine) (ho : PE X o (tE X.K bb fo)) (he : PE X e (tE X.K bb fe)) (m : M1 X o "get" apos e cpos) :
    PE X (.Call (.Attribute o "get" apos) [e] [] cpos) (tE X.K bb (fBin getD1 fo fe)) := PE.weak (pe_dget1 hu ho he m) fun σ H Q ⟨G, ρ, d, ρ', E, ef, k⟩ => by
  obtain ⟨x, ρ1, h1, h2⟩ := thnE_of ef
  obtain ⟨y, ρ2, h3, h4⟩ := thnE_of h2
  obtain ⟨h5, rfl⟩ := liftO_of h4
  unfold getD1 at h5
  split at h5
  case h_2 => cases h5
  rename_i es
  obtain ⟨kk, hk, rfl⟩ := Option.map_eq_some_iff.mp h5
  refine ⟨G, ρ, _, ρ1, E, h1, fun v G1 H1 t1 o1 E1 d1 => ?_⟩
  obtain ⟨a, kvs, ds, rfl, hx, dx, rfl⟩ := dt_dict d1
  refine ⟨a, rfl, .inl ⟨kvs, .of (E1.ex _ _ hx)⟩, G1, ρ1, y, ρ', E1, h3, fun w G2 H2 t2 o2 E2 d2 => ?_⟩
  have ey := keyOf_dt d2 hk
  have hx2 : H2 a = some (.dK kvs) := E2.ex _ _ (t2.g _ _ hx)
  refine ⟨valV kvs kk, by rw [ey]; exact DGet.k hx2, ?_⟩
  cases hg : getE (zipE kvs ds) kk with
  | none =>
    rw [(ek_get kk dx).2.1 hg]
    rw [hg] at k
    exact k _ G2 H2 (t1.seq o1 t2) (fun l q => o1 l (o2 l q)) E2 .nn
  | some z =>
    obtain ⟨v, hv, dv⟩ := (ek_get kk dx).1 z hg
    rw [hv]
    rw [hg] at k
    exact k _ G2 H2 (t1.seq o1 t2) (fun l q => o1 l (o2 l q)) E2 (dv.mono t2.g)
end
/-! ### a tuple some times -/
def mulT : PyData → PyData → Option PyData
  | .tuple ds, .int k => if ds ≠ [] ∧ 2 ≤ k ∧ k ≤ 1000 ∧ ds.length ≤ 1000 then some (.tuple (List.replicate k.toNat ds).flatten) else none
  | _, _ => none
theorem da_rep {K : PySem.W.Frag} {G : Hp} {xs : List V} {ds : List PyData} (h : Da K G xs ds) : ∀ n : Nat, Da K G (List.replicate n xs).flatten (List.replicate n ds).flatten
  | 0 => .nil
  | n + 1 => by
    rw [List.replicate_succ, List.flatten_cons, List.replicate_succ, List.flatten_cons]
    exact h.app (da_rep h n)
theorem d_mulT {K : PySem.W.Frag} : OpD K (rRepT K) mulT := fun G H x y d e z Q ex hd he hz k => by
  unfold mulT at hz
  split at hz
  · obtain ⟨⟨h1, h2, h3, h4⟩, rfl⟩ := ite_p hz
    obtain ⟨a, xs, rfl, hx, dx⟩ := dt_tup hd
    rename_i ds i
    refine ⟨a, i, xs, rfl, dt_int he, Evl.ex_t ex hx, fun e0 => ?_, h2, h3, by rw [dx.len]; exact h4, fun p hp => ?_⟩
    · subst e0
      cases dx
      exact h1 rfl
    · have t : Tr nobody G H (upd G p (.tup (List.replicate i.toNat xs).flatten)) (upd H p (.tup (List.replicate i.toNat xs).flatten)) := Tr.new hp ex
      exact k _ _ _ t (ex_upd ex) (.tt (SqT.of upd_same) ((da_rep dx _).mono t.g))
  · cases hz
def mulG : PyData → PyData → Option PyData := fun d e => (mulI d e).or (mulT d e)
theorem op_mulG {X : Cx} : OpR X (binaryOp .Mult) (fun x y H Q => rI CMulW (fun i j => .int (i * j)) x y H Q ∨ rRepT X.K x y H Q) := op_mulW.or op_repT
theorem d_mulG {K : PySem.W.Frag} : OpD K (fun x y H Q => rI CMulW (fun i j => .int (i * j)) x y H Q ∨ rRepT K x y H Q) mulG := d_mulI.or d_mulT
end Tw

set_option Elab.async false
set_option linter.all false
set_option maxRecDepth 100000
set_option maxHeartbeats 2000000
namespace Tw
open PySem PySem.Spec PyProof.Rows L2
open Evl (Ex)
/-! ### zip of a tuple and a list -/
def ItzM (K : PySem.W.Frag) (a b : Addr) : It :=
  ⟨fun i H => ∃ (xs ys : List V) (x y : V), SqT K H a xs ∧ SqL K H b ys ∧ xs[i]? = some x ∧ ys[i]? = some y,
    fun i H v H' => ∃ T x y, v = .ref T ∧ H T = none ∧ H' = upd H T (.tup [x, y]) ∧ (∀ xs, SqT K H a xs → xs[i]? = some x) ∧ ∀ ys, SqL K H b ys → ys[i]? = some y,
    fun i H => ∃ xs ys : List V, SqT K H a xs ∧ SqL K H b ys ∧ i = min xs.length ys.length⟩
def zmFp (z TI TO i1 i2 : Addr) : List Addr := [z, TI, TO, i1, i2]
def zmTn (a b z TI TO i1 i2 : Addr) : Nat → Heap → Prop := fun i h => IsZip h z TI TO .none ∧ IsTupOf2 h TI (.ref i1) (.ref i2) ∧ (∃ x y, IsTupOf2 h TO x y) ∧ h.IsTupleIter i1 a i ∧ h.IsListIter i2 b i
theorem zm_sep {z TI TO i1 i2 a b : Addr} (D : ZipApart z TI TO i1 i2 a b) : ZipSep2 z TI TO i1 i2 [i1, a] [i2, b] where
  TIz := D.TIz
  TOz := D.TOz
  TITO := D.TITO
  TIi1 := D.TIi1
  mem1 := List.mem_cons_self ..
  zf1 := by simp only [List.mem_cons, List.not_mem_nil, or_false, not_or]; exact ⟨D.i1z.symm, D.l1z.symm⟩
  Tf1 := by simp only [List.mem_cons, List.not_mem_nil, or_false, not_or]; exact ⟨D.TOi1, D.l1TO.symm⟩
  TIi2 := D.TIi2
  mem2 := List.mem_cons_self ..
  zf2 := by simp only [List.mem_cons, List.not_mem_nil, or_false, not_or]; exact ⟨D.i2z.symm, D.l2z.symm⟩
  Tf2 := by simp only [List.mem_cons, List.not_mem_nil, or_false, not_or]; exact ⟨D.TOi2, D.l2TO.symm⟩
  sep1_2 := by simp only [List.mem_cons, List.not_mem_nil, or_false, not_or]; exact ⟨D.i12, D.l2i1.symm⟩
  sep2_1 := by simp only [List.mem_cons, List.not_mem_nil, or_false, not_or]; exact ⟨D.i12.symm, D.l1i2.symm⟩
def zm_goes {P : Program} {w : World} {A : Around} {elts : List Expr} {kk : Nat} {tpos : Pos} {a b z TI TO i1 i2 : Addr} (hh : A.handled = none) (D : ZipApart z TI TO i1 i2 a b) (xs ys : Array Value) :=
  GoesN.zip2 (prog := P) (w := w) (A := A) (elts := elts) (x1 := kk) (pos := tpos) (zm_sep D) (Draws.tuple (prog := P) (w := w) (A := A.in1) hh i1 a D.l1i1 xs) (Draws.list (prog := P) (w := w) (A := A.in1) hh i2 b D.l2i2 ys)
theorem turn_zipM {P : Program} {w : World} {K : PySem.W.Frag} {elts : List Expr} {kk : Nat} {tpos : Pos} {a b z TI TO i1 i2 : Addr} (D : ZipApart z TI TO i1 i2 a b) :
    Turn P w K (.Tuple elts kk tpos) (ItzM K a b) (zmFp z TI TO i1 i2) z (zmTn a b z TI TO i1 i2) where
  mem := List.mem_cons_self ..
  obj := fun i h ⟨s1, s2, ⟨x, y, s3⟩, ⟨o1, s4, _, d1⟩, ⟨o2, s5, _, d2⟩⟩ c hc => by
    unfold zmFp at hc
    simp only [List.mem_cons, List.not_mem_nil, or_false] at hc
    rcases hc with rfl | rfl | rfl | rfl | rfl
    · exact ⟨_, s1, fun v e => nomatch e⟩
    · exact ⟨_, s2, fun v e => nomatch e⟩
    · exact ⟨_, s3, fun v e => nomatch e⟩
    · exact ⟨o1, s4, fun v e => by rw [d1] at e; cases e⟩
    · exact ⟨o2, s5, fun v e => by rw [d2] at e; cases e⟩
  keep := fun i h h' ⟨s1, s2, ⟨x, y, s3⟩, s4, s5⟩ k =>
    ⟨k z (by simp [zmFp]) _ s1, k TI (by simp [zmFp]) _ s2, ⟨x, y, k TO (by simp [zmFp]) _ s3⟩, s4.at fun o e => k i1 (by simp [zmFp]) o e, s5.at fun o e => k i2 (by simp [zmFp]) o e⟩
  item := by
    intro X hP hw hK hc i pins s σ H E I hf ⟨s1, s2, s3, s4, s5⟩ ⟨xs, ys, x, y, qx, qy, ex, ey⟩
    subst hP hw hK
    obtain ⟨us, ru, pu, _⟩ := I.tuple qx
    obtain ⟨ws, rw', pw, _⟩ := I.list qy
    obtain ⟨u, hu, relu⟩ := ru.get ex
    obtain ⟨v, hv, relv⟩ := rw'.get ey
    have lu : i < us.length := (List.getElem?_eq_some_iff.mp hu).1
    have lw : i < ws.length := (List.getElem?_eq_some_iff.mp hv).1
    refine (zm_goes (P := X.prog) (w := X.w) (elts := elts) (kk := kk) (tpos := tpos) (I.ok.hd hc) D us.toArray ws.toArray).goes i s (fun u s2 => ∃ x H', Inv X pins σ H' s2 ∧ RelV x u ∧ (ItzM X.K a b).yld i H x H' ∧ zmTn a b z TI TO i1 i2 (i + 1) s2.heap ∧ ∀ b ∈ zmFp z TI TO i1 i2, H' b = none) E
      (by simp only [List.size_toArray]; omega) ⟨s1, s2, s3, ⟨s4, pu⟩, s5, pw.isList⟩ fun vv h' tk ⟨T, p, q, e, hn, hp, hq, hT⟩ ⟨t1, t2, t3, t4, t5⟩ fr ht => ?_
    subst e
    have ep : p = u := by
      have hp' : us[i]? = some p := by simpa using hp
      rw [hu] at hp'
      exact (Option.some.inj hp').symm
    have eq : q = v := by
      have hq' : ws[i]? = some q := by simpa using hq
      rw [hv] at hq'
      exact (Option.some.inj hq').symm
    subst ep eq
    have new : ObjOk X.prog X.w (upd H T (.tup [x, y])) h' T (.tup [x, y]) := ⟨by show 2 ≤ sizeLine; decide, [p, q], .cons relu (.cons relv .nil), hT⟩
    have I1 : Inv X pins σ (upd H T (.tup [x, y])) { s with heap := h', toks := tk } :=
      I.turnedNew (t' := tk) (ch := zmFp z TI TO i1 i2) (fun c o hb e => fr c o (fun m => hb (by simp only [zmFp, List.mem_cons, List.not_mem_nil, or_false] at m ⊢; rcases m with m | m | m | m <;> simp [m])) e) hf hn new
    refine ⟨.ref T, _, I1, rfl, ⟨T, x, y, rfl, I.hok.fresh hn, rfl, fun l hl => by rw [I.tuple_inj hl qx]; exact ex, fun l hl => by rw [I.list_inj hl qy]; exact ey⟩, ⟨t1, t2, t3, t4.1, t5.1⟩, fun c hcm => ?_⟩
    have hlt : c < s.heap.objs.size := by
      obtain ⟨x3, y3, s3⟩ := s3
      obtain ⟨_, e4, _⟩ := s4
      obtain ⟨_, e5, _⟩ := s5
      simp only [zmFp, List.mem_cons, List.not_mem_nil, or_false] at hcm
      rcases hcm with rfl | rfl | rfl | rfl | rfl
      · exact Heap.lt_size s1
      · exact Heap.lt_size s2
      · exact Heap.lt_size s3
      · exact Heap.lt_size e4
      · exact Heap.lt_size e5
    rw [upd_ne (Nat.ne_of_lt (Nat.lt_of_lt_of_le hlt hn))]
    exact (hf c hcm).1
  done := by
    intro X hP hw hK hc i pins s σ H E I hf ⟨s1, s2, s3, s4, s5⟩ ⟨xs, ys, qx, qy, ei⟩
    subst hP hw hK
    obtain ⟨us, ru, pu, _⟩ := I.tuple qx
    obtain ⟨ws, rw', pw, _⟩ := I.list qy
    have l1 := ru.length
    have l2 := rw'.length
    have en : i = min us.toArray.size ws.toArray.size := by simp only [List.size_toArray]; omega
    subst en
    exact (zm_goes (P := X.prog) (w := X.w) (elts := elts) (kk := kk) (tpos := tpos) (I.ok.hd hc) D us.toArray ws.toArray).stops s (fun s1 => Inv X pins σ H s1) E ⟨s1, s2, s3, ⟨s4, pu⟩, s5, pw.isList⟩ fun h' tk fr ht =>
      I.turnedL (t' := tk) (ch := zmFp z TI TO i1 i2) (fun c o hb e => fr c o (fun m => hb (by simp only [zmFp, List.mem_cons, List.not_mem_nil, or_false] at m ⊢; rcases m with m | m | m | m <;> simp [m])) e) hf
  self := fun A i s Q E st h => wpAny_pyIter_zip st.1 h
def iZipM (K : PySem.W.Frag) (ta : TA) : TI := fun σ H R => ta σ H fun vs H1 => ∃ a b xs ys, vs = [.ref a, .ref b] ∧ SqT K H1 a xs ∧ SqL K H1 b ys ∧ R (ItzM K a b) H1
theorem pi_zipM {X : Cx} {e e2 : Expr} {ta : TA} {p pos tpos : Pos} {elts : List Expr} {kk : Nat} (hg : Gl X "zip") (hm : X.mg "zip" = none) (ha : PA X [e, e2] ta)
    (hs : starEach [e, e2] X.env = (false, eval e X.env) :: starEach [e2] X.env := by rfl) (hpl : (backTo pos (starEach [e2] X.env)).any (·.1) = false := by rfl) :
    PI X (.Tuple elts kk tpos) (.Call (.Name "zip" p) [e, e2] [] pos) (iZipM X.K ta) := by
  refine ⟨fun pins s σ H R I h => ?_⟩
  refine Call_ (ld_blt I hg hm PyProof.Rows.boot_zip (PyProof.Rows.callWith_type1 (thn (ha.run pos pins s σ H _ I h) fun us s1 ⟨vs, H1, I1, r1, q1⟩ => ?_) hs hpl))
  obtain ⟨a, b, xs, ys, ex, qx, qy, q⟩ := q1
  subst ex
  obtain ⟨ua, ub, rfl, ra, rb⟩ := vals2 r1
  cases ra
  cases rb
  obtain ⟨us, ru, pu, _⟩ := I1.tuple qx
  obtain ⟨ws, rw', pw, _⟩ := I1.list qy
  have fresh : ∀ c ∈ zmFp (s1.heap.objs.size + 4) (s1.heap.objs.size + 2) (s1.heap.objs.size + 3) s1.heap.objs.size (s1.heap.objs.size + 1), FpOk X pins H1 c := fun c hc => by
    have le : s1.heap.objs.size ≤ c := by
      simp only [zmFp, List.mem_cons, List.not_mem_nil, or_false] at hc
      rcases hc with rfl | rfl | rfl | rfl | rfl
      · exact Nat.le_add_right _ _
      · exact Nat.le_add_right _ _
      · exact Nat.le_add_right _ _
      · exact Nat.le_refl _
      · exact Nat.le_add_right _ _
    exact I1.fpOk le (I1.hok.fresh le)
  have pa : s1.heap.IsTuple a us.toArray := pu
  refine zip_begins2 (begins_tuple a us.toArray) (begins_list b ws.toArray) pa pw.isList fun h' z1 z2 z3 z4 z5 z6 k => wpAny_pyIter_zip z1 ?_
  have I2 : Inv X pins σ H1 { s1 with heap := h' } := I1.kept (t' := s1.toks) k
  obtain ⟨oa, ea, _⟩ := pa
  refine ⟨s1.heap.objs.size + 4, zmFp (s1.heap.objs.size + 4) (s1.heap.objs.size + 2) (s1.heap.objs.size + 3) s1.heap.objs.size (s1.heap.objs.size + 1), _, _, H1, rfl, I2, turn_zipM (PySem.W.ktu_apart s1.heap.objs.size a b (Heap.lt_size ea) pw.lt), ⟨z1, z2, ⟨_, _, z3⟩, ⟨_, z4, rfl, rfl⟩, ⟨_, z5, rfl, rfl⟩⟩, fresh, q⟩
def zipMN : List PyData → Option (List PyData)
  | [.tuple ds, .list es] => some (prs ds es)
  | _ => none
def fZipM (r : FE (List PyData)) : FE (List PyData) := thnE r fun xs => liftO (zipMN xs)
section
variable {X : Cx} {bb : Bool} {e e2 : Expr} {p pos tpos : Pos}
theorem i_zipM {elts : List Expr} {kk : Nat} {ra : FE (List PyData)} (hg : Gl X "zip") (hm : X.mg "zip" = none) (ha : PA X [e, e2] (tA X.K bb ra))
    (hs : starEach [e, e2] X.env = (false, eval e X.env) :: starEach [e2] X.env := by rfl) (hpl : (backTo pos (starEach [e2] X.env)).any (·.1) = false := by rfl) :
    PI X (.Tuple elts kk tpos) (.Call (.Name "zip" p) [e, e2] [] pos) (tI X.K bb (fZipM ra)) := PI.weak (pi_zipM hg hm ha hs hpl) fun σ H R ⟨G, ρ, ds, ρ', E, ef, k⟩ => by
  obtain ⟨x, ρ1, h1, h2⟩ := thnE_of ef
  obtain ⟨h3, rfl⟩ := liftO_of h2
  refine ⟨G, ρ, x, ρ', E, h1, fun v G1 H1 t1 o1 E1 d1 => ?_⟩
  unfold zipMN at h3
  split at h3
  case h_2 => cases h3
  rename_i ds2 es2
  cases h3
  obtain ⟨v, u, rfl, dv, du⟩ := da_two d1
  obtain ⟨a, xs, rfl, hx, dx⟩ := dt_tup dv
  obtain ⟨b, ys, rfl, hy, dy⟩ := dt_list du
  refine ⟨a, b, xs, ys, rfl, Evl.ex_t E1.ex hx, (hy.mono E1.ex).sq, k _ G1 H1 t1 o1 E1 ?_⟩
  have hl : (prs ds2 es2).length = min xs.length ys.length := by rw [prs_len, dx.len, dy.len]
  refine ⟨fun i H hi ex => ⟨xs, ys, xs[i]'(by omega), ys[i]'(by omega), Evl.ex_t ex hx, (hy.mono ex).sq, List.getElem?_eq_getElem _, List.getElem?_eq_getElem _⟩,
    fun H ex => ⟨xs, ys, Evl.ex_t ex hx, (hy.mono ex).sq, hl⟩, fun i H y H' d hd ex q G2 e1 e2 => ?_⟩
  obtain ⟨T, z, z2, rfl, hT, rfl, q, q2⟩ := q
  obtain ⟨da, db, k1, k2, rfl⟩ := prs_get hd
  obtain ⟨w, h4, h5⟩ := dx.get k1
  obtain ⟨w2, h6, h7⟩ := dy.get k2
  have r1 := q xs (Evl.ex_t ex hx)
  have r2 := q2 ys ((hy.mono ex).sq)
  rw [h4] at r1
  rw [h6] at r2
  cases r1
  cases r2
  exact pair_yld hT e1 e2 h5 h7
end
/-! ### t[i::c], a tuple from a place on by steps -/
def picks (i c n : Nat) : List Nat := (List.range (if i < n then (n - i - 1) / c + 1 else 0)).map fun k => i + k * c
section
variable {prog : Program} {w : World} {A : Around} {E : Value → Shared → Prop} {s : Shared}
theorem step_places (i c n : Nat) (hc : 2 ≤ c) : Builtin.Slice.slicePlaces (min (i : Int) (n : Int)) (n : Int) (c : Int) = (picks i c n).length := by
  unfold Builtin.Slice.slicePlaces picks
  rw [List.length_map, List.length_range, if_pos (by omega)]
  by_cases h : i < n
  · rw [if_pos h, if_pos (by omega)]
    have e : (n : Int) - min (i : Int) (n : Int) - 1 = ((n - i - 1 : Nat) : Int) := by omega
    rw [e, ← Int.natCast_ediv]
    generalize (n - i - 1) / c = q
    omega
  · rw [if_neg h, if_neg (by omega)]
    rfl
theorem step_pick (xs : Array Value) (i c : Nat) (hc : 2 ≤ c) : ((List.range (picks i c xs.size).length).filterMap fun (k : Nat) => xs[(min (i : Int) (xs.size : Int) + (k : Int) * (c : Int)).toNat]?).toArray = ((picks i c xs.size).filterMap (xs[·]?)).toArray := by
  by_cases h : i < xs.size
  · have e : (picks i c xs.size).length = (xs.size - i - 1) / c + 1 := by
      unfold picks
      rw [List.length_map, List.length_range, if_pos h]
    rw [e]
    unfold picks
    rw [if_pos h, List.filterMap_map]
    congr 1
    refine fm_congr fun k hk => ?_
    have e2 : (min (i : Int) (xs.size : Int) + (k : Int) * (c : Int)).toNat = i + k * c := by
      rw [show min (i : Int) (xs.size : Int) = (i : Int) by omega, ← Int.natCast_mul, ← Int.natCast_add, Int.toNat_natCast]
    show xs[(min (i : Int) (xs.size : Int) + (k : Int) * (c : Int)).toNat]? = xs[i + k * c]?
    rw [e2]
  · have e : picks i c xs.size = [] := by
      unfold picks
      rw [if_neg h]
      rfl
    rw [e]
    rfl
theorem step_applied {sl : Addr} {u v : Tok} {i c n : Nat} {Q : Int × Int × Nat → Shared → Prop} (hc : 2 ≤ c) (hs : s.heap.IsSliceOf sl (.int (i : Int) u) .none (.int (c : Int) v)) (h : Q (min (i : Int) (n : Int), (c : Int), (picks i c n).length) s) :
    wpAny (model prog w) A (Builtin.Slice.sliceApplied (.ref sl) (pure (n : Int))) Q E s := by
  obtain ⟨os, hos, hcs, hds⟩ := id hs
  unfold Builtin.Slice.sliceApplied Builtin.Slice.sliceFields
  refine wpAny_bind (wpAny_bind (wpAny_field hos hds (x := .int (i : Int) u) rfl (wpAny_bind (wpAny_field hos hds (x := .none) rfl (wpAny_bind (wpAny_field hos hds (x := .int (c : Int) v) rfl (wpAny_pure ?_)))))))
  refine wpAny_bind (slicePart_int ?_)
  have cz : ((c : Int) == 0) = false := beq_eq_false_iff_ne.mpr (by omega)
  show wpAny _ _ (if ((c : Int) == 0) = true then _ else _) _ _ s
  rw [if_neg (by rw [cz]; decide)]
  refine wpAny_bind (slicePart_int (wpAny_bind (slicePart_none (wpAny_bind (wpAny_pure ?_)))))
  have e1 : Builtin.Slice.sliceAdjust (some (i : Int)) none (c : Int) (n : Int) = (min (i : Int) (n : Int), (n : Int)) := by
    unfold Builtin.Slice.sliceAdjust
    have h1 : ¬ (c : Int) < 0 := by omega
    have h2 : ¬ (i : Int) < 0 := by omega
    simp only [if_neg h1, if_neg h2]
  show wpAny _ _ (match Builtin.Slice.sliceAdjust (some (i : Int)) none (c : Int) (n : Int) with | (lo, hi) => pure (lo, (c : Int), Builtin.Slice.slicePlaces lo hi (c : Int))) _ _ s
  rw [e1]
  show wpAny _ _ (pure (min (i : Int) (n : Int), (c : Int), Builtin.Slice.slicePlaces (min (i : Int) (n : Int)) (n : Int) (c : Int))) _ _ s
  rw [step_places i c n hc]
  exact wpAny_pure h
theorem picks_len (i c n : Nat) (hc : 2 ≤ c) : (picks i c n).length ≤ n := by
  unfold picks
  rw [List.length_map, List.length_range]
  by_cases h : i < n
  · rw [if_pos h]
    have := Nat.div_le_self (n - i - 1) c
    omega
  · rw [if_neg h]
    exact Nat.zero_le _
theorem step_tuple {t sl : Addr} {items : Array Value} {u v : Tok} {i c : Nat} {Q : Value → Shared → Prop} (hc : 2 ≤ c) (ht : IsTup s.heap t items) (hs : s.heap.IsSliceOf sl (.int (i : Int) u) .none (.int (c : Int) v))
    (h : Q (.ref s.heap.objs.size) { s with heap := s.heap.push { cls := .type "tuple", data := .seq ((picks i c items.size).filterMap (items[·]?)).toArray } }) (hsz : items.size ≤ sizeLine) : wpAny (model prog w) A (getItem (.ref t) (.ref sl)) Q E s := by
  have ht2 : PySem.sizeOk (.seq ((picks i c items.size).filterMap (items[·]?)).toArray) := by
    show ((picks i c items.size).filterMap (items[·]?)).toArray.size ≤ sizeLine
    rw [List.size_toArray]
    have h1 := List.length_filterMap_le (items[·]?) (picks i c items.size)
    have h2 := picks_len i c items.size hc
    omega
  obtain ⟨os, hos, hcs, hds⟩ := id hs
  have hTs : s.TypeIs (.ref sl) "slice" := ⟨os, hos, hcs⟩
  unfold getItem
  try with_reducible refine wpAny_holding ?_
  first | refine wpAny_bind (wpAny_pure ?_) | skip
  refine wpAny_bind (wpAny_sequenceKey ht.typeIs (by decide) ?_)
  refine wpAny_bind (wpAny_callSpecial?_slot (name := Str.ofString "__getitem__") ht.typeIs PyProof.Rows.slot_tuple_getitem (wpAny_call_entry PyProof.Rows.slot_tuple_getitem ht.typeIs entry_tuple_getitem ?_ (args_tuple_getitem _ _)))
  refine wpAny_bind (m := Builtin.Tuple.tupleItemsOf (.ref t)) (tupleItemsOf_ ht ?_)
  refine wpAny_bind (wpAny_typeOf hTs ?_)
  rw [if_pos (by decide)]
  refine wpAny_bind (step_applied hc hs ?_)
  have c1 : ((c : Int) == 1) = false := beq_eq_false_iff_ne.mpr (by omega)
  have hno : ¬ ((min (i : Int) (items.size : Int) == 0 && (c : Int) == 1 && (picks i c items.size).length == items.size) = true) := by
    rw [c1, Bool.and_false, Bool.false_and]
    exact Bool.false_ne_true
  show wpAny _ _ (if (min (i : Int) (items.size : Int) == 0 && (c : Int) == 1 && (picks i c items.size).length == items.size) = true then _ else _) _ _ s
  rw [if_neg hno, step_pick items i c hc]
  first
    | exact wpAny_bind (m := Builtin.Tuple.tupleExact _) (wpAny_newObj_type (wpAny_pure ⟨_, rfl, wpAny_pure h⟩) ht2)
    | exact wpAny_bind (m := Builtin.Tuple.tupleExact _) (wpAny_newObj_type (wpAny_bind (wpAny_pure (wpAny_pure ⟨_, rfl, wpAny_pure h⟩))) ht2)
    | exact wpAny_bind (wpAny_bind (m := Builtin.Tuple.tupleExact _) (wpAny_newObj_type (wpAny_pure (wpAny_pure ⟨_, rfl, wpAny_pure h⟩)) ht2))
    | exact wpAny_bind (wpAny_bind (m := Builtin.Tuple.tupleExact _) (wpAny_newObj_type (wpAny_pure ⟨_, rfl, wpAny_pure h⟩) ht2))
end
theorem vals_picks {xs : List V} {its : List Value} (r : Vals xs its) : ∀ L : List Nat, Vals (L.filterMap (xs[·]?)) (L.filterMap (its[·]?))
  | [] => .nil
  | j :: L => by
    have ih := vals_picks r L
    have ln := r.length
    cases h : xs[j]? with
    | none =>
      have h2 : its[j]? = none := List.getElem?_eq_none (by have := List.getElem?_eq_none_iff.mp h; omega)
      rw [List.filterMap_cons_none h, List.filterMap_cons_none h2]
      exact ih
    | some x =>
      obtain ⟨u, hu, ru⟩ := r.get h
      rw [List.filterMap_cons_some h, List.filterMap_cons_some hu]
      exact .cons ru ih
theorem da_picks {K : PySem.W.Frag} {G : Hp} {xs : List V} {ds : List PyData} (h : Da K G xs ds) : ∀ L : List Nat, Da K G (L.filterMap (xs[·]?)) (L.filterMap (ds[·]?))
  | [] => .nil
  | j :: L => by
    have ih := da_picks h L
    have ln := h.len
    cases e : ds[j]? with
    | none =>
      have h2 : xs[j]? = none := List.getElem?_eq_none (by have := List.getElem?_eq_none_iff.mp e; omega)
      rw [List.filterMap_cons_none e, List.filterMap_cons_none h2]
      exact ih
    | some d =>
      obtain ⟨x, hx, dx⟩ := h.get e
      rw [List.filterMap_cons_some e, List.filterMap_cons_some hx]
      exact .cons dx ih
section
variable {X : Cx} {e : Expr} {bb : Bool} {f : FE PyData} {pos : Pos}
def tStep (K : PySem.W.Frag) (i c : Nat) (te : TE) : TE := fun σ H Q => te σ H fun x H1 => ∃ a, x = .ref a ∧ ∃ xs, SqT K H1 a xs ∧ ∀ p, H1 p = none → Q (.ref p) (upd H1 p (.tup ((picks i c xs.length).filterMap (xs[·]?))))
theorem pe_step {te : TE} {i c : Nat} {k1 k2 : Nat} {p1 p2 p3 : Pos} (hc : 2 ≤ c) (he : PE X e te) : PE X (.Subscript e (.Slice (some (.Constant (.int (i : Int)) k1 p1)) none (some (.Constant (.int (c : Int)) k2 p2)) p3) pos) (tStep X.K i c te) := ⟨fun pins s σ H Q I h => by
  refine Subscript_ (thn (he.run pins s σ H _ I h) fun v s1 hz => ?_)
  obtain ⟨x, H1, I1, r1, a, ex, xs, hx, q⟩ := hz
  subst ex
  cases r1
  have sta : PO X (some (.Constant (.int (i : Int)) k1 p1)) (tPart (tC (.int (i : Int)))) := po_some pe_int
  have stc : PO X (some (.Constant (.int (c : Int)) k2 p2)) (tPart (tC (.int (c : Int)))) := po_some pe_int
  refine wpAny_Slice (thn (sta.run pins s1 σ H1 (fun o H2 => o = some (i : Int) ∧ H2 = H1) I1 ⟨(i : Int), rfl, rfl, rfl⟩) fun vl s2 hz => ?_)
  obtain ⟨_, _, I2, pl, rfl, rfl⟩ := hz
  refine thn (po_none.run pins s2 σ _ (fun o H3 => o = none ∧ H3 = _) I2 ⟨rfl, rfl⟩) fun vu s3 hz => ?_
  obtain ⟨_, _, I3, pu, rfl, rfl⟩ := hz
  refine thn (stc.run pins s3 σ _ (fun o H4 => o = some (c : Int) ∧ H4 = _) I3 ⟨(c : Int), rfl, rfl, rfl⟩) fun vs s4 hz => ?_
  obtain ⟨_, _, I4, ps, rfl, rfl⟩ := hz
  have I5 : Inv X pins σ _ { s4 with heap := s4.heap.push { cls := .type "slice", data := .fields #[vl, vu, vs] } } := I4.kept (t' := s4.toks) fun b ob q => Heap.get?_push_of_some _ q
  show wpAny (model X.prog X.w) X.A (subscriptTail e (.Slice (some (.Constant (.int (i : Int)) k1 p1)) none (some (.Constant (.int (c : Int)) k2 p2)) p3) (.ref a) (.ref s4.heap.objs.size)) (EP X pins σ Q) X.xe { s4 with heap := s4.heap.push { cls := .type "slice", data := .fields #[vl, vu, vs] } }
  obtain ⟨its, r, ht, hz⟩ := I5.tuple hx
  cases pl
  cases pu
  cases ps
  have hl : its.toArray.size = xs.length := by rw [List.size_toArray, ← r.length]
  refine tail_any (ops := [.ref a, .ref s4.heap.objs.size]) ht.typeIs (PyProof.Rows.slot_tuple_getitem.lookup) ?_ (by with_unfolding_all rfl)
  refine step_tuple hc ht (Heap.IsSliceOf.new ..) ?_ (by rw [hl]; exact hz)
  have pk : (picks i c its.toArray.size).filterMap (its.toArray[·]?) = (picks i c xs.length).filterMap (its[·]?) := by
    rw [hl]
    exact fm_congr fun j _ => by simp
  refine ⟨.ref _, _, I5.laid (t' := s4.toks) (o := .tup ((picks i c xs.length).filterMap (xs[·]?))) (fun b ob q => Heap.get?_push_of_some _ q) (Nat.le_refl _) ?_, rfl, q _ (I5.hok.fresh (Nat.le_refl _))⟩
  refine ⟨?_, _, vals_picks r _, ?_⟩
  · have h1 := List.length_filterMap_le (xs[·]?) (picks i c xs.length)
    have h2 := picks_len i c xs.length hc
    omega
  · rw [pk]
    exact IsTup.new _ _⟩
def stepD (i c : Nat) : PyData → Option PyData
  | .tuple ds => some (.tuple ((picks i c ds.length).filterMap (ds[·]?)))
  | _ => none
theorem e_step {i c : Nat} {k1 k2 : Nat} {p1 p2 p3 : Pos} (hc : 2 ≤ c) (he : PE X e (tE X.K bb f)) : PE X (.Subscript e (.Slice (some (.Constant (.int (i : Int)) k1 p1)) none (some (.Constant (.int (c : Int)) k2 p2)) p3) pos) (tE X.K bb (fUn (stepD i c) f)) :=
  PE.weak (pe_step hc he) fun σ H Q ⟨G, ρ, d, ρ', E, ef, k⟩ => by
    obtain ⟨x, ρ1, h1, h2⟩ := thnE_of ef
    obtain ⟨h5, rfl⟩ := liftO_of h2
    refine ⟨G, ρ, x, ρ', E, h1, fun v G1 H1 t1 o1 E1 d1 => ?_⟩
    unfold stepD at h5
    split at h5
    · cases h5
      obtain ⟨a, xs, rfl, hx, dx⟩ := dt_tup d1
      refine ⟨a, rfl, xs, Evl.ex_t E1.ex hx, fun p hp => ?_⟩
      have t : Tr nobody G1 H1 (upd G1 p (.tup ((picks i c xs.length).filterMap (xs[·]?)))) (upd H1 p (.tup ((picks i c xs.length).filterMap (xs[·]?)))) := Tr.new hp E1.ex
      refine k _ _ _ (t1.trans t fun _ _ _ q => q.elim) o1 (E1.tr t (ex_upd E1.ex)) (.tt (SqT.of upd_same) ?_)
      rw [← dx.len]
      exact (da_picks dx _).mono t.g
    · cases h5
/-! ### a starred part of a row -/
def starN (d : PyData) (xs : List PyData) : Option (List PyData) := (itemsOf d).map fun ds => ds ++ xs
def fStar (f : FE PyData) (r : FE (List PyData)) : FE (List PyData) := thnE f fun d => thnE r fun xs => liftO (starN d xs)
theorem a_star {es : List Expr} {p : Pos} {r : FE (List PyData)} (he : PE X e (tE X.K bb f)) (hr : PA X es (tA X.K bb r)) (hs : starEach (.Starred e p :: es) X.env = (true, eval e X.env) :: starEach es X.env := by rfl) :
    PA X (.Starred e p :: es) (tA X.K bb (fStar f r)) :=
  PA.weak (StX.pa_star he hr hs) fun σ H Q ⟨G, ρ, d, ρ', E, ef, k⟩ => by
    obtain ⟨x, ρ1, h1, h2⟩ := thnE_of ef
    obtain ⟨y, ρ2, h3, h4⟩ := thnE_of h2
    obtain ⟨h5, rfl⟩ := liftO_of h4
    obtain ⟨ds, h6, rfl⟩ := Option.map_eq_some_iff.mp h5
    refine ⟨G, ρ, x, ρ1, E, h1, fun v G1 H1 t1 o1 E1 d1 => ?_⟩
    unfold itemsOf at h6
    split at h6
    · cases h6
      obtain ⟨a, xs, rfl, hx, dx⟩ := dt_list d1
      exact ⟨a, xs, rfl, .inr (hx.mono E1.ex).sq, G1, ρ1, y, _, E1, h3, fun u G2 H2 t2 o2 E2 d2 => k (xs ++ u) G2 H2 (t1.seq o1 t2) (fun l q => o1 l (o2 l q)) E2 ((dx.mono t2.g).app d2)⟩
    · cases h6
      obtain ⟨a, xs, rfl, hx, dx⟩ := dt_tup d1
      exact ⟨a, xs, rfl, .inl (Evl.ex_t E1.ex hx), G1, ρ1, y, _, E1, h3, fun u G2 H2 t2 o2 E2 d2 => k (xs ++ u) G2 H2 (t1.seq o1 t2) (fun l q => o1 l (o2 l q)) E2 ((dx.mono t2.g).app d2)⟩
    · cases h6
end
end Tw

set_option Elab.async false
set_option linter.all false
set_option maxRecDepth 100000
set_option maxHeartbeats 2000000
/-! ### reckoning a denotation at given slots, from the outside in -/
namespace Tw
open PySem PySem.Spec PyProof.Rows L2
section
variable {α β : Type} {ρ ρ1 ρ2 : Rho} {x : α} {d e : PyData} {ds es ms : List PyData} {i n : Nat}
def tk (o : Option (α × Rho)) (g : α → FE β) : Option (β × Rho) := o.bind fun p => g p.1 p.2
theorem r_thn {f : FE α} {g : α → FE β} : thnE f g ρ = tk (f ρ) g := rfl
theorem r_tk {g : α → FE β} : tk (some (x, ρ)) g = g x ρ := rfl
theorem r_tk0 {g : α → FE β} : tk none g = none := rfl
theorem r_ret : Tw.ret x ρ = some (x, ρ) := rfl
theorem r_lift : liftO (some x) ρ = some (x, ρ) := rfl
theorem r_lift0 : liftO (none : Option α) ρ = none := rfl
def vk (o : Option Sl) (ρ : Rho) : Option (PyData × Rho) := match o with
  | some (.d x) => some (x, ρ)
  | _ => none
theorem r_var : fVar i ρ = vk ρ[i]? ρ := rfl
theorem r_vk : vk (some (.d d)) ρ = some (d, ρ) := rfl
theorem r_bin {g : PyData → PyData → Option PyData} {fa fb : FE PyData} : fBin g fa fb ρ = tk (fa ρ) fun x => thnE fb fun y => liftO (g x y) := rfl
theorem r_un {g : PyData → Option PyData} {fa : FE PyData} : fUn g fa ρ = tk (fa ρ) fun x => liftO (g x) := rfl
theorem r_nil : fNil ρ = some ([], ρ) := rfl
theorem r_cons {f : FE PyData} {r : FE (List PyData)} : fCons f r ρ = tk (f ρ) fun x => thnE r fun xs => Tw.ret (x :: xs) := rfl
theorem r_tup {r : FE (List PyData)} : fTup r ρ = tk (r ρ) fun xs => liftO (if sizeOk xs.length then some (.tuple xs) else none) := rfl
theorem r_of {r : FE (List PyData)} : fOf r ρ = tk (r ρ) fun xs => Tw.ret (.list xs) := rfl
theorem r_call {g : List PyData → Option PyData} {r : FE (List PyData)} : fCall g r ρ = tk (r ρ) fun xs => liftO (g xs) := rfl
def kt (o : Option (PyData × Rho)) : Option (Bool × Rho) := tk o fun x => match x with
  | .bool b => Tw.ret b
  | _ => fun _ => none
theorem r_tst {f : FE PyData} : fTst f ρ = kt (f ρ) := rfl
theorem r_kt {b : Bool} : kt (some (.bool b, ρ)) = some (b, ρ) := rfl
def ik {γ : Type} (o : Option (Bool × Rho)) (f g : Rho → Option γ) : Option γ := o.bind fun p => if p.1 = true then f p.2 else g p.2
theorem r_ikT {γ : Type} {f g : Rho → Option γ} : ik (some (true, ρ)) f g = f ρ := rfl
theorem r_ikF {γ : Type} {f g : Rho → Option γ} : ik (some (false, ρ)) f g = g ρ := rfl
theorem r_ite {c : Bool} {γ : Type} {f g : Rho → Option γ} : (if c = true then f else g) ρ = ik (some (c, ρ)) f g := by cases c <;> rfl
theorem r_if {t : FE Bool} {f g : FS} : fIfS t f g ρ = ik (t ρ) f g := rfl
theorem tk_ite {t : Option (Bool × Rho)} {f g : FE α} : (tk t fun c => if c = true then f else g) = ik t f g := by
  unfold tk ik
  cases t with
  | none => rfl
  | some p => obtain ⟨c, r⟩ := p; cases c <;> rfl
theorem r_ife {t : FE Bool} {f g : FE PyData} : fIf t f g ρ = ik (t ρ) f g := tk_ite
theorem r_and {f g : FE Bool} : tdAnd f g ρ = ik (f ρ) g (Tw.ret false) := tk_ite
theorem r_or {f g : FE Bool} : tdOr f g ρ = ik (f ρ) (Tw.ret true) g := tk_ite
theorem r_not {f : FE Bool} : tdNot f ρ = tk (f ρ) fun c => Tw.ret (!c) := rfl
theorem r_vand {f g : FE PyData} : vAnd f g ρ = ik (kt (f ρ)) g (Tw.ret (.bool false)) := tk_ite
theorem r_vor {f g : FE PyData} : vOr f g ρ = ik (kt (f ρ)) (Tw.ret (.bool true)) g := tk_ite
theorem r_vnot {f : FE PyData} : vNot f ρ = tk (kt (f ρ)) fun c => Tw.ret (.bool (!c)) := rfl
def hk (y : PyData) (g' : PyData → PyData → Option PyData) (fc : FE PyData) (k : PyData) : FE PyData := match k with
  | .bool true => thnE fc fun z => liftO (g' y z)
  | .bool false => Tw.ret (.bool false)
  | _ => fun _ => none
theorem r_chain {g g' : PyData → PyData → Option PyData} {fa fb fc : FE PyData} : fChain g g' fa fb fc ρ = tk (fa ρ) fun x => thnE fb fun y => thnE (liftO (g x y)) (hk y g' fc) := rfl
theorem r_hkT {g' : PyData → PyData → Option PyData} {fc : FE PyData} : hk d g' fc (.bool true) ρ = tk (fc ρ) fun z => liftO (g' d z) := rfl
theorem r_hkF {g' : PyData → PyData → Option PyData} {fc : FE PyData} : hk d g' fc (.bool false) ρ = some (.bool false, ρ) := rfl
def ok (x : PyData) : FE (Option Int) := match x with
  | .int i => Tw.ret (some i)
  | _ => fun _ => none
theorem r_part {f : FE PyData} : fPart f ρ = tk (f ρ) ok := rfl
theorem r_ok {j : Int} : ok (.int j) ρ = some (some j, ρ) := rfl
theorem r_sl {f : FE PyData} {lo hi : FE (Option Int)} : fSl f lo hi ρ = tk (f ρ) fun x => thnE lo fun l => thnE hi fun h => liftO (slD x l h) := rfl
/-! rows -/
def sk (o : Option Out) (g : FS) : Option Out := o.bind fun o => match o with
  | .nx ρ' => g ρ'
  | o => some o
theorem r_seq {f g : FS} : fSeq f g ρ = sk (f ρ) g := rfl
theorem r_skN {g : FS} : sk (some (.nx ρ)) g = g ρ := rfl
theorem r_skR {g : FS} : sk (some (.rt d ρ)) g = some (.rt d ρ) := rfl
theorem r_skF {g : FS} : sk (some (.rf ds ρ)) g = some (.rf ds ρ) := rfl
theorem r_skB {g : FS} : sk (some (.bk ρ)) g = some (.bk ρ) := rfl
theorem r_skC {g : FS} : sk (some (.ct ρ)) g = some (.ct ρ) := rfl
theorem r_next : fNext ρ = some (.nx ρ) := rfl
def rk (o : Option (PyData × Rho)) : Option Out := o.map fun p => .rt p.1 p.2
theorem r_retS {f : FE PyData} : fRet f ρ = rk (f ρ) := rfl
theorem r_rk : rk (some (d, ρ)) = some (.rt d ρ) := rfl
def rfk (o : Option (List PyData × Rho)) : Option Out := o.map fun p => .rf p.1 p.2
theorem r_retF {f : FE (List PyData)} : fRetF f ρ = rfk (f ρ) := rfl
theorem r_rfk : rfk (some (ds, ρ)) = some (.rf ds ρ) := rfl
def dk (o : Option (PyData × Rho)) : Option Out := o.map fun p => .nx p.2
theorem r_drop {f : FE PyData} : fDrop f ρ = dk (f ρ) := rfl
theorem r_dk : dk (some (d, ρ)) = some (.nx ρ) := rfl
def gk2 (o : Option Rho) : Option Out := o.map .nx
def gk (o : Option (PyData × Rho)) (g : FG) : Option Out := o.bind fun p => (g p.1 p.2).map .nx
theorem r_asg {f : FE PyData} {g : FG} : fAsg f g ρ = gk (f ρ) g := rfl
theorem r_gk {g : FG} : gk (some (d, ρ)) g = gk2 (g d ρ) := rfl
theorem r_gk2 : gk2 (some ρ) = some (.nx ρ) := rfl
theorem r_nm (h : i < ρ.length) : gNm i d ρ = some (ρ.set i (.d d)) := if_pos h
theorem r_tp {fs : List FG} : gTp fs (.tuple ds) ρ = gSeq fs ds ρ := rfl
def qk (o : Option Rho) (fs : List FG) (ds : List PyData) : Option Rho := o.bind fun ρ1 => gSeq fs ds ρ1
theorem r_gs {f : FG} {fs : List FG} : gSeq (f :: fs) (d :: ds) ρ = qk (f d ρ) fs ds := rfl
theorem r_qk {fs : List FG} : qk (some ρ) fs ds = gSeq fs ds ρ := rfl
theorem r_gs0 : gSeq [] [] ρ = some ρ := rfl
/-! lists of one's own -/
def frk (o : Option Sl) (i : Nat) (ρ : Rho) : Option Rho := match o with
  | some (.m (.l ds)) => some (ρ.set i (.d (.list ds)))
  | some (.m (.k es)) => some (ρ.set i (.d (.dict es)))
  | _ => none
theorem r_froz : froz i ρ = frk ρ[i]? i ρ := rfl
theorem r_frk : frk (some (.m ms)) i ρ = some (ρ.set i (.d (.list ms))) := rfl
theorem r_frkK {es : List (PyData × PyData)} : frk (some (.m (.k es))) i ρ = some (ρ.set i (.d (.dict es))) := rfl
theorem r_ownK : fOwnK i ρ = if i < ρ.length then some (.nx (ρ.set i (.m (.k [])))) else none := rfl
theorem r_star {f : FE PyData} {g : FE (List PyData)} {ρ : Rho} : fStar f g ρ = tk (f ρ) fun d => thnE g fun xs => liftO (starN d xs) := rfl
theorem starL_ok {ds xs : List PyData} : starN (.list ds) xs = some (ds ++ xs) := rfl
theorem starT_ok {ds xs : List PyData} : starN (.tuple ds) xs = some (ds ++ xs) := rfl
theorem r_zipM {r : FE (List PyData)} {ρ : Rho} : fZipM r ρ = tk (r ρ) fun xs => liftO (zipMN xs) := rfl
theorem zipM_ok {ds es : List PyData} : zipMN [.tuple ds, .list es] = some (prs ds es) := rfl
theorem r_ixEd {es : List (PyData × PyData)} {j : Int} : ixE (.dict es) (.int j) = getE es (.inl j) := rfl
theorem r_ixEt {ds : List PyData} {x : PyData} : ixE (.tuple ds) x = ixD (.tuple ds) x := Option.or_none
theorem r_ixEl {ds : List PyData} {x : PyData} : ixE (.list ds) x = ixD (.list ds) x := Option.or_none
theorem r_inK {es : List (PyData × PyData)} {j : Int} : inK false (.int j) (.dict es) = some (.bool (hasE es (.inl j))) := rfl
theorem r_ninK {es : List (PyData × PyData)} {j : Int} : inK true (.int j) (.dict es) = some (.bool (!hasE es (.inl j))) := rfl
def pk2 (ρ : Rho) (o : Option (PyData × Rho)) : Option (PyData × Rho) := o.bind fun p => if atom p.1 = true then some (p.1, ρ) else none
def pk (o : Option Rho) (f : FE PyData) (ρ : Rho) : Option (PyData × Rho) := o.bind fun ρ1 => pk2 ρ (f ρ1)
theorem r_peek {f : FE PyData} : fPeek i f ρ = pk (froz i ρ) f ρ := rfl
theorem r_pk {f : FE PyData} : pk (some ρ1) f ρ = pk2 ρ (f ρ1) := rfl
theorem r_pkI {j : Int} : pk2 ρ (some (.int j, ρ1)) = some (.int j, ρ) := rfl
theorem r_pkB {j : Bool} : pk2 ρ (some (.bool j, ρ1)) = some (.bool j, ρ) := rfl
theorem r_pkS {j : Str} : pk2 ρ (some (.str j, ρ1)) = some (.str j, ρ) := rfl
theorem r_pkN : pk2 ρ (some (.none, ρ1)) = some (.none, ρ) := rfl
def bk2 (ρ : Rho) (o : Option (Bool × Rho)) : Option (Bool × Rho) := o.map fun p => (p.1, ρ)
def bk1 (o : Option Rho) (f : FE Bool) (ρ : Rho) : Option (Bool × Rho) := o.bind fun ρ1 => bk2 ρ (f ρ1)
theorem r_tpeek {f : FE Bool} : tPeek i f ρ = bk1 (froz i ρ) f ρ := rfl
theorem r_bk1 {f : FE Bool} : bk1 (some ρ1) f ρ = bk2 ρ (f ρ1) := rfl
theorem r_bk2 {c : Bool} : bk2 ρ (some (c, ρ1)) = some (c, ρ) := rfl
def fzk (o : Option Rho) (f : FS) : Option Out := o.bind f
theorem r_frz {f : FS} : fFrz i f ρ = fzk (froz i ρ) f := rfl
theorem r_fzk {f : FS} : fzk (some ρ) f = f ρ := rfl
def owk (o : Option (List PyData × Rho)) (i : Nat) : Option Out := o.bind fun p => if i < p.2.length then some (.nx (p.2.set i (.m p.1))) else none
theorem r_own {f : FE (List PyData)} : fOwn f i ρ = owk (f ρ) i := rfl
theorem r_owk (h : i < ρ.length) : owk (some (ds, ρ)) i = some (.nx (ρ.set i (.m ds))) := if_pos h
def mk4 (i : Nat) (ρ : Rho) (o : Option (PyData × List PyData)) : Option (PyData × Rho) := o.map fun p => (p.1, ρ.set i (.m p.2))
theorem r_mk4 : mk4 i ρ (some (d, ms)) = some (d, ρ.set i (.m ms)) := rfl
def mk3 (g : List PyData → List PyData → Option (PyData × List PyData)) (i : Nat) (ds : List PyData) (ρ : Rho) (o : Option Sl) : Option (PyData × Rho) := match o with
  | some (.m (.l ms)) => mk4 i ρ (g ms ds)
  | _ => none
theorem r_mk3 {g : List PyData → List PyData → Option (PyData × List PyData)} : mk3 g i ds ρ (some (.m ms)) = mk4 i ρ (g ms ds) := rfl
def cmk {γ : Type} (o : Option Sl) (x : Option γ) : Option γ := match o with
  | some (.m (.l _)) => x
  | _ => none
theorem r_cmk {γ : Type} {x : Option γ} : cmk (some (.m ms)) x = x := rfl
theorem r_met {g : GM} {ra : FE (List PyData)} : fMet i g ra ρ = cmk ρ[i]? (tk (ra ρ) fun ds ρ1 => mk3 g i ds ρ1 ρ1[i]?) := by
  unfold fMet cmk
  cases ρ[i]? with
  | none => rfl
  | some x => cases x <;> rfl
def mk2 (n : Nat) (g : List PyData → List PyData → Option (PyData × List PyData)) (i : Nat) (ds : List PyData) : FE PyData := fun ρ => if ds.length = n then mk3 g i ds ρ ρ[i]? else none
theorem r_mk2 {g : List PyData → List PyData → Option (PyData × List PyData)} : mk2 n g i ds ρ = if ds.length = n then mk3 g i ds ρ ρ[i]? else none := rfl
theorem r_callM {g : List PyData → List PyData → Option (PyData × List PyData)} {ra : FE (List PyData)} : fCallM n g i ra ρ = cmk ρ[i]? (tk (ra ρ) (mk2 n g i)) := by
  unfold fCallM cmk
  cases ρ[i]? with
  | none => rfl
  | some x => cases x <;> rfl
def mk2b (n : Nat) (g : List PyData → List PyData → Option (PyData × List PyData)) (i : Nat) (d0 : PyData) (ds : List PyData) : FE PyData := fun ρ => if ds.length + 1 = n then mk3 g i (d0 :: ds) ρ ρ[i]? else none
theorem r_mk2b {g : List PyData → List PyData → Option (PyData × List PyData)} : mk2b n g i d ds ρ = if ds.length + 1 = n then mk3 g i (d :: ds) ρ ρ[i]? else none := rfl
theorem r_callM1 {g : List PyData → List PyData → Option (PyData × List PyData)} {fa : FE PyData} {ra : FE (List PyData)} : fCallM1 n g i fa ra ρ = cmk ρ[i]? (tk (fa ρ) fun d0 => thnE ra (mk2b n g i d0)) := by
  unfold fCallM1 cmk
  cases ρ[i]? with
  | none => rfl
  | some x => cases x <;> rfl
theorem r_lenIs {g : List PyData → Option PyData} : lenIs n g ds = if ds.length = n then g ds else none := rfl
theorem r_callF {g : List PyData → Option (List PyData)} {r : FE (List PyData)} : fCallF n g r ρ = tk (r ρ) fun xs => liftO (if xs.length = n then g xs else none) := rfl
def stj (o : Option Nat) (i : Nat) (d : PyData) (ρ : Rho) (ms : List PyData) : Option Out := o.map fun j => .nx (ρ.set i (.m (ms.set j d)))
theorem r_stj {k : Nat} : stj (some k) i d ρ ms = some (.nx (ρ.set i (.m (ms.set k d)))) := rfl
def sti (i : Nat) (d : PyData) (x : PyData) (ρ : Rho) (o : Option Sl) : Option Out := match o with
  | some (.m (.l ms)) => stj (plI ms.length x) i d ρ ms
  | _ => none
theorem r_sti {x : PyData} : sti i d x ρ (some (.m ms)) = stj (plI ms.length x) i d ρ ms := rfl
theorem r_pl {n : Nat} {k : Int} : plI n (.int k) = ixN n k := rfl
def stk2 (o : Option (PyData × Rho)) (i : Nat) (d : PyData) : Option Out := o.bind fun q => sti i d q.1 q.2 q.2[i]?
theorem r_stk2 : stk2 (some (e, ρ)) i d = sti i d e ρ ρ[i]? := rfl
def stk (o : Option (PyData × Rho)) (i : Nat) (fi : FE PyData) : Option Out := o.bind fun p => cmk p.2[i]? (stk2 (fi p.2) i p.1)
theorem r_stk {fi : FE PyData} : stk (some (d, ρ)) i fi = cmk ρ[i]? (stk2 (fi ρ) i d) := rfl
theorem r_setI {fe fi : FE PyData} : fSetI i fe fi ρ = stk (fe ρ) i fi := by
  unfold fSetI stk
  cases fe ρ with
  | none => rfl
  | some p =>
    obtain ⟨d, r⟩ := p
    show (match r[i]? with
      | some (.m (.l _)) => _
      | _ => none) = cmk r[i]? (stk2 (fi r) i d)
    unfold cmk
    cases r[i]? with
    | none => rfl
    | some x =>
      cases x with
      | un => rfl
      | d _ => rfl
      | m xs =>
        unfold stk2
        dsimp only
        cases fi r with
        | none => rfl
        | some q =>
          obtain ⟨x, r2⟩ := q
          dsimp only [Option.bind_some]
          cases r2[i]? with
          | none => rfl
          | some y => cases y <;> rfl
theorem ixN0 {n : Nat} : ixN (n + 1) 0 = some 0 := Evl.ixN_nat (j := 0) (by omega)
theorem ixN1 {n : Nat} : ixN (n + 2) 1 = some 1 := Evl.ixN_nat (j := 1) (by omega)
theorem ixN2 {n : Nat} : ixN (n + 3) 2 = some 2 := Evl.ixN_nat (j := 2) (by omega)
def aug3 (i : Nat) (ρ : Rho) (o : Option PyData) : Option Out := o.bind fun z => if i < ρ.length then some (.nx (ρ.set i (.d z))) else none
def aug2 (i : Nat) (g : PyData → PyData → Option PyData) (x : PyData) (o : Option (PyData × Rho)) : Option Out := o.bind fun p => aug3 i p.2 (g x p.1)
def aug1 (o : Option Sl) (i : Nat) (g : PyData → PyData → Option PyData) (fe : FE PyData) (ρ : Rho) : Option Out := match o with
  | some (.d x) => aug2 i g x (fe ρ)
  | _ => none
theorem r_aug {g : PyData → PyData → Option PyData} {fe : FE PyData} : fAug i g fe ρ = aug1 ρ[i]? i g fe ρ := rfl
theorem r_aug1 {g : PyData → PyData → Option PyData} {fe : FE PyData} : aug1 (some (.d d)) i g fe ρ = aug2 i g d (fe ρ) := rfl
theorem r_aug2 {g : PyData → PyData → Option PyData} : aug2 i g d (some (e, ρ)) = aug3 i ρ (g d e) := rfl
theorem r_aug3 : aug3 i ρ (some d) = if i < ρ.length then some (.nx (ρ.set i (.d d))) else none := rfl
theorem r_opN {g : PyData → PyData → Option (List PyData)} {fa fb : FE PyData} : fOpN g fa fb ρ = tk (fa ρ) fun x => thnE fb fun y => liftO (g x y) := rfl
def prk2 (i j : Nat) (ds : List PyData) (ρ : Rho) : Option Out := match ds with
  | [x, y] => if i < ρ.length ∧ j < ρ.length then some (.nx ((ρ.set i (.d x)).set j (.d y))) else none
  | _ => none
def prk (i j : Nat) (o : Option (List PyData × Rho)) : Option Out := o.bind fun p => prk2 i j p.1 p.2
theorem r_par {j : Nat} {r : FE (List PyData)} : fPar i j r ρ = prk i j (r ρ) := rfl
theorem r_prk {j : Nat} : prk i j (some ([d, e], ρ)) = if i < ρ.length ∧ j < ρ.length then some (.nx ((ρ.set i (.d d)).set j (.d e))) else none := rfl
theorem r_callN {g : List PyData → List PyData → Option (PyData × List PyData)} {r0 ra : FE (List PyData)} : fCallN n g r0 ra ρ = tk (r0 ρ) fun ms => thnE ra fun ds => liftO (if ds.length = n then (g ms ds).map (·.1) else none) := rfl
theorem r_tupRg {f : FE PyData} : fTupRg f ρ = tk (f ρ) fun x => liftO ((rg1 x).map .tuple) := rfl
theorem r_isN : isNoneD d .none = some (.bool (match d with
  | .none => true
  | _ => false)) := rfl
theorem r_notN : notNoneD d .none = some (.bool (match d with
  | .none => false
  | _ => true)) := rfl
/-! loops -/
def lk (o : Option (List PyData × Rho)) (ft : FG) (fb : FS) : Option Out := o.bind fun p => forF ft fb p.1 p.2
theorem r_for {fi : FE (List PyData)} {ft : FG} {fb : FS} : fFor fi ft fb ρ = lk (fi ρ) ft fb := rfl
theorem r_lk {ft : FG} {fb : FS} : lk (some (ds, ρ)) ft fb = forF ft fb ds ρ := rfl
theorem r_items {f : FE PyData} : fItems f ρ = tk (f ρ) fun x => liftO (itemsOf x) := rfl
theorem r_itL : itemsOf (.list ds) = some ds := rfl
theorem r_itT : itemsOf (.tuple ds) = some ds := rfl
theorem r_enum {r : FE (List PyData)} : fEnum r ρ = tk (r ρ) fun xs => liftO (enumN xs) := rfl
theorem enumL_ok : enumN [.list ds] = some (enumD ds) := rfl
theorem enumT_ok : enumN [.tuple ds] = some (enumD ds) := rfl
theorem r_rng {g : List PyData → Option (List PyData)} {r : FE (List PyData)} : fRng g r ρ = tk (r ρ) fun xs => liftO (g xs) := rfl
theorem for_nx {ft : FG} {fb : FS} (h1 : ft d ρ = some ρ1) (h2 : fb ρ1 = some (.nx ρ2)) : forF ft fb (d :: ds) ρ = forF ft fb ds ρ2 := by
  show (ft d ρ).bind _ = _
  rw [h1]
  show (fb ρ1).bind _ = _
  rw [h2]
  rfl
theorem for_rt {ft : FG} {fb : FS} (h1 : ft d ρ = some ρ1) (h2 : fb ρ1 = some (.rt e ρ2)) : forF ft fb (d :: ds) ρ = some (.rt e ρ2) := by
  show (ft d ρ).bind _ = _
  rw [h1]
  show (fb ρ1).bind _ = _
  rw [h2]
  rfl
theorem for_nil {ft : FG} {fb : FS} : forF ft fb [] ρ = some (.nx ρ) := rfl
/-- a loop that goes through, its invariant told by how many items are done -/
theorem for_all {ft : FG} {fb : FS} (I : Nat → Rho → Prop) : ∀ (xs : List PyData) (k : Nat) (ρ : Rho), I k ρ → (∀ j d ρ, xs[j]? = some d → I (k + j) ρ → ∃ ρ1 ρ2, ft d ρ = some ρ1 ∧ fb ρ1 = some (.nx ρ2) ∧ I (k + j + 1) ρ2) →
    ∃ ρ', forF ft fb xs ρ = some (.nx ρ') ∧ I (k + xs.length) ρ'
  | [], k, ρ, h, _ => ⟨ρ, rfl, h⟩
  | d :: xs, k, ρ, h, step => by
    obtain ⟨ρ1, ρ2, h1, h2, h3⟩ := step 0 d ρ rfl h
    rw [for_nx h1 h2]
    obtain ⟨ρ', h4, h5⟩ := for_all I xs (k + 1) ρ2 h3 fun j e r hj hi => by
      obtain ⟨a, b, c1, c2, c3⟩ := step (j + 1) e r hj (by rw [show k + (j + 1) = k + 1 + j by omega]; exact hi)
      exact ⟨a, b, c1, c2, by rw [show k + 1 + j + 1 = k + (j + 1) + 1 by omega]; exact c3⟩
    exact ⟨ρ', h4, by rw [show k + (d :: xs).length = k + 1 + xs.length by rw [List.length_cons]; omega]; exact h5⟩
def lck2 (ρ : Rho) (vs : List Nat) (o : Option (List PyData × Rho)) : Option (List PyData × Rho) := o.map fun q => (q.1, backR ρ q.2 vs)
def lck (o : Option (List PyData × Rho)) (ft : FG) (tt : FE Bool) (fe : FE PyData) (vs : List Nat) : Option (List PyData × Rho) := o.bind fun p => if sizeOk p.1.length = true then lck2 p.2 vs (lcF ft tt fe vs p.1 (wipeR p.2 vs)) else none
theorem r_lc {fi : FE (List PyData)} {ft : FG} {tt : FE Bool} {fe : FE PyData} {vs : List Nat} : fLc fi ft tt fe vs ρ = lck (fi ρ) ft tt fe vs := rfl
theorem r_lck {ft : FG} {tt : FE Bool} {fe : FE PyData} {vs : List Nat} (h : sizeOk ds.length = true) : lck (some (ds, ρ)) ft tt fe vs = lck2 ρ vs (lcF ft tt fe vs ds (wipeR ρ vs)) := if_pos h
theorem r_lck2 {vs : List Nat} : lck2 ρ vs (some (ds, ρ1)) = some (ds, backR ρ ρ1 vs) := rfl
theorem lc_nil {ft : FG} {tt : FE Bool} {fe : FE PyData} {vs : List Nat} : lcF ft tt fe vs [] ρ = some ([], ρ) := rfl
/-- a comprehension whose turns all keep the slots r0 (those of its own wiped) and have an answer each -/
theorem lc_map {ft : FG} {tt : FE Bool} {fe : FE PyData} {vs : List Nat} {r0 : Rho} (g : PyData → Option PyData) : ∀ (xs : List PyData), (∀ d ∈ xs, ∃ ρ1 ρ2, ft d r0 = some ρ1 ∧ tt ρ1 = some ((g d).isSome, ρ2) ∧ (g d = none → wipeR ρ2 vs = r0) ∧ (∀ e, g d = some e → ∃ ρ3, fe ρ2 = some (e, ρ3) ∧ wipeR ρ3 vs = r0)) →
    lcF ft tt fe vs xs r0 = some (xs.filterMap g, r0)
  | [], _ => rfl
  | d :: xs, h => by
    obtain ⟨ρ1, ρ2, h1, h2, h3, h4⟩ := h d (List.mem_cons_self ..)
    have ih := lc_map g xs fun e he => h e (List.mem_cons_of_mem _ he)
    show (ft d r0).bind _ = _
    rw [h1]
    show (tt ρ1).bind _ = _
    rw [h2]
    cases hg : g d with
    | none =>
      rw [List.filterMap_cons_none hg, ← ih]
      show lcF ft tt fe vs xs (wipeR ρ2 vs) = _
      rw [h3 hg]
    | some e =>
      obtain ⟨ρ3, h5, h6⟩ := h4 e hg
      rw [List.filterMap_cons_some hg]
      show (fe ρ2).bind _ = _
      rw [h5]
      show (lcF ft tt fe vs xs (wipeR ρ3 vs)).map _ = _
      rw [h6, ih]
      rfl
theorem for_ct {ft : FG} {fb : FS} (h1 : ft d ρ = some ρ1) (h2 : fb ρ1 = some (.ct ρ2)) : forF ft fb (d :: ds) ρ = forF ft fb ds ρ2 := by
  show (ft d ρ).bind _ = _
  rw [h1]
  show (fb ρ1).bind _ = _
  rw [h2]
  rfl
/-! two clauses -/
theorem l2_step {ft ft1 : FG} {tt tt1 : FE Bool} {fi1 : FE (List PyData)} {fe : FE PyData} {vs vs1 : List Nat} {d : PyData} {ds es r z : List PyData} {ρ ρ1 ρ2 ρ3 ρ4 ρ5 : Rho} (h1 : ft d ρ = some ρ1) (h2 : tt ρ1 = some (true, ρ2)) (h3 : fi1 ρ2 = some (es, ρ3))
    (h4 : lcF ft1 tt1 fe vs1 es (wipeR ρ3 vs1) = some (r, ρ4)) (h5 : l2F ft tt fi1 ft1 tt1 fe vs vs1 ds (wipeR ρ4 vs) = some (z, ρ5)) : l2F ft tt fi1 ft1 tt1 fe vs vs1 (d :: ds) ρ = some (r ++ z, ρ5) := by
  unfold l2F
  rw [h1, Option.bind_some, h2, Option.bind_some]
  dsimp only
  rw [if_pos rfl, h3, Option.bind_some]
  dsimp only
  rw [h4, Option.bind_some]
  dsimp only
  rw [h5]
  rfl
/-! match -/
def mtk (o : Option (PyData × Rho)) (g : List PyData → FS) : Option Out := o.bind fun p => match p.1 with
  | .tuple ds => g ds p.2
  | _ => none
theorem r_mat {f : FE PyData} {g : List PyData → FS} : fMat f g ρ = mtk (f ρ) g := rfl
theorem r_mtk {g : List PyData → FS} : mtk (some (.tuple ds, ρ)) g = g ds ρ := rfl
theorem r_mEnd : mEnd ds ρ = some (.nx ρ) := rfl
theorem r_mCase {is : List Nat} {f : FS} {g : List PyData → FS} : mCase is f g ds ρ = if ds.length = is.length then (gSeq (is.map gNm) ds ρ).bind f else g ds ρ := rfl
/-! a def's run -/
theorem r_outM : outM (some (.rt d (.m ms :: ρ))) = some (d, ms) := rfl
theorem r_outMn : outM (some (.nx (.m ms :: ρ))) = some (.none, ms) := rfl
theorem r_outM1 {z : Sl} : outM1 (some (.rt d (z :: .m ms :: ρ))) = some (d, ms) := rfl
theorem r_outM1n {z : Sl} : outM1 (some (.nx (z :: .m ms :: ρ))) = some (.none, ms) := rfl
theorem r_outD : outD (some (.rt d ρ)) = some d := rfl
theorem r_outDf : outD (some (.rf ds ρ)) = some (.list ds) := rfl
theorem r_outDn : outD (some (.nx ρ)) = some .none := rfl
theorem r_outF : outF (some (.rf ds ρ)) = some ds := rfl
/-! operations at known values -/
section
variable {a b c : PyData} {l : List PyData}
theorem ixL0 : ixD (.list (a :: l)) (.int 0) = some a := atI_nat (j := 0) rfl
theorem ixL1 : ixD (.list (a :: b :: l)) (.int 1) = some b := atI_nat (j := 1) rfl
theorem ixL2 : ixD (.list (a :: b :: c :: l)) (.int 2) = some c := atI_nat (j := 2) rfl
theorem ixT0 : ixD (.tuple (a :: l)) (.int 0) = some a := atI_nat (j := 0) rfl
theorem ixT1 : ixD (.tuple (a :: b :: l)) (.int 1) = some b := atI_nat (j := 1) rfl
theorem ixT2 : ixD (.tuple (a :: b :: c :: l)) (.int 2) = some c := atI_nat (j := 2) rfl
theorem ixLn {k : Nat} (h : ds[k]? = some a) : ixD (.list ds) (.int (k : Int)) = some a := atI_nat h
theorem ixTn {k : Nat} (h : ds[k]? = some a) : ixD (.tuple ds) (.int (k : Int)) = some a := atI_nat h
theorem addI_ok {i j : Int} : addD (.int i) (.int j) = some (.int (i + j)) := rfl
theorem subI_ok {i j : Int} : subD (.int i) (.int j) = some (.int (i - j)) := rfl
theorem gtI_ok {i j : Int} : gtI (.int i) (.int j) = some (.bool (decide (j < i))) := rfl
theorem geI_ok {i j : Int} : geI (.int i) (.int j) = some (.bool (decide (j ≤ i))) := rfl
theorem leI_ok {i j : Int} : leI (.int i) (.int j) = some (.bool (decide (i ≤ j))) := rfl
theorem ltI_ok {i j : Int} : ltD (.int i) (.int j) = some (.bool (decide (i < j))) := rfl
theorem lenL_ok : lenD [.list ds] = some (.int ds.length) := rfl
theorem lenT_ok : lenD [.tuple ds] = some (.int ds.length) := rfl
theorem abs_ok {i : Int} : absD [.int i] = some (.int (if i < 0 then -i else i)) := rfl
theorem intB_ok {b : Bool} : intD [.bool b] = some (.int (if b then 1 else 0)) := rfl
theorem bits_le {i : Int} {k : Nat} (h0 : 0 ≤ i) (h : i < 2 ^ k) : Builtin.Int.intBits i ≤ k := by
  unfold Builtin.Int.intBits
  split
  · exact Nat.zero_le _
  · rename_i hi
    have hi : i ≠ 0 := by simpa using hi
    have h1 : i.natAbs ≠ 0 := by omega
    have h2 : i.natAbs < 2 ^ k := by
      have : ((2 ^ k : Nat) : Int) = (2 : Int) ^ k := by push_cast; rfl
      omega
    exact (Nat.log2_lt h1).mpr h2
theorem pow_ok {i : Int} {j : Int} (k : Nat) (h0 : 0 ≤ i) (h : i < 2 ^ k) (hj : 0 ≤ j) (hk : (k : Int) * j ≤ 2 ^ 27) : powD (.int i) (.int j) = some (.int (i ^ j.toNat)) := by
  unfold powD
  refine if_pos ⟨hj, Int.le_trans (Int.mul_le_mul_of_nonneg_right ?_ hj) hk⟩
  exact_mod_cast bits_le h0 h
theorem log_lt {i : Int} {k : Nat} (hk : 0 < k) (h0 : 0 ≤ i) (h : i < 2 ^ k) : i.natAbs.log2 < k := by
  by_cases hi : i.natAbs = 0
  · rw [hi]; exact hk
  · refine (Nat.log2_lt hi).mpr ?_
    have : ((2 ^ k : Nat) : Int) = (2 : Int) ^ k := by push_cast; rfl
    omega
theorem mul_ok {i j : Int} (k l : Nat) (hk : 0 < k) (hl : 0 < l) (h0 : 0 ≤ i) (h : i < 2 ^ k) (h0' : 0 ≤ j) (h' : j < 2 ^ l) (s : k + l ≤ 1000000) : mulI (.int i) (.int j) = some (.int (i * j)) := by
  unfold mulI
  have a := log_lt hk h0 h
  have b := log_lt hl h0' h'
  exact if_pos (by omega)
theorem mod_ok {i j : Int} (h : 0 < j) : modD (.int i) (.int j) = some (.int (i % j)) := if_pos h
theorem fdiv_ok {i j : Int} (k : Nat) (h : 0 < j) (hk : 0 < k) (h' : j < 2 ^ k) (s : k ≤ 9000) : fdivD (.int i) (.int j) = some (.int (i / j)) := by
  unfold fdivD
  have a := log_lt hk (Int.le_of_lt h) h'
  exact if_pos ⟨h, by omega⟩
end
end
end Tw

set_option Elab.async false
set_option linter.all false
set_option maxRecDepth 100000
set_option maxHeartbeats 2000000
/-! ### data of a told size: what repr shows -/
namespace Tw
open PySem PySem.Spec PyProof.Rows L2
/-- no longer than W, no deeper than D; lists lie in it only where l, dicts only where c -/
structure Fn (l c : Bool) (W D : Nat) (d : PyData) : Prop where
  ls : d.leavesShort 60 = true
  wt : d.weight ≤ W
  dp : d.depth ≤ D
  sh : d.showable = true
  nl : (noList d || l) = true
  nd : (!d.hasDict || c) = true
structure FnL (l c : Bool) (W D : Nat) (xs : List PyData) : Prop where
  ls : PyData.leavesShortAll 60 xs = true
  wt : PyData.weightAll xs ≤ W
  dp : PyData.depthAll xs ≤ D
  sh : PyData.showableAll xs = true
  nl : (noLists xs || l) = true
  nd : (!PyData.hasDictAll xs || c) = true
section
variable {l c : Bool} {W W1 W2 D D1 : Nat} {d : PyData} {xs ys : List PyData}
theorem or_bb {a b c : Bool} (h1 : (a || c) = true) (h2 : (b || c) = true) : (a && b || c) = true := by
  revert h1 h2; cases a <;> cases b <;> cases c <;> decide
theorem nor_bb {a b c : Bool} (h1 : (!a || c) = true) (h2 : (!b || c) = true) : (!(a || b) || c) = true := by
  revert h1 h2; cases a <;> cases b <;> cases c <;> decide
theorem bb_or {a b c : Bool} (h : (a && b || c) = true) : (a || c) = true ∧ (b || c) = true := by
  cases a <;> cases b <;> cases c <;> first | exact ⟨rfl, rfl⟩ | cases h
theorem bb_nor {a b c : Bool} (h : (!(a || b) || c) = true) : (!a || c) = true ∧ (!b || c) = true := by
  cases a <;> cases b <;> cases c <;> first | exact ⟨rfl, rfl⟩ | cases h
theorem FnL.nil : FnL l c W D [] := ⟨rfl, Nat.zero_le _, Nat.zero_le _, rfl, rfl, rfl⟩
theorem FnL.cons (h : Fn l c W1 D d) (t : FnL l c W2 D xs) : FnL l c (W1 + 1 + W2) D (d :: xs) where
  ls := Bool.and_eq_true_iff.mpr ⟨h.ls, t.ls⟩
  wt := by
    show d.weight + 1 + PyData.weightAll xs ≤ _
    have := h.wt
    have := t.wt
    omega
  dp := Nat.max_le.mpr ⟨h.dp, t.dp⟩
  sh := Bool.and_eq_true_iff.mpr ⟨h.sh, t.sh⟩
  nl := or_bb h.nl t.nl
  nd := nor_bb h.nd t.nd
theorem FnL.uncons (h : FnL l c W D (d :: xs)) : Fn l c W D d ∧ FnL l c W D xs ∧ d.weight + 1 + PyData.weightAll xs ≤ W := by
  have wt : d.weight + 1 + PyData.weightAll xs ≤ W := h.wt
  have l1 := Bool.and_eq_true_iff.mp h.ls
  have s1 := Bool.and_eq_true_iff.mp h.sh
  have d1 := Nat.max_le.mp h.dp
  have n1 := bb_or h.nl
  have n2 := bb_nor h.nd
  exact ⟨⟨l1.1, by omega, d1.1, s1.1, n1.1, n2.1⟩, ⟨l1.2, by omega, d1.2, s1.2, n1.2, n2.2⟩, wt⟩
theorem FnL.wide (h : FnL l c W D xs) (hW : W ≤ W1) (hD : D ≤ D1) : FnL l c W1 D1 xs := ⟨h.ls, Nat.le_trans h.wt hW, Nat.le_trans h.dp hD, h.sh, h.nl, h.nd⟩
theorem Fn.wide (h : Fn l c W D d) (hW : W ≤ W1) (hD : D ≤ D1) : Fn l c W1 D1 d := ⟨h.ls, Nat.le_trans h.wt hW, Nat.le_trans h.dp hD, h.sh, h.nl, h.nd⟩
theorem or_more {a b c : Bool} (h : (a || b) = true) (hi : b = true → c = true) : (a || c) = true := by
  revert h hi; cases a <;> cases b <;> cases c <;> decide
theorem Fn.more (h : Fn l c W D d) {l' c' : Bool} (hl : l = true → l' = true) (hc : c = true → c' = true) : Fn l' c' W D d := ⟨h.ls, h.wt, h.dp, h.sh, or_more h.nl hl, or_more h.nd hc⟩
theorem FnL.more (h : FnL l c W D xs) {l' c' : Bool} (hl : l = true → l' = true) (hc : c = true → c' = true) : FnL l' c' W D xs := ⟨h.ls, h.wt, h.dp, h.sh, or_more h.nl hl, or_more h.nd hc⟩
theorem FnL.app : ∀ {xs : List PyData} {W1 : Nat}, FnL l c W1 D xs → FnL l c W2 D ys → FnL l c (W1 + W2) D (xs ++ ys)
  | [], _, h, t => t.wide (Nat.le_add_left _ _) (Nat.le_refl _)
  | d :: xs, W1, h, t => by
    obtain ⟨h1, h2, h3⟩ := h.uncons
    have h2' : FnL l c (PyData.weightAll xs) D xs := ⟨h2.ls, Nat.le_refl _, h2.dp, h2.sh, h2.nl, h2.nd⟩
    have h1' : Fn l c d.weight D d := ⟨h1.ls, Nat.le_refl _, h1.dp, h1.sh, h1.nl, h1.nd⟩
    exact (FnL.cons h1' (FnL.app h2' t)).wide (by omega) (Nat.le_refl _)
theorem FnL.take : ∀ {xs : List PyData} {W : Nat} (n : Nat), FnL l c W D xs → FnL l c W D (xs.take n)
  | _, _, 0, _ => by rw [List.take_zero]; exact .nil
  | [], _, n + 1, _ => by rw [List.take_nil]; exact .nil
  | d :: xs, W, n + 1, h => by
    obtain ⟨h1, h2, h3⟩ := h.uncons
    have h2' : FnL l c (PyData.weightAll xs) D xs := ⟨h2.ls, Nat.le_refl _, h2.dp, h2.sh, h2.nl, h2.nd⟩
    have h1' : Fn l c d.weight D d := ⟨h1.ls, Nat.le_refl _, h1.dp, h1.sh, h1.nl, h1.nd⟩
    rw [List.take_succ_cons]
    exact (FnL.cons h1' (FnL.take n h2')).wide h3 (Nat.le_refl _)
theorem FnL.drop : ∀ {xs : List PyData} {W : Nat} (n : Nat), FnL l c W D xs → FnL l c W D (xs.drop n)
  | _, _, 0, h => h
  | [], _, n + 1, _ => by rw [List.drop_nil]; exact .nil
  | d :: xs, W, n + 1, h => by
    rw [List.drop_succ_cons]
    exact FnL.drop n h.uncons.2.1
theorem FnL.cut (lo hi : Option Int) (h : FnL l c W D xs) : FnL l c W D (cutD xs lo hi) := (h.drop _).take _
theorem FnL.rev : ∀ {xs : List PyData} {W : Nat}, FnL l c W D xs → FnL l c W D xs.reverse
  | [], _, h => .nil
  | d :: xs, W, h => by
    obtain ⟨h1, h2, h3⟩ := h.uncons
    have h2' : FnL l c (PyData.weightAll xs) D xs := ⟨h2.ls, Nat.le_refl _, h2.dp, h2.sh, h2.nl, h2.nd⟩
    have h1' : Fn l c d.weight D d := ⟨h1.ls, Nat.le_refl _, h1.dp, h1.sh, h1.nl, h1.nd⟩
    rw [List.reverse_cons]
    exact (FnL.app (FnL.rev h2') (FnL.cons (W2 := 0) h1' .nil)).wide (by omega) (Nat.le_refl _)
theorem FnL.get : ∀ {xs : List PyData} {W : Nat} {i : Nat} {d : PyData}, FnL l c W D xs → xs[i]? = some d → Fn l c W D d
  | [], _, _, _, _, e => by simp at e
  | x :: xs, W, 0, d, h, e => by
    simp at e
    subst e
    exact h.uncons.1
  | x :: xs, W, i + 1, d, h, e => FnL.get (i := i) h.uncons.2.1 (by simpa using e)
theorem FnL.all : ∀ {xs : List PyData} (n : Nat), xs.length ≤ n → (∀ d ∈ xs, Fn l c W1 D d) → FnL l c ((W1 + 1) * n) D xs
  | [], _, _, _ => .nil
  | d :: xs, 0, h, _ => absurd h (by simp)
  | d :: xs, n + 1, h, f => (FnL.cons (f d (List.mem_cons_self ..)) (FnL.all n (by simpa using h) fun e he => f e (List.mem_cons_of_mem _ he))).wide (by rw [Nat.mul_add]; omega) (Nat.le_refl _)
theorem Fn.tup (h : FnL l c W D xs) : Fn l c W (D + 1) (.tuple xs) := ⟨h.ls, h.wt, Nat.succ_le_succ h.dp, h.sh, h.nl, h.nd⟩
theorem Fn.lst (h : FnL true c W D xs) : Fn true c W (D + 1) (.list xs) := ⟨h.ls, h.wt, Nat.succ_le_succ h.dp, h.sh, rfl, h.nd⟩
theorem Fn.none : Fn l c W D .none := ⟨rfl, Nat.zero_le _, Nat.zero_le _, rfl, rfl, rfl⟩
theorem Fn.bool (b : Bool) : Fn l c W D (.bool b) := ⟨rfl, Nat.zero_le _, Nat.zero_le _, rfl, rfl, rfl⟩
theorem Fn.int {i : Int} (h : i.natAbs < 10 ^ 50) (hW : 170 ≤ W) : Fn l c W D (.int i) where
  ls := by
    refine decide_eq_true ?_
    have e := int_text_length_le10 (k := 50) (by decide) h
    show (Str.ofString (toString i)).length ≤ 60
    rw [PySem.ofString_length]
    omega
  wt := by
    show (if i == 0 then 0 else i.natAbs.log2 + 1) ≤ W
    split
    · omega
    · rename_i h0
      have h0 : i.natAbs ≠ 0 := by simpa using h0
      have : i.natAbs.log2 < 167 := (Nat.log2_lt h0).mpr (Nat.lt_of_lt_of_le h (by decide))
      omega
  dp := Nat.zero_le _
  sh := by
    refine decide_eq_true ?_
    by_cases h0 : i.natAbs = 0
    · rw [h0]; decide
    · exact Nat.lt_of_lt_of_le ((Nat.log2_lt (k := 167) h0).mpr (Nat.lt_of_lt_of_le h (by decide))) (by decide)
  nl := rfl
  nd := rfl
theorem Fn.sint {i : Int} (h : i.natAbs < 2 ^ 20) (hW : 20 ≤ W) : Fn l c W D (.int i) where
  ls := (Fn.int (l := l) (c := c) (W := 170) (D := 0) (i := i) (Nat.lt_of_lt_of_le h (by decide)) (Nat.le_refl _)).ls
  wt := by
    show (if i == 0 then 0 else i.natAbs.log2 + 1) ≤ W
    split
    · omega
    · rename_i h0
      have h0 : i.natAbs ≠ 0 := by simpa using h0
      have : i.natAbs.log2 < 20 := (Nat.log2_lt h0).mpr h
      omega
  dp := Nat.zero_le _
  sh := (Fn.int (l := l) (c := c) (W := 170) (D := 0) (i := i) (Nat.lt_of_lt_of_le h (by decide)) (Nat.le_refl _)).sh
  nl := rfl
  nd := rfl
theorem Fn.str {x : Str} (h : (x.cps.toList.all fun c => decide (c < 16 ^ 8)) = true) (hW : x.cps.size ≤ W) : Fn l c W D (.str x) := ⟨h, hW, Nat.zero_le _, rfl, rfl, rfl⟩
theorem Fn.dict0 : Fn l true W (D + 1) (.dict []) := ⟨rfl, Nat.zero_le _, Nat.le_add_left _ _, rfl, rfl, rfl⟩
theorem Fn.ok (h : Fn l c 60000 60 d) (hlc : (l && c) = false) : shownOk d = true := by
  have h1 := PyData.shown_le 60 (by decide) d h.ls
  have h2 := h.wt
  unfold shownOk
  rw [h.sh, Bool.true_and, Bool.and_eq_true, Bool.and_eq_true]
  refine ⟨⟨decide_eq_true ?_, decide_eq_true h.dp⟩, ?_⟩
  · rw [sizeLine_eq]
    omega
  · have a := h.nl
    have b := h.nd
    cases l <;> cases c <;> simp_all
end
end Tw

set_option Elab.async false
set_option linter.all false
set_option maxRecDepth 100000
set_option maxHeartbeats 4000000
namespace Lw
open PySem PySem.Spec PyProof.Rows L2 Tw
abbrev topS (i : Nat) : Stmt := PySem.Challenge.pw_tiewheel_k05_whole_parts_again.main.body.getD i (.Pass ⟨0, 0, 0, 0⟩)
structure Tops (K : PySem.W.Frag) (mg : Str → Option Value) : Prop where
  b_abs : mg "abs" = none
  b_all : mg "all" = none
  b_bool : mg "bool" = none
  b_enumerate : mg "enumerate" = none
  b_int : mg "int" = none
  b_isinstance : mg "isinstance" = none
  b_len : mg "len" = none
  b_list : mg "list" = none
  b_max : mg "max" = none
  b_min : mg "min" = none
  b_range : mg "range" = none
  b_repr : mg "repr" = none
  b_sorted : mg "sorted" = none
  b_tuple : mg "tuple" = none
  b_zip : mg "zip" = none
  c_HANDS : ∃ t, mg "HANDS" = some (.int 4 t)
  c_MOST_POSTS : ∃ t, mg "MOST_POSTS" = some (.int 60 t)
abbrev s__law_take : Stmt := topS 26
theorem sc__law_take : FnScope ["_law_pot_here", "_law_many", "_law_one", "_law_other", "_law_found"] ["_law_pot_here", "_law_many"] (defScope s__law_take) := ⟨rfl, rfl, rfl, by decide +kernel, rfl, by decide +kernel, by decide +kernel⟩
def f__law_take : FS := (fSeq (fIfS (fTst (fBin gtI (fPeek 0 (fBin ixD (fVar 0) (ret (.int 0)))) (ret (.int 0)))) (fSeq (fAsg (fBin modD (fPeek 0 (fBin ixD (fVar 0) (ret (.int 0)))) (fVar 1)) (gNm 4))
    (fSeq (fSetI 0 (fBin fdivD (fPeek 0 (fBin ixD (fVar 0) (ret (.int 0)))) (fVar 1)) (ret (.int 0)))
    (fRet (fVar 4)))) fNext)
    (fSeq (fSetI 0 (fBin addD (fPeek 0 (fBin ixD (fVar 0) (ret (.int 2)))) (ret (.int 1))) (ret (.int 2)))
    (fSeq (fAsg (fBin modD (fBin powD (fBin addD (fPeek 0 (fBin ixD (fVar 0) (ret (.int 1)))) (fBin mulI (ret (.int 86028157)) (fPeek 0 (fBin ixD (fVar 0) (ret (.int 2)))))) (ret (.int 3))) (ret (.int 2305843009213693907))) (gNm 2))
    (fSeq (fAsg (fBin modD (fBin powD (fBin addD (fBin addD (fVar 2) (fBin modD (fPeek 0 (fBin ixD (fVar 0) (ret (.int 1)))) (ret (.int 1000003)))) (fBin mulI (ret (.int 31)) (fPeek 0 (fBin ixD (fVar 0) (ret (.int 2)))))) (ret (.int 5))) (ret (.int 2305843009213693921))) (gNm 3))
    (fRet (fBin modD (fBin fdivD (fVar 3) (ret (.int 4096))) (fVar 1)))))))
def g__law_take : List PyData → List PyData → Option (PyData × List PyData) := runM 5 f__law_take
theorem mk__law_take {Pr : Program} {w : World} {K : PySem.W.Frag} {mg : Str → Option Value} {base : Heap} (T : Tops K mg) {f : Addr} {fd : FuncData} (F : Fun K "_law_take" "_law_take" s__law_take f fd) (gl : mg "_law_take" = some (.ref f)) :
    Cal Pr w K mg base 1 "_law_take" ["_law_pot_here", "_law_many"] (spM K 1 g__law_take) f fd := by
  refine ⟨fn_M F sc__law_take (by decide) fun cdv A outer s H hh => ?_, gl, F.kp, F.binds (ps := ["_law_pot_here", "_law_many"]) fun _ _ _ _ _ _ us hl => match us, hl with | [_, _], _ => rfl⟩
  have nd := sc__law_take.nd
  exact (s_cons (s_if (bb := true) (t_cmp op_gtI d_gtI (nomark _) (e_peek 0 (e_ix ix_seqB d_ix (fun _ _ => rfl) (e_var 0 (pv 0)) e_int)) e_int) (s_cons (s_asg (bb := true) (e_op op_mod d_mod (e_peek 0 (e_ix ix_seqB d_ix (fun _ _ => rfl) (e_var 0 (pv 0)) e_int)) (e_var 1 (pv 1))) (g_nm (P := [0]) (by decide) (pg_name (i := 4) nd rfl (by first | exact Or.inl rfl | exact Or.inr rfl))))
    (s_cons (s_setI 0 (pg_sub (pv 0) e_int set_list2) (e_op op_fdivW d_fdiv (e_peek 0 (e_ix ix_seqB d_ix (fun _ _ => rfl) (e_var 0 (pv 0)) e_int)) (e_var 1 (pv 1))))
    (s_one (s_ret (bb := true) (e_var 4 (pv 4)))))) s_nil)
    (s_cons (s_setI 0 (pg_sub (pv 0) e_int set_list2) (e_op op_addD d_add (e_peek 0 (e_ix ix_seqB d_ix (fun _ _ => rfl) (e_var 0 (pv 0)) e_int)) e_int))
    (s_cons (s_asg (bb := true) (e_op op_mod d_mod (e_op op_powW d_pow (e_op op_addD d_add (e_peek 0 (e_ix ix_seqB d_ix (fun _ _ => rfl) (e_var 0 (pv 0)) e_int)) (e_op op_mulW d_mulI e_int (e_peek 0 (e_ix ix_seqB d_ix (fun _ _ => rfl) (e_var 0 (pv 0)) e_int)))) e_int) e_int) (g_nm (P := [0]) (by decide) (pg_name (i := 2) nd rfl (by first | exact Or.inl rfl | exact Or.inr rfl))))
    (s_cons (s_asg (bb := true) (e_op op_mod d_mod (e_op op_powW d_pow (e_op op_addD d_add (e_op op_addD d_add (e_var 2 (pv 2)) (e_op op_mod d_mod (e_peek 0 (e_ix ix_seqB d_ix (fun _ _ => rfl) (e_var 0 (pv 0)) e_int)) e_int)) (e_op op_mulW d_mulI e_int (e_peek 0 (e_ix ix_seqB d_ix (fun _ _ => rfl) (e_var 0 (pv 0)) e_int)))) e_int) e_int) (g_nm (P := [0]) (by decide) (pg_name (i := 3) nd rfl (by first | exact Or.inl rfl | exact Or.inr rfl))))
    (s_one (s_ret (bb := true) (e_op op_mod d_mod (e_op op_fdivW d_fdiv (e_var 3 (pv 3)) e_int) (e_var 1 (pv 1)))))))))
abbrev s__law_world : Stmt := topS 27
theorem sc__law_world : FnScope ["_law_pot_here", "_law_most", "_law_many", "_law_often", "_law_pairs", "_law_kinds", "_law_post", "_law_ways", "_law_kind", "_law_pair", "_law_left", "_law_hand", "_law_turn", "_law_at", "_law_way"] ["_law_pot_here", "_law_most"] (defScope s__law_world) := ⟨rfl, rfl, rfl, by decide +kernel, rfl, by decide +kernel, by decide +kernel⟩
def b1__law_world : FS := (fSeq (fAsg (fBin ixD (fVar 4) (fCallM 1 g__law_take 0 (fCons (ret (.int 6)) fNil))) (gNm 9))
    (fDrop (fMet 5 extG (fCons (fOf (fLc (fRng rng1 (fCons (ret (.int 4)) fNil)) (gNm 12) (ret true) (fBin (inD false) (fVar 12) (fVar 9)) [12])) fNil))))
def b2__law_world : FS := (fSeq (fAsg (fMet 10 popG (fCons (ret (.int 0)) fNil)) (gNm 11))
    (fIfS (tdOr (tPeek 10 (fTst (fBin eqD (fVar 10) (fOf (thnE fNil fun xs => liftO (if sizeOk xs.length = true then some xs else none)))))) (tdAnd (fTst (fBin gtI (fVar 3) (ret (.int 0)))) (fTst (fBin eqD (fCallM 1 g__law_take 0 (fCons (fVar 3) fNil)) (ret (.int 0)))))) (fDrop (fMet 7 appG (fCons (fTup (fCons (fVar 11) fNil)) fNil))) (fDrop (fMet 7 appG (fCons (fTup (fCons (fVar 11) (fCons (fMet 10 popG (fCons (fCallM 1 g__law_take 0 (fCons (fPeek 10 (fCall lenD (fCons (fVar 10) fNil))) fNil)) fNil)) fNil))) fNil)))))
def b3__law_world : FS := (fSeq (fOwn (fLc (fRng rng1 (fCons (fBin mulI (ret (.int 4)) (fVar 2)) fNil)) (gNm 11) (fTst (fBin eqD (fBin ixD (fVar 5) (fVar 11)) (fVar 8))) (fVar 11) [11]) 10)
    (whF (tPeek 10 (fTst (fBin neD (fVar 10) (fOf (thnE fNil fun xs => liftO (if sizeOk xs.length = true then some xs else none)))))) b2__law_world 1000))
def f__law_world : FS := (fSeq (fAsg (fCallM 1 g__law_take 0 (fCons (fBin addD (fVar 1) (ret (.int 1))) fNil)) (gNm 2))
    (fSeq (fAsg (fBin ixD (fOf (thnE (fCons (ret (.int 0)) (fCons (ret (.int 2)) (fCons (ret (.int 4)) (fCons (ret (.int 9)) fNil)))) fun xs => liftO (if sizeOk xs.length = true then some xs else none))) (fCallM 1 g__law_take 0 (fCons (ret (.int 4)) fNil))) (gNm 3))
    (fSeq (fAsg (fOf (thnE (fCons (fTup (fCons (ret (.int 0)) (fCons (ret (.int 1)) fNil))) (fCons (fTup (fCons (ret (.int 0)) (fCons (ret (.int 2)) fNil))) (fCons (fTup (fCons (ret (.int 0)) (fCons (ret (.int 3)) fNil))) (fCons (fTup (fCons (ret (.int 1)) (fCons (ret (.int 2)) fNil))) (fCons (fTup (fCons (ret (.int 1)) (fCons (ret (.int 3)) fNil))) (fCons (fTup (fCons (ret (.int 2)) (fCons (ret (.int 3)) fNil))) fNil)))))) fun xs => liftO (if sizeOk xs.length = true then some xs else none))) (gNm 4))
    (fSeq (fOwn (thnE fNil fun xs => liftO (if sizeOk xs.length = true then some xs else none)) 5)
    (fSeq (fFor (fRng rng1 (fCons (fVar 2) fNil)) (gNm 6) b1__law_world)
    (fFrz 5 (fSeq (fOwn (thnE fNil fun xs => liftO (if sizeOk xs.length = true then some xs else none)) 7)
    (fSeq (fFor (fItems (fOf (thnE (fCons (ret (.bool true)) (fCons (ret (.bool false)) fNil)) fun xs => liftO (if sizeOk xs.length = true then some xs else none)))) (gNm 8) b3__law_world)
    (fFrz 7 (fSeq (fAsg (fCall sortedD (fCons (fVar 7) fNil)) (gNm 7))
    (fRet (fTup (fCons (fTup (fCons (fVar 2) (fCons (fCall tupleD (fCons (fVar 7) fNil)) fNil))) (fCons (fCall tupleD (fCons (fOf (fLc (fEnum (fCons (fVar 7) fNil)) (gTp [(gNm 13), (gNm 14)]) (fTst (fBin ixD (fVar 5) (fBin ixD (fVar 14) (ret (.int 0))))) (fVar 13) [13, 14])) fNil)) fNil))))))))))))))
def g__law_world : List PyData → List PyData → Option (PyData × List PyData) := runM 15 f__law_world
theorem mk__law_world {Pr : Program} {w : World} {K : PySem.W.Frag} {mg : Str → Option Value} {base : Heap} (T : Tops K mg) {a__law_take : Addr} {d__law_take : FuncData} (c__law_take : Cal Pr w K mg base 1 "_law_take" ["_law_pot_here", "_law_many"] (spM K 1 g__law_take) a__law_take d__law_take) {f : Addr} {fd : FuncData} (F : Fun K "_law_world" "_law_world" s__law_world f fd) (gl : mg "_law_world" = some (.ref f)) :
    Cal Pr w K mg base 2 "_law_world" ["_law_pot_here", "_law_most"] (spM K 1 g__law_world) f fd := by
  refine ⟨fn_M F sc__law_world (by decide) fun cdv A outer s H hh => ?_, gl, F.kp, F.binds (ps := ["_law_pot_here", "_law_most"]) fun _ _ _ _ _ _ us hl => match us, hl with | [_, _], _ => rfl⟩
  have nd := sc__law_world.nd
  exact (s_cons (s_asg (bb := true) (e_callM 0 c__law_take.ok (hh.mono (by decide)) (by rfl) c__law_take.gl c__law_take.kp c__law_take.bd (pv 0) (a_cons (e_op op_addD d_add (e_var 1 (pv 1)) e_int) a_nil)) (g_nm (P := [0]) (by decide) (pg_name (i := 2) nd rfl (by first | exact Or.inl rfl | exact Or.inr rfl))))
    (s_cons (s_asg (bb := true) (e_ix ix_seqB d_ix (fun _ _ => rfl) (e_ofF (l_lst (a_cons e_int (a_cons e_int (a_cons e_int (a_cons e_int a_nil)))))) (e_callM 0 c__law_take.ok (hh.mono (by decide)) (by rfl) c__law_take.gl c__law_take.kp c__law_take.bd (pv 0) (a_cons e_int a_nil))) (g_nm (P := [0]) (by decide) (pg_name (i := 3) nd rfl (by first | exact Or.inl rfl | exact Or.inr rfl))))
    (s_cons (s_asg (bb := true) (e_ofF (l_lst (a_cons (e_tup (a_cons e_int (a_cons e_int a_nil))) (a_cons (e_tup (a_cons e_int (a_cons e_int a_nil))) (a_cons (e_tup (a_cons e_int (a_cons e_int a_nil))) (a_cons (e_tup (a_cons e_int (a_cons e_int a_nil))) (a_cons (e_tup (a_cons e_int (a_cons e_int a_nil))) (a_cons (e_tup (a_cons e_int (a_cons e_int a_nil))) a_nil)))))))) (g_nm (P := [0]) (by decide) (pg_name (i := 4) nd rfl (by first | exact Or.inl rfl | exact Or.inr rfl))))
    (s_cons (s_own (bb := true) 5 (P := [0]) (by decide) (l_lst a_nil) (pg_name (i := 5) nd rfl (by first | exact Or.inl rfl | exact Or.inr rfl)))
    (s_cons (s_for (bb := true) PassesOwn.never hh.c (i_rng1 (by rfl) T.b_range (a_cons (e_var 2 (pv 2)) a_nil)) (g_nm (P := [0]) (by decide) (pg_name (i := 6) nd rfl (by first | exact Or.inl rfl | exact Or.inr rfl))) (s_cons (s_asg (bb := true) (e_ix ix_seqB d_ix (fun _ _ => rfl) (e_var 4 (pv 4)) (e_callM 0 c__law_take.ok (hh.mono (by decide)) (by rfl) c__law_take.gl c__law_take.kp c__law_take.bd (pv 0) (a_cons e_int a_nil))) (g_nm (P := [0]) (by decide) (pg_name (i := 9) nd rfl (by first | exact Or.inl rfl | exact Or.inr rfl))))
    (s_one (s_drop (bb := true) (e_met 5 m_ext (pe_bm PySem.F.plainAttrs_list PySem.F.slot_list_extend PySem.F.type_list_extend mt_ext (pv 5) (a_cons (e_ofF (l_lc (own := [("_law_turn", 12)]) 15 hh.c nd (i_rng1 (by rfl) T.b_range (a_cons e_int a_nil)) (blkOk_by (by first | rfl | kernel_rfl)) (fun _ _ _ _ _ => (g_nm (P := compl 15 [12]) (by decide) (pg_name (i := 12) nd rfl (by first | exact Or.inl rfl | exact Or.inr rfl)))) (fun _ _ _ _ _ => ts_nil) (fun _ _ _ _ _ => (e_cmp op_in_seq (d_in false) (by rfl) (e_var 12 (pv 12)) (e_var 9 (pv 9)))))) a_nil)))))))
    (ss_frz 5 (s_cons (s_own (bb := true) 7 (P := [0]) (by decide) (l_lst a_nil) (pg_name (i := 7) nd rfl (by first | exact Or.inl rfl | exact Or.inr rfl)))
    (s_cons (s_for (bb := true) PassesOwn.never hh.c (i_seq (e_ofF (l_lst (a_cons e_bl (a_cons e_bl a_nil))))) (g_nm (P := [0]) (by decide) (pg_name (i := 8) nd rfl (by first | exact Or.inl rfl | exact Or.inr rfl))) (s_cons (s_ownLc (bb := true) (i := 10) (P := [0]) (own := [("_law_hand", 11)]) 15 (by decide) hh.c nd rfl rfl (sw_true rfl rfl rfl (by decide +kernel)) (i_rng1 (by rfl) T.b_range (a_cons (e_op op_mulW d_mulI e_int (e_var 2 (pv 2))) a_nil)) (blkOk_by (by first | rfl | kernel_rfl)) (fun _ _ _ _ _ => (g_nm (P := compl 15 [11]) (by decide) (pg_name (i := 11) nd rfl (by first | exact Or.inl rfl | exact Or.inr rfl)))) (fun _ _ _ _ _ => (ts_one (t_cmp (op_eq2 hh.blk.u) d_eq (nomark _) (e_ix ix_seqB d_ix (fun _ _ => rfl) (e_var 5 (pv 5)) (e_var 11 (pv 11))) (e_var 8 (pv 8))))) (fun _ _ _ _ _ => (e_var 11 (pv 11))))
    (s_one (s_while (bb := true) 1000 PassesOwn.never (t_peek 10 (t_cmp (op_ne2 hh.u) d_ne (nomark _) (e_var 10 (pv 10)) (e_ofF (l_lst a_nil)))) (s_cons (s_asg (bb := true) (e_met 10 m_pop (pe_bm PySem.F.plainAttrs_list PySem.F.slot_list_pop PySem.F.type_list_pop mt_popAt (pv 10) (a_cons e_int a_nil))) (g_nm (P := [0]) (by decide) (pg_name (i := 11) nd rfl (by first | exact Or.inl rfl | exact Or.inr rfl))))
    (s_one (s_if (bb := true) (PW.pt (w_or (t_peek 10 (t_cmp (op_eq2 hh.u) d_eq (nomark _) (e_var 10 (pv 10)) (e_ofF (l_lst a_nil)))) (w_or1 (PW.pt (w_and (t_cmp op_gtI d_gtI (nomark _) (e_var 3 (pv 3)) e_int) (w_and1 (t_cmp (op_eq2 hh.u) d_eq (nomark _) (e_callM 0 c__law_take.ok (hh.mono (by decide)) (by rfl) c__law_take.gl c__law_take.kp c__law_take.bd (pv 0) (a_cons (e_var 3 (pv 3)) a_nil)) e_int))))))) (s_one (s_drop (bb := true) (e_met 7 m_app (pe_bm PySem.F.plainAttrs_list PySem.F.slot_list_append PySem.F.type_list_append mt_append (pv 7) (a_cons (e_tup (a_cons (e_var 11 (pv 11)) a_nil)) a_nil))))) (s_one (s_drop (bb := true) (e_met 7 m_app (pe_bm PySem.F.plainAttrs_list PySem.F.slot_list_append PySem.F.type_list_append mt_append (pv 7) (a_cons (e_tup (a_cons (e_var 11 (pv 11)) (a_cons (e_met 10 m_pop (pe_bm PySem.F.plainAttrs_list PySem.F.slot_list_pop PySem.F.type_list_pop mt_popAt (pv 10) (a_cons (e_callM 0 c__law_take.ok (hh.mono (by decide)) (by rfl) c__law_take.gl c__law_take.kp c__law_take.bd (pv 0) (a_cons (e_peek 10 (e_callB call_lenD2 d_len (by rfl) T.b_len (by decide +kernel) (a_cons (e_var 10 (pv 10)) a_nil))) a_nil)) a_nil))) a_nil))) a_nil))))))))))))
    (ss_frz 7 (s_cons (s_asg (bb := true) (e_callB (call_sortD hh.u) d_sorted (by rfl) T.b_sorted (by decide +kernel) (a_cons (e_var 7 (pv 7)) a_nil)) (g_nm (P := [0]) (by decide) (pg_name (i := 7) nd rfl (by first | exact Or.inl rfl | exact Or.inr rfl))))
    (s_one (s_ret (bb := true) (e_tup (a_cons (e_tup (a_cons (e_var 2 (pv 2)) (a_cons (e_callTy call_tuple_of d_tuple (by rfl) T.b_tuple (by decide +kernel) (a_cons (e_var 7 (pv 7)) a_nil)) a_nil))) (a_cons (e_callTy call_tuple_of d_tuple (by rfl) T.b_tuple (by decide +kernel) (a_cons (e_ofF (l_lc (own := [("_law_at", 13), ("_law_way", 14)]) 15 hh.c nd (i_enum (by rfl) T.b_enumerate (a_cons (e_var 7 (pv 7)) a_nil)) (blkOk_by (by first | rfl | kernel_rfl)) (fun _ _ _ _ _ => (g_tp hh.blk.c (gs_cons (g_nm (P := compl 15 [13, 14]) (by decide) (pg_name (i := 13) nd rfl (by first | exact Or.inl rfl | exact Or.inr rfl))) (gs_cons (g_nm (P := compl 15 [13, 14]) (by decide) (pg_name (i := 14) nd rfl (by first | exact Or.inl rfl | exact Or.inr rfl))) gs_nil)))) (fun _ _ _ _ _ => (ts_one (t_val (e_ix ix_seqB d_ix (fun _ _ => rfl) (e_var 5 (pv 5)) (e_ix ix_seqB d_ix (fun _ _ => rfl) (e_var 14 (pv 14)) e_int))))) (fun _ _ _ _ _ => (e_var 13 (pv 13))))) a_nil)) a_nil)))))))))))))))
abbrev s__law_beside : Stmt := topS 28
theorem sc__law_beside : FnScope ["_law_pot_here", "_law_many", "_law_ways", "_law_turn", "_law_left", "_law_names", "_law_turns", "_law_found", "_law_way", "_law_web", "_law_post", "_law_hand"] ["_law_pot_here"] (defScope s__law_beside) := ⟨rfl, rfl, rfl, by decide +kernel, rfl, by decide +kernel, by decide +kernel⟩
def b1__law_beside : FS := (fDrop (fMet 2 appG (fCons (fOf (fLc (fItems (fVar 8)) (gNm 11) (ret true) (fBin addD (fBin mulI (ret (.int 4)) (fVar 1)) (fVar 11)) [11])) fNil)))
def b2__law_beside : FS := (fSeq (fAsg (fBin ixD (fCallM 1 g__law_world 0 (fCons (ret (.int 4)) fNil)) (ret (.int 0))) (gNm 9))
    (fSeq (fFor (fItems (fBin ixD (fVar 9) (ret (.int 1)))) (gNm 8) b1__law_beside)
    (fAsg (fBin addD (fVar 1) (fBin ixD (fVar 9) (ret (.int 0)))) (gNm 1))))
def b3__law_beside : FS := (fDrop (fMet 7 appG (fCons (fCall tupleD (fCons (fCall sortedD (fCons (fOf (fLc (fItems (fVar 8)) (gNm 11) (ret true) (fBin addD (fBin mulI (ret (.int 4)) (fBin ixD (fVar 5) (fBin fdivD (fVar 11) (ret (.int 4))))) (fBin ixD (fBin ixD (fVar 6) (fBin fdivD (fVar 11) (ret (.int 4)))) (fBin modD (fVar 11) (ret (.int 4))))) [11])) fNil)) fNil)) fNil)))
def f__law_beside : FS := (fSeq (fAsg (ret (.int 0)) (gNm 1))
    (fSeq (fOwn (thnE fNil fun xs => liftO (if sizeOk xs.length = true then some xs else none)) 2)
    (fSeq (fFor (fRng rng1 (fCons (fBin addD (ret (.int 2)) (fCallM 1 g__law_take 0 (fCons (ret (.int 3)) fNil))) fNil)) (gNm 3) b2__law_beside)
    (fFrz 2 (fSeq (fOwn (thnE (fVar 1) fun x => liftO (rg1 x)) 4)
    (fSeq (fAsg (fOf (fLc (fRng rng1 (fCons (fVar 1) fNil)) (gNm 10) (ret true) (fMet 4 popG (fCons (fCallM 1 g__law_take 0 (fCons (fPeek 4 (fCall lenD (fCons (fVar 4) fNil))) fNil)) fNil)) [10])) (gNm 5))
    (fSeq (fAsg (fOf (fLc (fRng rng1 (fCons (fVar 1) fNil)) (gNm 10) (ret true) (fBin ixD (fOf (thnE (fCons (fTup (fCons (ret (.int 0)) (fCons (ret (.int 1)) (fCons (ret (.int 2)) (fCons (ret (.int 3)) fNil))))) (fCons (fTup (fCons (ret (.int 1)) (fCons (ret (.int 0)) (fCons (ret (.int 3)) (fCons (ret (.int 2)) fNil))))) (fCons (fTup (fCons (ret (.int 2)) (fCons (ret (.int 3)) (fCons (ret (.int 0)) (fCons (ret (.int 1)) fNil))))) (fCons (fTup (fCons (ret (.int 3)) (fCons (ret (.int 1)) (fCons (ret (.int 0)) (fCons (ret (.int 2)) fNil))))) fNil)))) fun xs => liftO (if sizeOk xs.length = true then some xs else none))) (fCallM 1 g__law_take 0 (fCons (ret (.int 4)) fNil))) [10])) (gNm 6))
    (fSeq (fOwn (thnE fNil fun xs => liftO (if sizeOk xs.length = true then some xs else none)) 7)
    (fSeq (fFor (fItems (fVar 2)) (gNm 8) b3__law_beside)
    (fFrz 7 (fRet (fTup (fCons (fVar 1) (fCons (fCall tupleD (fCons (fCall sortedD (fCons (fVar 7) fNil)) fNil)) fNil))))))))))))))
def g__law_beside : List PyData → List PyData → Option (PyData × List PyData) := runM 12 f__law_beside
theorem mk__law_beside {Pr : Program} {w : World} {K : PySem.W.Frag} {mg : Str → Option Value} {base : Heap} (T : Tops K mg) {a__law_take : Addr} {d__law_take : FuncData} (c__law_take : Cal Pr w K mg base 1 "_law_take" ["_law_pot_here", "_law_many"] (spM K 1 g__law_take) a__law_take d__law_take) {a__law_world : Addr} {d__law_world : FuncData} (c__law_world : Cal Pr w K mg base 2 "_law_world" ["_law_pot_here", "_law_most"] (spM K 1 g__law_world) a__law_world d__law_world) {f : Addr} {fd : FuncData} (F : Fun K "_law_beside" "_law_beside" s__law_beside f fd) (gl : mg "_law_beside" = some (.ref f)) :
    Cal Pr w K mg base 3 "_law_beside" ["_law_pot_here"] (spM K 0 g__law_beside) f fd := by
  refine ⟨fn_M F sc__law_beside (by decide) fun cdv A outer s H hh => ?_, gl, F.kp, F.binds (ps := ["_law_pot_here"]) fun _ _ _ _ _ _ us hl => match us, hl with | [_], _ => rfl⟩
  have nd := sc__law_beside.nd
  exact (s_cons (s_asg (bb := true) e_int (g_nm (P := [0]) (by decide) (pg_name (i := 1) nd rfl (by first | exact Or.inl rfl | exact Or.inr rfl))))
    (s_cons (s_own (bb := true) 2 (P := [0]) (by decide) (l_lst a_nil) (pg_name (i := 2) nd rfl (by first | exact Or.inl rfl | exact Or.inr rfl)))
    (s_cons (s_for (bb := true) PassesOwn.never hh.c (i_rng1 (by rfl) T.b_range (a_cons (e_op op_addD d_add e_int (e_callM 0 c__law_take.ok (hh.mono (by decide)) (by rfl) c__law_take.gl c__law_take.kp c__law_take.bd (pv 0) (a_cons e_int a_nil))) a_nil)) (g_nm (P := [0]) (by decide) (pg_name (i := 3) nd rfl (by first | exact Or.inl rfl | exact Or.inr rfl))) (s_cons (s_asg (bb := true) (e_ix ix_seqB d_ix (fun _ _ => rfl) (e_callM 0 c__law_world.ok (hh.mono (by decide)) (by rfl) c__law_world.gl c__law_world.kp c__law_world.bd (pv 0) (a_cons e_int a_nil)) e_int) (g_nm (P := [0]) (by decide) (pg_name (i := 9) nd rfl (by first | exact Or.inl rfl | exact Or.inr rfl))))
    (s_cons (s_for (bb := true) PassesOwn.never hh.c (i_seq (e_ix ix_seqB d_ix (fun _ _ => rfl) (e_var 9 (pv 9)) e_int)) (g_nm (P := [0]) (by decide) (pg_name (i := 8) nd rfl (by first | exact Or.inl rfl | exact Or.inr rfl))) (s_one (s_drop (bb := true) (e_met 2 m_app (pe_bm PySem.F.plainAttrs_list PySem.F.slot_list_append PySem.F.type_list_append mt_append (pv 2) (a_cons (e_ofF (l_lc (own := [("_law_hand", 11)]) 12 hh.c nd (i_seq (e_var 8 (pv 8))) (blkOk_by (by first | rfl | kernel_rfl)) (fun _ _ _ _ _ => (g_nm (P := compl 12 [11]) (by decide) (pg_name (i := 11) nd rfl (by first | exact Or.inl rfl | exact Or.inr rfl)))) (fun _ _ _ _ _ => ts_nil) (fun _ _ _ _ _ => (e_op op_addD d_add (e_op op_mulW d_mulI e_int (e_var 1 (pv 1))) (e_var 11 (pv 11)))))) a_nil))))))
    (s_one (s_asg (bb := true) (e_op op_addD d_add (e_var 1 (pv 1)) (e_ix ix_seqB d_ix (fun _ _ => rfl) (e_var 9 (pv 9)) e_int)) (g_nm (P := [0]) (by decide) (pg_name (i := 1) nd rfl (by first | exact Or.inl rfl | exact Or.inr rfl))))))))
    (ss_frz 2 (s_cons (s_own (bb := true) 4 (P := [0]) (by decide) (l_listRg hh.c (by rfl) T.b_list (by rfl) T.b_range (e_var 1 (pv 1))) (pg_name (i := 4) nd rfl (by first | exact Or.inl rfl | exact Or.inr rfl)))
    (s_cons (s_asg (bb := true) (e_ofF (l_lc (own := [("_law_post", 10)]) 12 hh.c nd (i_rng1 (by rfl) T.b_range (a_cons (e_var 1 (pv 1)) a_nil)) (blkOk_by (by first | rfl | kernel_rfl)) (fun _ _ _ _ _ => (g_nm (P := compl 12 [10]) (by decide) (pg_name (i := 10) nd rfl (by first | exact Or.inl rfl | exact Or.inr rfl)))) (fun _ _ _ _ _ => ts_nil) (fun _ _ _ _ _ => (e_met 4 m_pop (pe_bm PySem.F.plainAttrs_list PySem.F.slot_list_pop PySem.F.type_list_pop mt_popAt (pv 4) (a_cons (e_callM 0 c__law_take.ok (hh.blk.mono (by decide)) (by rfl) c__law_take.gl c__law_take.kp c__law_take.bd (pv 0) (a_cons (e_peek 4 (e_callB call_lenD2 d_len (by rfl) T.b_len (by decide +kernel) (a_cons (e_var 4 (pv 4)) a_nil))) a_nil)) a_nil)))))) (g_nm (P := [0]) (by decide) (pg_name (i := 5) nd rfl (by first | exact Or.inl rfl | exact Or.inr rfl))))
    (s_cons (s_asg (bb := true) (e_ofF (l_lc (own := [("_law_post", 10)]) 12 hh.c nd (i_rng1 (by rfl) T.b_range (a_cons (e_var 1 (pv 1)) a_nil)) (blkOk_by (by first | rfl | kernel_rfl)) (fun _ _ _ _ _ => (g_nm (P := compl 12 [10]) (by decide) (pg_name (i := 10) nd rfl (by first | exact Or.inl rfl | exact Or.inr rfl)))) (fun _ _ _ _ _ => ts_nil) (fun _ _ _ _ _ => (e_ix ix_seqB d_ix (fun _ _ => rfl) (e_ofF (l_lst (a_cons (e_tup (a_cons e_int (a_cons e_int (a_cons e_int (a_cons e_int a_nil))))) (a_cons (e_tup (a_cons e_int (a_cons e_int (a_cons e_int (a_cons e_int a_nil))))) (a_cons (e_tup (a_cons e_int (a_cons e_int (a_cons e_int (a_cons e_int a_nil))))) (a_cons (e_tup (a_cons e_int (a_cons e_int (a_cons e_int (a_cons e_int a_nil))))) a_nil)))))) (e_callM 0 c__law_take.ok (hh.blk.mono (by decide)) (by rfl) c__law_take.gl c__law_take.kp c__law_take.bd (pv 0) (a_cons e_int a_nil)))))) (g_nm (P := [0]) (by decide) (pg_name (i := 6) nd rfl (by first | exact Or.inl rfl | exact Or.inr rfl))))
    (s_cons (s_own (bb := true) 7 (P := [0]) (by decide) (l_lst a_nil) (pg_name (i := 7) nd rfl (by first | exact Or.inl rfl | exact Or.inr rfl)))
    (s_cons (s_for (bb := true) PassesOwn.never hh.c (i_seq (e_var 2 (pv 2))) (g_nm (P := [0]) (by decide) (pg_name (i := 8) nd rfl (by first | exact Or.inl rfl | exact Or.inr rfl))) (s_one (s_drop (bb := true) (e_met 7 m_app (pe_bm PySem.F.plainAttrs_list PySem.F.slot_list_append PySem.F.type_list_append mt_append (pv 7) (a_cons (e_callTy call_tuple_of d_tuple (by rfl) T.b_tuple (by decide +kernel) (a_cons (e_callB (call_sortD hh.u) d_sorted (by rfl) T.b_sorted (by decide +kernel) (a_cons (e_ofF (l_lc (own := [("_law_hand", 11)]) 12 hh.c nd (i_seq (e_var 8 (pv 8))) (blkOk_by (by first | rfl | kernel_rfl)) (fun _ _ _ _ _ => (g_nm (P := compl 12 [11]) (by decide) (pg_name (i := 11) nd rfl (by first | exact Or.inl rfl | exact Or.inr rfl)))) (fun _ _ _ _ _ => ts_nil) (fun _ _ _ _ _ => (e_op op_addD d_add (e_op op_mulW d_mulI e_int (e_ix ix_seqB d_ix (fun _ _ => rfl) (e_var 5 (pv 5)) (e_op op_fdivW d_fdiv (e_var 11 (pv 11)) e_int))) (e_ix ix_seqB d_ix (fun _ _ => rfl) (e_ix ix_seqB d_ix (fun _ _ => rfl) (e_var 6 (pv 6)) (e_op op_fdivW d_fdiv (e_var 11 (pv 11)) e_int)) (e_op op_mod d_mod (e_var 11 (pv 11)) e_int)))))) a_nil)) a_nil)) a_nil))))))
    (ss_frz 7 (s_one (s_ret (bb := true) (e_tup (a_cons (e_var 1 (pv 1)) (a_cons (e_callTy call_tuple_of d_tuple (by rfl) T.b_tuple (by decide +kernel) (a_cons (e_callB (call_sortD hh.u) d_sorted (by rfl) T.b_sorted (by decide +kernel) (a_cons (e_var 7 (pv 7)) a_nil)) a_nil)) a_nil)))))))))))))))
abbrev s_posts_from : Stmt := topS 18
theorem sc_posts_from : FnScope ["beyond", "met", "first", "posts", "at", "hand", "other"] ["beyond", "met", "first"] (defScope s_posts_from) := ⟨rfl, rfl, rfl, by decide +kernel, rfl, by decide +kernel, by decide +kernel⟩
def b1_posts_from : FS := (fIfS (tdAnd (fTst (fBin notNoneD (fVar 6) (ret .none))) (tdNot (fTst (fPeek 1 (fBin ixD (fVar 1) (fBin fdivD (fVar 6) (ret (.int 4)))))))) (fSeq (fSetI 1 (ret (.bool true)) (fBin fdivD (fVar 6) (ret (.int 4))))
    (fDrop (fMet 3 appG (fCons (fBin fdivD (fVar 6) (ret (.int 4))) fNil)))) fNext)
def b2_posts_from : FS := (fSeq (fAsg (fBin mulI (ret (.int 4)) (fPeek 3 (fBin ixD (fVar 3) (fVar 4)))) (gNm 5))
    (fSeq (fFor (fItems (fSl (fVar 0) (fPart (fVar 5)) (fPart (fBin addD (fVar 5) (ret (.int 4)))))) (gNm 6) b1_posts_from)
    (fAug 4 addI (ret (.int 1)))))
def f_posts_from : FS := (fSeq (fSetI 1 (ret (.bool true)) (fVar 2))
    (fSeq (fOwn (thnE (fCons (fVar 2) fNil) fun xs => liftO (if sizeOk xs.length = true then some xs else none)) 3)
    (fSeq (fAsg (ret (.int 0)) (gNm 4))
    (fSeq (whF (fTst (fBin ltD (fVar 4) (fPeek 3 (fCall lenD (fCons (fVar 3) fNil))))) b2_posts_from 1000)
    (fFrz 3 (fRet (fVar 3)))))))
def g_posts_from : List PyData → List PyData → Option (PyData × List PyData) := runM1 7 f_posts_from
theorem mk_posts_from {Pr : Program} {w : World} {K : PySem.W.Frag} {mg : Str → Option Value} {base : Heap} (T : Tops K mg) {f : Addr} {fd : FuncData} (F : Fun K "posts_from" "posts_from" s_posts_from f fd) (gl : mg "posts_from" = some (.ref f)) :
    Cal Pr w K mg base 1 "posts_from" ["beyond", "met", "first"] (spM1 K 2 g_posts_from) f fd := by
  refine ⟨fn_M1 F sc_posts_from (by decide) fun cdv A outer s H hh => ?_, gl, F.kp, F.binds (ps := ["beyond", "met", "first"]) fun _ _ _ _ _ _ us hl => match us, hl with | [_, _, _], _ => rfl⟩
  have nd := sc_posts_from.nd
  exact (s_cons (s_setI 1 (pg_sub (pv 1) (e_var 2 (pv 2)) set_list2) e_bl)
    (s_cons (s_own (bb := true) 3 (P := [1]) (by decide) (l_lst (a_cons (e_var 2 (pv 2)) a_nil)) (pg_name (i := 3) nd rfl (by first | exact Or.inl rfl | exact Or.inr rfl)))
    (s_cons (s_asg (bb := true) e_int (g_nm (P := [1]) (by decide) (pg_name (i := 4) nd rfl (by first | exact Or.inl rfl | exact Or.inr rfl))))
    (s_cons (s_while (bb := true) 1000 PassesOwn.never (t_cmp (op_ltD hh.u0) d_lt (nomark _) (e_var 4 (pv 4)) (e_peek 3 (e_callB call_lenD2 d_len (by rfl) T.b_len (by decide +kernel) (a_cons (e_var 3 (pv 3)) a_nil)))) (s_cons (s_asg (bb := true) (e_op op_mulW d_mulI (e_globE (by rfl) T.c_HANDS) (e_peek 3 (e_ix ix_seqB d_ix (fun _ _ => rfl) (e_var 3 (pv 3)) (e_var 4 (pv 4))))) (g_nm (P := [1]) (by decide) (pg_name (i := 5) nd rfl (by first | exact Or.inl rfl | exact Or.inr rfl))))
    (s_cons (s_for (bb := true) PassesOwn.never hh.c (i_seq (e_sl (e_var 0 (pv 0)) (o_some (e_var 5 (pv 5))) (o_some (e_op op_addD d_add (e_var 5 (pv 5)) (e_globE (by rfl) T.c_HANDS))))) (g_nm (P := [1]) (by decide) (pg_name (i := 6) nd rfl (by first | exact Or.inl rfl | exact Or.inr rfl))) (s_one (s_if (bb := true) (PW.pt (w_and (t_cmp op_notN d_notN (nomark _) (e_var 6 (pv 6)) e_non) (w_and1 (t_not (t_val (e_peek 1 (e_ix ix_seqB d_ix (fun _ _ => rfl) (e_var 1 (pv 1)) (e_op op_fdivW d_fdiv (e_var 6 (pv 6)) (e_globE (by rfl) T.c_HANDS))))))))) (s_cons (s_setI 1 (pg_sub (pv 1) (e_op op_fdivW d_fdiv (e_var 6 (pv 6)) (e_globE (by rfl) T.c_HANDS)) set_list2) e_bl)
    (s_one (s_drop (bb := true) (e_met 3 m_app (pe_bm PySem.F.plainAttrs_list PySem.F.slot_list_append PySem.F.type_list_append mt_append (pv 3) (a_cons (e_op op_fdivW d_fdiv (e_var 6 (pv 6)) (e_globE (by rfl) T.c_HANDS)) a_nil)))))) s_nil)))
    (s_one (s_aug (bb := true) (i := 4) (P := [1]) (by decide) nd rfl (by first | exact Or.inl rfl | exact Or.inr rfl) iop_add d_addI e_int)))))
    (ss_frz 3 (s_one (s_ret (bb := true) (e_var 3 (pv 3)))))))))
abbrev s_first_parts : Stmt := topS 17
theorem sc_first_parts : FnScope ["beyond", "most", "met", "rows", "first"] ["beyond", "most"] (defScope s_first_parts) := ⟨rfl, rfl, rfl, by decide +kernel, rfl, by decide +kernel, by decide +kernel⟩
def b1_first_parts : FS := (fSeq (fIfS (fTst (fBin eqD (fPeek 3 (fCall lenD (fCons (fVar 3) fNil))) (fVar 1))) (fun ρ => some (.bk ρ)) fNext)
    (fIfS (tdNot (fTst (fPeek 2 (fBin ixD (fVar 2) (fVar 4))))) (fDrop (fMet 3 appG (fCons (fCall tupleD (fCons (fCall sortedD (fCons (fCallM1 2 g_posts_from 2 (fVar 0) (fCons (fVar 4) fNil)) fNil)) fNil)) fNil))) fNext))
def f_first_parts : FS := (fSeq (fOwn (fOpN repN (fOf (thnE (fCons (ret (.bool false)) fNil) fun xs => liftO (if sizeOk xs.length = true then some xs else none))) (fBin fdivD (fCall lenD (fCons (fVar 0) fNil)) (ret (.int 4)))) 2)
    (fSeq (fOwn (thnE fNil fun xs => liftO (if sizeOk xs.length = true then some xs else none)) 3)
    (fSeq (fFor (fRng rng1 (fCons (fPeek 2 (fCall lenD (fCons (fVar 2) fNil))) fNil)) (gNm 4) b1_first_parts)
    (fFrz 3 (fRet (fCall tupleD (fCons (fVar 3) fNil)))))))
def g_first_parts : List PyData → Option PyData := runP 5 f_first_parts
theorem mk_first_parts {Pr : Program} {w : World} {K : PySem.W.Frag} {mg : Str → Option Value} {base : Heap} (T : Tops K mg) {a_posts_from : Addr} {d_posts_from : FuncData} (c_posts_from : Cal Pr w K mg base 1 "posts_from" ["beyond", "met", "first"] (spM1 K 2 g_posts_from) a_posts_from d_posts_from) {f : Addr} {fd : FuncData} (F : Fun K "first_parts" "first_parts" s_first_parts f fd) (gl : mg "first_parts" = some (.ref f)) :
    Cal Pr w K mg base 2 "first_parts" ["beyond", "most"] (spP K 2 g_first_parts) f fd := by
  refine ⟨fn_P F sc_first_parts fun cdv A outer s H hh => ?_, gl, F.kp, F.binds (ps := ["beyond", "most"]) fun _ _ _ _ _ _ us hl => match us, hl with | [_, _], _ => rfl⟩
  have nd := sc_first_parts.nd
  exact (s_cons (s_own (bb := true) 2 (P := []) (by decide) (l_op op_repR n_rep (e_ofF (l_lst (a_cons e_bl a_nil))) (e_op op_fdivW d_fdiv (e_callB call_lenD2 d_len (by rfl) T.b_len (by decide +kernel) (a_cons (e_var 0 (pv 0)) a_nil)) (e_globE (by rfl) T.c_HANDS))) (pg_name (i := 2) nd rfl (by first | exact Or.inl rfl | exact Or.inr rfl)))
    (s_cons (s_own (bb := true) 3 (P := []) (by decide) (l_lst a_nil) (pg_name (i := 3) nd rfl (by first | exact Or.inl rfl | exact Or.inr rfl)))
    (s_cons (s_for (bb := true) PassesOwn.never hh.c (i_rng1 (by rfl) T.b_range (a_cons (e_peek 2 (e_callB call_lenD2 d_len (by rfl) T.b_len (by decide +kernel) (a_cons (e_var 2 (pv 2)) a_nil))) a_nil)) (g_nm (P := []) (by decide) (pg_name (i := 4) nd rfl (by first | exact Or.inl rfl | exact Or.inr rfl))) (s_cons (s_if (bb := true) (t_cmp (op_eq2 hh.u) d_eq (nomark _) (e_peek 3 (e_callB call_lenD2 d_len (by rfl) T.b_len (by decide +kernel) (a_cons (e_var 3 (pv 3)) a_nil))) (e_var 1 (pv 1))) (s_one s_break) s_nil)
    (s_one (s_if (bb := true) (t_not (t_val (e_peek 2 (e_ix ix_seqB d_ix (fun _ _ => rfl) (e_var 2 (pv 2)) (e_var 4 (pv 4)))))) (s_one (s_drop (bb := true) (e_met 3 m_app (pe_bm PySem.F.plainAttrs_list PySem.F.slot_list_append PySem.F.type_list_append mt_append (pv 3) (a_cons (e_callTy call_tuple_of d_tuple (by rfl) T.b_tuple (by decide +kernel) (a_cons (e_callB (call_sortD hh.u) d_sorted (by rfl) T.b_sorted (by decide +kernel) (a_cons (e_callM1 2 c_posts_from.ok (hh.mono (by decide)) (by rfl) c_posts_from.gl c_posts_from.kp c_posts_from.bd (e_var 0 (pv 0)) (pv 2) (a_cons (e_var 4 (pv 4)) a_nil)) a_nil)) a_nil)) a_nil))))) s_nil))))
    (ss_frz 3 (s_one (s_ret (bb := true) (e_callTy call_tuple_of d_tuple (by rfl) T.b_tuple (by decide +kernel) (a_cons (e_var 3 (pv 3)) a_nil))))))))
abbrev s_are_all_met : Stmt := topS 13
theorem sc_are_all_met : FnScope ["beyond", "ways", "behind", "other", "are_met"] ["beyond", "ways", "behind"] (defScope s_are_all_met) := ⟨rfl, rfl, rfl, by decide +kernel, rfl, by decide +kernel, by decide +kernel⟩
def f_are_all_met : FS := (fSeq (fAsg (fPeek 0 (fBin ixD (fVar 0) (ret (.int 0)))) (gNm 3))
    (fSeq (fIfS (tdOr (fTst (fBin isNoneD (fVar 3) (ret .none))) (tdOr (fTst (fUn (isiD "bool") (fVar 3))) (tdOr (fTst (fUn (isiD "bool") (fBin ixD (fBin ixD (fVar 1) (ret (.int 0))) (ret (.int 0))))) (fTst (fUn (isiD "bool") (fBin ixD (fBin ixD (fVar 1) (ret (.int 1))) (ret (.int 0)))))))) (fRet (ret (.bool false))) fNext)
    (fSeq (fSetI 0 (fPeek 0 (fCall lenD (fCons (fVar 0) fNil))) (fVar 3))
    (fSeq (fAsg (fIf (fTst (fBin eqD (fVar 2) (fCall lenD (fCons (fVar 1) fNil)))) (fPeek 0 (fCall allV (fCons (fSl (fVar 0) (fPart (fVar 2)) (ret none)) fNil))) (fPeek 0 (fCall allV (fCons (fVar 0) fNil)))) (gNm 4))
    (fSeq (fSetI 0 (ret (.int 0)) (fVar 3))
    (fRet (fVar 4)))))))
def g_are_all_met : List PyData → List PyData → Option (PyData × List PyData) := runM 5 f_are_all_met
theorem mk_are_all_met {Pr : Program} {w : World} {K : PySem.W.Frag} {mg : Str → Option Value} {base : Heap} (T : Tops K mg) {f : Addr} {fd : FuncData} (F : Fun K "are_all_met" "are_all_met" s_are_all_met f fd) (gl : mg "are_all_met" = some (.ref f)) :
    Cal Pr w K mg base 1 "are_all_met" ["beyond", "ways", "behind"] (spM K 2 g_are_all_met) f fd := by
  refine ⟨fn_M F sc_are_all_met (by decide) fun cdv A outer s H hh => ?_, gl, F.kp, F.binds (ps := ["beyond", "ways", "behind"]) fun _ _ _ _ _ _ us hl => match us, hl with | [_, _, _], _ => rfl⟩
  have nd := sc_are_all_met.nd
  exact (s_cons (s_asg (bb := true) (e_peek 0 (e_ix ix_seqB d_ix (fun _ _ => rfl) (e_var 0 (pv 0)) e_int)) (g_nm (P := [0]) (by decide) (pg_name (i := 3) nd rfl (by first | exact Or.inl rfl | exact Or.inr rfl))))
    (s_cons (s_if (bb := true) (PW.pt (w_or (t_cmp op_isN d_isN (nomark _) (e_var 3 (pv 3)) e_non) (w_or (t_val (e_isi (T := "bool") (by rfl) T.b_isinstance (by decide +kernel) (by rfl) T.b_bool (by decide +kernel) (e_var 3 (pv 3)))) (w_or (t_val (e_isi (T := "bool") (by rfl) T.b_isinstance (by decide +kernel) (by rfl) T.b_bool (by decide +kernel) (e_ix ix_seqB d_ix (fun _ _ => rfl) (e_ix ix_seqB d_ix (fun _ _ => rfl) (e_var 1 (pv 1)) e_int) e_int))) (w_or1 (t_val (e_isi (T := "bool") (by rfl) T.b_isinstance (by decide +kernel) (by rfl) T.b_bool (by decide +kernel) (e_ix ix_seqB d_ix (fun _ _ => rfl) (e_ix ix_seqB d_ix (fun _ _ => rfl) (e_var 1 (pv 1)) e_int) e_int)))))))) (s_one (s_ret (bb := true) e_bl)) s_nil)
    (s_cons (s_setI 0 (pg_sub (pv 0) (e_var 3 (pv 3)) set_list2) (e_peek 0 (e_callB call_lenD2 d_len (by rfl) T.b_len (by decide +kernel) (a_cons (e_var 0 (pv 0)) a_nil))))
    (s_cons (s_asg (bb := true) (e_if (t_cmp (op_eq2 hh.u) d_eq (nomark _) (e_var 2 (pv 2)) (e_callB call_lenD2 d_len (by rfl) T.b_len (by decide +kernel) (a_cons (e_var 1 (pv 1)) a_nil))) (e_peek 0 (e_callB (call_allV hh.c) d_allV (by rfl) T.b_all (by decide +kernel) (a_cons (e_sl (e_var 0 (pv 0)) (o_some (e_var 2 (pv 2))) o_none) a_nil))) (e_peek 0 (e_callB (call_allV hh.c) d_allV (by rfl) T.b_all (by decide +kernel) (a_cons (e_var 0 (pv 0)) a_nil)))) (g_nm (P := [0]) (by decide) (pg_name (i := 4) nd rfl (by first | exact Or.inl rfl | exact Or.inr rfl))))
    (s_cons (s_setI 0 (pg_sub (pv 0) (e_var 3 (pv 3)) set_list2) e_int)
    (s_one (s_ret (bb := true) (e_var 4 (pv 4)))))))))
abbrev s_hands_across : Stmt := topS 12
theorem sc_hands_across : FnScope ["thing", "many", "beyond", "ends", "least", "way", "end", "posts", "ways", "low", "high"] ["thing"] (defScope s_hands_across) := ⟨rfl, rfl, rfl, by decide +kernel, rfl, by decide +kernel, by decide +kernel⟩
def b1_hands_across : FS := (fSeq (fIfS (fTst (fUn (isiD "tuple") (fVar 5))) (fMat (fVar 5) (mCase [9, 10] (fIfS (tdAnd (tdOr (fTst (fBin eqD (fVar 9) (fVar 4))) (tdAnd (fTst (fUn (isiD "int") (fVar 9))) (fTst (fBin gtI (fVar 9) (fVar 4))))) (tdAnd (fTst (fUn (isiD "int") (fVar 10))) (tdAnd (fTst (fBin ltD (fVar 9) (fVar 10))) (fTst (fBin ltD (fVar 10) (fVar 1)))))) (fSeq (fSetI 2 (fVar 10) (fVar 9))
    (fSeq (fSetI 2 (fVar 9) (fVar 10))
    (fSeq (fAsg (fBin addD (fVar 9) (ret (.int 1))) (gNm 4))
    (fun ρ => some (.ct ρ))))) fNext) (mCase [9] (fIfS (tdAnd (fTst (fUn (isiD "int") (fVar 9))) (tdAnd (fTst (fBin geI (fVar 9) (fVar 4))) (fTst (fBin ltD (fVar 9) (fVar 1))))) (fSeq (fSetI 2 (fVar 9) (fVar 9))
    (fSeq (fDrop (fMet 3 appG (fCons (fVar 9) fNil)))
    (fSeq (fAsg (fBin addD (fVar 9) (ret (.int 1))) (gNm 4))
    (fun ρ => some (.ct ρ))))) fNext) mEnd))) fNext)
    (fRet (ret .none)))
def b2_hands_across : FS := (fSetI 2 (ret .none) (fVar 6))
def f_hands_across : FS := (fSeq (fIfS (tdOr (tdNot (fTst (fUn (isiD "tuple") (fVar 0)))) (fTst (fBin neD (fCall lenD (fCons (fVar 0) fNil)) (ret (.int 2))))) (fRet (ret .none)) fNext)
    (fSeq (fAsg (fVar 0) (gTp [(gNm 7), (gNm 8)]))
    (fSeq (fIfS (tdOr (tdNot (fTst (fUn (isiD "int") (fVar 7)))) (tdOr (fTst (fUn (isiD "bool") (fVar 7))) (tdNot (fTst (fChain leI leI (ret (.int 0)) (fVar 7) (ret (.int 60))))))) (fRet (ret .none)) fNext)
    (fSeq (fIfS (tdNot (fTst (fUn (isiD "tuple") (fVar 8)))) (fRet (ret .none)) fNext)
    (fSeq (fAsg (fBin mulI (ret (.int 4)) (fVar 7)) (gNm 1))
    (fSeq (fOwn (fOpN repN (fOf (thnE (fCons (ret .none) fNil) fun xs => liftO (if sizeOk xs.length = true then some xs else none))) (fVar 1)) 2)
    (fSeq (fOwn (thnE fNil fun xs => liftO (if sizeOk xs.length = true then some xs else none)) 3)
    (fSeq (fAsg (ret (.int 0)) (gNm 4))
    (fSeq (fFor (fItems (fVar 8)) (gNm 5) b1_hands_across)
    (fFrz 3 (fSeq (fIfS (tdOr (fTst (fBin neD (fCall lenD (fCons (fVar 3) fNil)) (fBin subD (fBin mulI (ret (.int 2)) (fCall lenD (fCons (fVar 8) fNil))) (fVar 1)))) (tdAnd (fTst (fBin gtI (fVar 7) (ret (.int 0)))) (tdNot (fTst (fCallM 2 g_are_all_met 2 (fCons (fVar 8) (fCons (fVar 4) fNil))))))) (fRet (ret .none)) fNext)
    (fSeq (fFor (fItems (fVar 3)) (gNm 6) b2_hands_across)
    (fFrz 2 (fRet (fVar 2)))))))))))))))
def g_hands_across : List PyData → Option PyData := runP 11 f_hands_across
theorem mk_hands_across {Pr : Program} {w : World} {K : PySem.W.Frag} {mg : Str → Option Value} {base : Heap} (T : Tops K mg) {a_are_all_met : Addr} {d_are_all_met : FuncData} (c_are_all_met : Cal Pr w K mg base 1 "are_all_met" ["beyond", "ways", "behind"] (spM K 2 g_are_all_met) a_are_all_met d_are_all_met) {f : Addr} {fd : FuncData} (F : Fun K "hands_across" "hands_across" s_hands_across f fd) (gl : mg "hands_across" = some (.ref f)) :
    Cal Pr w K mg base 2 "hands_across" ["thing"] (spP K 1 g_hands_across) f fd := by
  refine ⟨fn_P F sc_hands_across fun cdv A outer s H hh => ?_, gl, F.kp, F.binds (ps := ["thing"]) fun _ _ _ _ _ _ us hl => match us, hl with | [_], _ => rfl⟩
  have nd := sc_hands_across.nd
  exact (s_cons (s_if (bb := true) (PW.pt (w_or (t_not (t_val (e_isi (T := "tuple") (by rfl) T.b_isinstance (by decide +kernel) (by rfl) T.b_tuple (by decide +kernel) (e_var 0 (pv 0))))) (w_or1 (t_cmp (op_ne2 hh.u) d_ne (nomark _) (e_callB call_lenD2 d_len (by rfl) T.b_len (by decide +kernel) (a_cons (e_var 0 (pv 0)) a_nil)) e_int)))) (s_one (s_ret (bb := true) e_non)) s_nil)
    (s_cons (s_asg (bb := true) (e_var 0 (pv 0)) (g_tp hh.c (gs_cons (g_nm (P := []) (by decide) (pg_name (i := 7) nd rfl (by first | exact Or.inl rfl | exact Or.inr rfl))) (gs_cons (g_nm (P := []) (by decide) (pg_name (i := 8) nd rfl (by first | exact Or.inl rfl | exact Or.inr rfl))) gs_nil))))
    (s_cons (s_if (bb := true) (PW.pt (w_or (t_not (t_val (e_isi (T := "int") (by rfl) T.b_isinstance (by decide +kernel) (by rfl) T.b_int (by decide +kernel) (e_var 7 (pv 7))))) (w_or (t_val (e_isi (T := "bool") (by rfl) T.b_isinstance (by decide +kernel) (by rfl) T.b_bool (by decide +kernel) (e_var 7 (pv 7)))) (w_or1 (t_not (t_chain op_leI op_leI d_leI d_leI e_int (e_var 7 (pv 7)) (e_globE (by rfl) T.c_MOST_POSTS))))))) (s_one (s_ret (bb := true) e_non)) s_nil)
    (s_cons (s_if (bb := true) (t_not (t_val (e_isi (T := "tuple") (by rfl) T.b_isinstance (by decide +kernel) (by rfl) T.b_tuple (by decide +kernel) (e_var 8 (pv 8))))) (s_one (s_ret (bb := true) e_non)) s_nil)
    (s_cons (s_asg (bb := true) (e_op op_mulW d_mulI (e_globE (by rfl) T.c_HANDS) (e_var 7 (pv 7))) (g_nm (P := []) (by decide) (pg_name (i := 1) nd rfl (by first | exact Or.inl rfl | exact Or.inr rfl))))
    (s_cons (s_own (bb := true) 2 (P := []) (by decide) (l_op op_repR n_rep (e_ofF (l_lst (a_cons e_non a_nil))) (e_var 1 (pv 1))) (pg_name (i := 2) nd rfl (by first | exact Or.inl rfl | exact Or.inr rfl)))
    (s_cons (s_own (bb := true) 3 (P := []) (by decide) (l_lst a_nil) (pg_name (i := 3) nd rfl (by first | exact Or.inl rfl | exact Or.inr rfl)))
    (s_cons (s_asg (bb := true) e_int (g_nm (P := []) (by decide) (pg_name (i := 4) nd rfl (by first | exact Or.inl rfl | exact Or.inr rfl))))
    (s_cons (s_for (bb := true) PassesOwn.never hh.c (i_seq (e_var 8 (pv 8))) (g_nm (P := []) (by decide) (pg_name (i := 5) nd rfl (by first | exact Or.inl rfl | exact Or.inr rfl))) (s_cons (s_if (bb := true) (t_val (e_isi (T := "tuple") (by rfl) T.b_isinstance (by decide +kernel) (by rfl) T.b_tuple (by decide +kernel) (e_var 5 (pv 5)))) (s_one (s_match (bb := true) (e_var 5 (pv 5)) (m_two (P := []) (i := 9) (j := 10) (by decide) (by decide) hh.c nd rfl rfl (by first | exact Or.inl rfl | exact Or.inr rfl) (by first | exact Or.inl rfl | exact Or.inr rfl) (s_one (s_if (bb := true) (PW.pt (w_and (PW.pt (w_or (t_cmp (op_eq2 hh.u) d_eq (nomark _) (e_var 9 (pv 9)) (e_var 4 (pv 4))) (w_or1 (PW.pt (w_and (t_val (e_isi (T := "int") (by rfl) T.b_isinstance (by decide +kernel) (by rfl) T.b_int (by decide +kernel) (e_var 9 (pv 9)))) (w_and1 (t_cmp op_gtI d_gtI (nomark _) (e_var 9 (pv 9)) (e_var 4 (pv 4))))))))) (w_and1 (PW.pt (w_and (t_val (e_isi (T := "int") (by rfl) T.b_isinstance (by decide +kernel) (by rfl) T.b_int (by decide +kernel) (e_var 10 (pv 10)))) (w_and (t_cmp (op_ltD hh.u0) d_lt (nomark _) (e_var 9 (pv 9)) (e_var 10 (pv 10))) (w_and1 (t_cmp (op_ltD hh.u0) d_lt (nomark _) (e_var 10 (pv 10)) (e_var 1 (pv 1)))))))))) (s_cons (s_setI 2 (pg_sub (pv 2) (e_var 9 (pv 9)) set_list2) (e_var 10 (pv 10)))
    (s_cons (s_setI 2 (pg_sub (pv 2) (e_var 10 (pv 10)) set_list2) (e_var 9 (pv 9)))
    (s_cons (s_asg (bb := true) (e_op op_addD d_add (e_var 9 (pv 9)) e_int) (g_nm (P := []) (by decide) (pg_name (i := 4) nd rfl (by first | exact Or.inl rfl | exact Or.inr rfl))))
    (s_one s_continue)))) s_nil)) (m_one (P := []) (i := 9) (by decide) hh.c nd rfl (by first | exact Or.inl rfl | exact Or.inr rfl) (s_one (s_if (bb := true) (PW.pt (w_and (t_val (e_isi (T := "int") (by rfl) T.b_isinstance (by decide +kernel) (by rfl) T.b_int (by decide +kernel) (e_var 9 (pv 9)))) (w_and (t_cmp op_geI d_geI (nomark _) (e_var 9 (pv 9)) (e_var 4 (pv 4))) (w_and1 (t_cmp (op_ltD hh.u0) d_lt (nomark _) (e_var 9 (pv 9)) (e_var 1 (pv 1))))))) (s_cons (s_setI 2 (pg_sub (pv 2) (e_var 9 (pv 9)) set_list2) (e_var 9 (pv 9)))
    (s_cons (s_drop (bb := true) (e_met 3 m_app (pe_bm PySem.F.plainAttrs_list PySem.F.slot_list_append PySem.F.type_list_append mt_append (pv 3) (a_cons (e_var 9 (pv 9)) a_nil))))
    (s_cons (s_asg (bb := true) (e_op op_addD d_add (e_var 9 (pv 9)) e_int) (g_nm (P := []) (by decide) (pg_name (i := 4) nd rfl (by first | exact Or.inl rfl | exact Or.inr rfl))))
    (s_one s_continue)))) s_nil)) m_nil)))) s_nil)
    (s_one (s_ret (bb := true) e_non))))
    (ss_frz 3 (s_cons (s_if (bb := true) (PW.pt (w_or (t_cmp (op_ne2 hh.u) d_ne (nomark _) (e_callB call_lenD2 d_len (by rfl) T.b_len (by decide +kernel) (a_cons (e_var 3 (pv 3)) a_nil)) (e_op op_sub d_sub (e_op op_mulW d_mulI e_int (e_callB call_lenD2 d_len (by rfl) T.b_len (by decide +kernel) (a_cons (e_var 8 (pv 8)) a_nil))) (e_var 1 (pv 1)))) (w_or1 (PW.pt (w_and (t_cmp op_gtI d_gtI (nomark _) (e_var 7 (pv 7)) e_int) (w_and1 (t_not (t_val (e_callM 2 c_are_all_met.ok (hh.mono (by decide)) (by rfl) c_are_all_met.gl c_are_all_met.kp c_are_all_met.bd (pv 2) (a_cons (e_var 8 (pv 8)) (a_cons (e_var 4 (pv 4)) a_nil))))))))))) (s_one (s_ret (bb := true) e_non)) s_nil)
    (s_cons (s_for (bb := true) PassesOwn.never hh.c (i_seq (e_var 3 (pv 3))) (g_nm (P := []) (by decide) (pg_name (i := 6) nd rfl (by first | exact Or.inl rfl | exact Or.inr rfl))) (s_one (s_setI 2 (pg_sub (pv 2) (e_var 6 (pv 6)) set_list2) e_non)))
    (ss_frz 2 (s_one (s_ret (bb := true) (e_var 2 (pv 2)))))))))))))))))
abbrev s_need_web : Stmt := topS 14
theorem sc_need_web : FnScope ["web", "beyond"] ["web"] (defScope s_need_web) := ⟨rfl, rfl, rfl, by decide +kernel, rfl, by decide +kernel, by decide +kernel⟩
def f_need_web : FS := (fSeq (fAsg (fCall (lenIs 1 g_hands_across) (fCons (fVar 0) fNil)) (gNm 1))
    (fSeq (fIfS (fTst (fBin isNoneD (fVar 1) (ret .none))) fNever fNext)
    (fRet (fVar 1))))
def g_need_web : List PyData → Option PyData := runP 2 f_need_web
theorem mk_need_web {Pr : Program} {w : World} {K : PySem.W.Frag} {mg : Str → Option Value} {base : Heap} (T : Tops K mg) {a_hands_across : Addr} {d_hands_across : FuncData} (c_hands_across : Cal Pr w K mg base 2 "hands_across" ["thing"] (spP K 1 g_hands_across) a_hands_across d_hands_across) {f : Addr} {fd : FuncData} (F : Fun K "need_web" "need_web" s_need_web f fd) (gl : mg "need_web" = some (.ref f)) :
    Cal Pr w K mg base 3 "need_web" ["web"] (spP K 1 g_need_web) f fd := by
  refine ⟨fn_P F sc_need_web fun cdv A outer s H hh => ?_, gl, F.kp, F.binds (ps := ["web"]) fun _ _ _ _ _ _ us hl => match us, hl with | [_], _ => rfl⟩
  have nd := sc_need_web.nd
  exact (s_cons (s_asg (bb := true) (e_callP c_hands_across.ok (hh.mono (by decide)) (by rfl) c_hands_across.gl c_hands_across.kp c_hands_across.bd (a_cons (e_var 0 (pv 0)) a_nil)) (g_nm (P := []) (by decide) (pg_name (i := 1) nd rfl (by first | exact Or.inl rfl | exact Or.inr rfl))))
    (s_cons (s_if (bb := true) (t_cmp op_isN d_isN (nomark _) (e_var 1 (pv 1)) e_non) (s_one s_never) s_nil)
    (s_one (s_ret (bb := true) (e_var 1 (pv 1))))))
abbrev s_parts_of : Stmt := topS 20
theorem sc_parts_of : FnScope ["web"] ["web"] (defScope s_parts_of) := ⟨rfl, rfl, rfl, by decide +kernel, rfl, by decide +kernel, by decide +kernel⟩
def f_parts_of : FS := (fRet (fCall (lenIs 2 g_first_parts) (fCons (fCall (lenIs 1 g_need_web) (fCons (fVar 0) fNil)) (fCons (fBin ixD (fVar 0) (ret (.int 0))) fNil))))
def g_parts_of : List PyData → Option PyData := runP 1 f_parts_of
theorem mk_parts_of {Pr : Program} {w : World} {K : PySem.W.Frag} {mg : Str → Option Value} {base : Heap} (T : Tops K mg) {a_first_parts : Addr} {d_first_parts : FuncData} (c_first_parts : Cal Pr w K mg base 2 "first_parts" ["beyond", "most"] (spP K 2 g_first_parts) a_first_parts d_first_parts) {a_need_web : Addr} {d_need_web : FuncData} (c_need_web : Cal Pr w K mg base 3 "need_web" ["web"] (spP K 1 g_need_web) a_need_web d_need_web) {f : Addr} {fd : FuncData} (F : Fun K "parts_of" "parts_of" s_parts_of f fd) (gl : mg "parts_of" = some (.ref f)) :
    Cal Pr w K mg base 4 "parts_of" ["web"] (spP K 1 g_parts_of) f fd := by
  refine ⟨fn_P F sc_parts_of fun cdv A outer s H hh => ?_, gl, F.kp, F.binds (ps := ["web"]) fun _ _ _ _ _ _ us hl => match us, hl with | [_], _ => rfl⟩
  have nd := sc_parts_of.nd
  exact (s_one (s_ret (bb := true) (e_callP c_first_parts.ok (hh.mono (by decide)) (by rfl) c_first_parts.gl c_first_parts.kp c_first_parts.bd (a_cons (e_callP c_need_web.ok (hh.mono (by decide)) (by rfl) c_need_web.gl c_need_web.kp c_need_web.bd (a_cons (e_var 0 (pv 0)) a_nil)) (a_cons (e_ix ix_seqB d_ix (fun _ _ => rfl) (e_var 0 (pv 0)) e_int) a_nil)))))
abbrev s__law_pot : Stmt := topS 25
theorem sc__law_pot : FnScope ["_law_script", "_law_k", "_law_cell", "_law_mixed"] ["_law_script", "_law_k"] (defScope s__law_pot) := ⟨rfl, rfl, rfl, by decide +kernel, rfl, by decide +kernel, by decide +kernel⟩
def f__law_pot : FS := (fSeq (fAsg (ret (.int 0)) (gNm 2))
    (fSeq (fIfS (fTst (fBin ltD (fVar 1) (fCall lenD (fCons (fVar 0) fNil)))) (fAsg (fBin modD (fCall absD (fCons (fBin ixD (fVar 0) (fVar 1)) fNil)) (fBin powD (fBin powD (ret (.int 10)) (ret (.int 60))) (ret (.int 14)))) (gNm 2)) fNext)
    (fSeq (fAsg (fBin modD (fBin powD (fBin addD (fBin addD (fBin modD (fVar 2) (ret (.int 2305843009213693921))) (fBin mulI (ret (.int 104729)) (fVar 1))) (ret (.int 1))) (ret (.int 3))) (ret (.int 2305843009213693951))) (gNm 3))
    (fRetF (thnE (fCons (fBin mulI (fVar 2) (fCall intD (fCons (fBin geI (fVar 2) (fBin powD (ret (.int 10)) (ret (.int 18)))) fNil))) (fCons (fVar 3) (fCons (ret (.int 0)) fNil))) fun xs => liftO (if sizeOk xs.length = true then some xs else none))))))
def g__law_pot : List PyData → Option (List PyData) := runF 4 f__law_pot
theorem mk__law_pot {Pr : Program} {w : World} {K : PySem.W.Frag} {mg : Str → Option Value} {base : Heap} (T : Tops K mg) {f : Addr} {fd : FuncData} (F : Fun K "_law_pot" "_law_pot" s__law_pot f fd) (gl : mg "_law_pot" = some (.ref f)) :
    Cal Pr w K mg base 1 "_law_pot" ["_law_script", "_law_k"] (spF K 2 g__law_pot) f fd := by
  refine ⟨fn_F F sc__law_pot fun cdv A outer s H hh => ?_, gl, F.kp, F.binds (ps := ["_law_script", "_law_k"]) fun _ _ _ _ _ _ us hl => match us, hl with | [_, _], _ => rfl⟩
  have nd := sc__law_pot.nd
  exact (s_cons (s_asg (bb := true) e_int (g_nm (P := []) (by decide) (pg_name (i := 2) nd rfl (by first | exact Or.inl rfl | exact Or.inr rfl))))
    (s_cons (s_if (bb := true) (t_cmp (op_ltD hh.u0) d_lt (nomark _) (e_var 1 (pv 1)) (e_callB call_lenD2 d_len (by rfl) T.b_len (by decide +kernel) (a_cons (e_var 0 (pv 0)) a_nil))) (s_one (s_asg (bb := true) (e_op op_mod d_mod (e_callB call_abs d_abs (by rfl) T.b_abs (by decide +kernel) (a_cons (e_ix ix_seqB d_ix (fun _ _ => rfl) (e_var 0 (pv 0)) (e_var 1 (pv 1))) a_nil)) (e_op op_powW d_pow (e_op op_powW d_pow e_int e_int) e_int)) (g_nm (P := []) (by decide) (pg_name (i := 2) nd rfl (by first | exact Or.inl rfl | exact Or.inr rfl))))) s_nil)
    (s_cons (s_asg (bb := true) (e_op op_mod d_mod (e_op op_powW d_pow (e_op op_addD d_add (e_op op_addD d_add (e_op op_mod d_mod (e_var 2 (pv 2)) e_int) (e_op op_mulW d_mulI e_int (e_var 1 (pv 1)))) e_int) e_int) e_int) (g_nm (P := []) (by decide) (pg_name (i := 3) nd rfl (by first | exact Or.inl rfl | exact Or.inr rfl))))
    (s_one (s_retF (bb := true) (l_lst (a_cons (e_op op_mulW d_mulI (e_var 2 (pv 2)) (e_callTy call_int1 d_int (by rfl) T.b_int (by decide +kernel) (a_cons (e_cmp op_geI d_geI (nomark _) (e_var 2 (pv 2)) (e_op op_powW d_pow e_int e_int)) a_nil))) (a_cons (e_var 3 (pv 3)) (a_cons e_int a_nil)))))))))
abbrev s_is_whole : Stmt := topS 6
theorem sc_is_whole : FnScope ["thing"] ["thing"] (defScope s_is_whole) := ⟨rfl, rfl, rfl, by decide +kernel, rfl, by decide +kernel, by decide +kernel⟩
def f_is_whole : FS := (fRet (vAnd (fUn (isiD "int") (fVar 0)) (vNot (fUn (isiD "bool") (fVar 0)))))
def g_is_whole : List PyData → Option PyData := runP 1 f_is_whole
theorem mk_is_whole {Pr : Program} {w : World} {K : PySem.W.Frag} {mg : Str → Option Value} {base : Heap} (T : Tops K mg) {f : Addr} {fd : FuncData} (F : Fun K "is_whole" "is_whole" s_is_whole f fd) (gl : mg "is_whole" = some (.ref f)) :
    Cal Pr w K mg base 1 "is_whole" ["thing"] (spP K 1 g_is_whole) f fd := by
  refine ⟨fn_P F sc_is_whole fun cdv A outer s H hh => ?_, gl, F.kp, F.binds (ps := ["thing"]) fun _ _ _ _ _ _ us hl => match us, hl with | [_], _ => rfl⟩
  have nd := sc_is_whole.nd
  exact (s_one (s_ret (bb := true) (e_and (e_isi (T := "int") (by rfl) T.b_isinstance (by decide +kernel) (by rfl) T.b_int (by decide +kernel) (e_var 0 (pv 0))) (e_one (e_not (e_isi (T := "bool") (by rfl) T.b_isinstance (by decide +kernel) (by rfl) T.b_bool (by decide +kernel) (e_var 0 (pv 0))))))))
abbrev s_needed_part : Stmt := topS 23
theorem sc_needed_part : FnScope ["web", "number", "beyond", "rows"] ["web", "number"] (defScope s_needed_part) := ⟨rfl, rfl, rfl, by decide +kernel, rfl, by decide +kernel, by decide +kernel⟩
def f_needed_part : FS := (fSeq (fAsg (fCall (lenIs 1 g_need_web) (fCons (fVar 0) fNil)) (gNm 2))
    (fSeq (fIfS (tdOr (tdNot (fTst (fCall (lenIs 1 g_is_whole) (fCons (fVar 1) fNil)))) (fTst (fBin ltD (fVar 1) (ret (.int 0))))) fNever fNext)
    (fSeq (fAsg (fCall (lenIs 2 g_first_parts) (fCons (fVar 2) (fCons (fBin addD (fVar 1) (ret (.int 1))) fNil))) (gNm 3))
    (fSeq (fIfS (fTst (fBin geI (fVar 1) (fCall lenD (fCons (fVar 3) fNil)))) fNever fNext)
    (fRet (fBin ixD (fVar 3) (fVar 1)))))))
def g_needed_part : List PyData → Option PyData := runP 4 f_needed_part
theorem mk_needed_part {Pr : Program} {w : World} {K : PySem.W.Frag} {mg : Str → Option Value} {base : Heap} (T : Tops K mg) {a_need_web : Addr} {d_need_web : FuncData} (c_need_web : Cal Pr w K mg base 3 "need_web" ["web"] (spP K 1 g_need_web) a_need_web d_need_web) {a_first_parts : Addr} {d_first_parts : FuncData} (c_first_parts : Cal Pr w K mg base 2 "first_parts" ["beyond", "most"] (spP K 2 g_first_parts) a_first_parts d_first_parts) {a_is_whole : Addr} {d_is_whole : FuncData} (c_is_whole : Cal Pr w K mg base 1 "is_whole" ["thing"] (spP K 1 g_is_whole) a_is_whole d_is_whole) {f : Addr} {fd : FuncData} (F : Fun K "needed_part" "needed_part" s_needed_part f fd) (gl : mg "needed_part" = some (.ref f)) :
    Cal Pr w K mg base 4 "needed_part" ["web", "number"] (spP K 2 g_needed_part) f fd := by
  refine ⟨fn_P F sc_needed_part fun cdv A outer s H hh => ?_, gl, F.kp, F.binds (ps := ["web", "number"]) fun _ _ _ _ _ _ us hl => match us, hl with | [_, _], _ => rfl⟩
  have nd := sc_needed_part.nd
  exact (s_cons (s_asg (bb := true) (e_callP c_need_web.ok (hh.mono (by decide)) (by rfl) c_need_web.gl c_need_web.kp c_need_web.bd (a_cons (e_var 0 (pv 0)) a_nil)) (g_nm (P := []) (by decide) (pg_name (i := 2) nd rfl (by first | exact Or.inl rfl | exact Or.inr rfl))))
    (s_cons (s_if (bb := true) (PW.pt (w_or (t_not (t_val (e_callP c_is_whole.ok (hh.mono (by decide)) (by rfl) c_is_whole.gl c_is_whole.kp c_is_whole.bd (a_cons (e_var 1 (pv 1)) a_nil)))) (w_or1 (t_cmp (op_ltD hh.u0) d_lt (nomark _) (e_var 1 (pv 1)) e_int)))) (s_one s_never) s_nil)
    (s_cons (s_asg (bb := true) (e_callP c_first_parts.ok (hh.mono (by decide)) (by rfl) c_first_parts.gl c_first_parts.kp c_first_parts.bd (a_cons (e_var 2 (pv 2)) (a_cons (e_op op_addD d_add (e_var 1 (pv 1)) e_int) a_nil))) (g_nm (P := []) (by decide) (pg_name (i := 3) nd rfl (by first | exact Or.inl rfl | exact Or.inr rfl))))
    (s_cons (s_if (bb := true) (t_cmp op_geI d_geI (nomark _) (e_var 1 (pv 1)) (e_callB call_lenD2 d_len (by rfl) T.b_len (by decide +kernel) (a_cons (e_var 3 (pv 3)) a_nil))) (s_one s_never) s_nil)
    (s_one (s_ret (bb := true) (e_ix ix_seqB d_ix (fun _ _ => rfl) (e_var 3 (pv 3)) (e_var 1 (pv 1)))))))))
abbrev s_ways_in : Stmt := topS 19
theorem sc_ways_in : FnScope ["web", "posts", "inside", "post", "number", "way"] ["web", "posts"] (defScope s_ways_in) := ⟨rfl, rfl, rfl, by decide +kernel, rfl, by decide +kernel, by decide +kernel⟩
def b1_ways_in : FS := (fSetI 2 (ret (.bool true)) (fVar 3))
def f_ways_in : FS := (fSeq (fIfS (fTst (fBin eqD (fCall lenD (fCons (fVar 1) fNil)) (fBin ixD (fVar 0) (ret (.int 0))))) (fRet (fTupRg (fCall lenD (fCons (fBin ixD (fVar 0) (ret (.int 1))) fNil)))) fNext)
    (fSeq (fOwn (fOpN repN (fOf (thnE (fCons (ret (.bool false)) fNil) fun xs => liftO (if sizeOk xs.length = true then some xs else none))) (fBin ixD (fVar 0) (ret (.int 0)))) 2)
    (fSeq (fFor (fItems (fVar 1)) (gNm 3) b1_ways_in)
    (fFrz 2 (fRet (fCall tupleD (fCons (fOf (fLc (fEnum (fCons (fBin ixD (fVar 0) (ret (.int 1))) fNil)) (gTp [(gNm 4), (gNm 5)]) (fTst (fBin ixD (fVar 2) (fBin fdivD (fBin ixD (fVar 5) (ret (.int 0))) (ret (.int 4))))) (fVar 4) [4, 5])) fNil)))))))
def g_ways_in : List PyData → Option PyData := runP 6 f_ways_in
theorem mk_ways_in {Pr : Program} {w : World} {K : PySem.W.Frag} {mg : Str → Option Value} {base : Heap} (T : Tops K mg) {f : Addr} {fd : FuncData} (F : Fun K "ways_in" "ways_in" s_ways_in f fd) (gl : mg "ways_in" = some (.ref f)) :
    Cal Pr w K mg base 1 "ways_in" ["web", "posts"] (spP K 2 g_ways_in) f fd := by
  refine ⟨fn_P F sc_ways_in fun cdv A outer s H hh => ?_, gl, F.kp, F.binds (ps := ["web", "posts"]) fun _ _ _ _ _ _ us hl => match us, hl with | [_, _], _ => rfl⟩
  have nd := sc_ways_in.nd
  exact (s_cons (s_if (bb := true) (t_cmp (op_eq2 hh.u) d_eq (nomark _) (e_callB call_lenD2 d_len (by rfl) T.b_len (by decide +kernel) (a_cons (e_var 1 (pv 1)) a_nil)) (e_ix ix_seqB d_ix (fun _ _ => rfl) (e_var 0 (pv 0)) e_int)) (s_one (s_ret (bb := true) (e_tupRg hh.c (by rfl) T.b_tuple (by rfl) T.b_range (e_callB call_lenD2 d_len (by rfl) T.b_len (by decide +kernel) (a_cons (e_ix ix_seqB d_ix (fun _ _ => rfl) (e_var 0 (pv 0)) e_int) a_nil))))) s_nil)
    (s_cons (s_own (bb := true) 2 (P := []) (by decide) (l_op op_repR n_rep (e_ofF (l_lst (a_cons e_bl a_nil))) (e_ix ix_seqB d_ix (fun _ _ => rfl) (e_var 0 (pv 0)) e_int)) (pg_name (i := 2) nd rfl (by first | exact Or.inl rfl | exact Or.inr rfl)))
    (s_cons (s_for (bb := true) PassesOwn.never hh.c (i_seq (e_var 1 (pv 1))) (g_nm (P := []) (by decide) (pg_name (i := 3) nd rfl (by first | exact Or.inl rfl | exact Or.inr rfl))) (s_one (s_setI 2 (pg_sub (pv 2) (e_var 3 (pv 3)) set_list2) e_bl)))
    (ss_frz 2 (s_one (s_ret (bb := true) (e_callTy call_tuple_of d_tuple (by rfl) T.b_tuple (by decide +kernel) (a_cons (e_ofF (l_lc (own := [("number", 4), ("way", 5)]) 6 hh.c nd (i_enum (by rfl) T.b_enumerate (a_cons (e_ix ix_seqB d_ix (fun _ _ => rfl) (e_var 0 (pv 0)) e_int) a_nil)) (blkOk_by (by first | rfl | kernel_rfl)) (fun _ _ _ _ _ => (g_tp hh.blk.c (gs_cons (g_nm (P := compl 6 [4, 5]) (by decide) (pg_name (i := 4) nd rfl (by first | exact Or.inl rfl | exact Or.inr rfl))) (gs_cons (g_nm (P := compl 6 [4, 5]) (by decide) (pg_name (i := 5) nd rfl (by first | exact Or.inl rfl | exact Or.inr rfl))) gs_nil)))) (fun _ _ _ _ _ => (ts_one (t_val (e_ix ix_seqB d_ix (fun _ _ => rfl) (e_var 2 (pv 2)) (e_op op_fdivW d_fdiv (e_ix ix_seqB d_ix (fun _ _ => rfl) (e_var 5 (pv 5)) e_int) (e_globE (by rfl) T.c_HANDS)))))) (fun _ _ _ _ _ => (e_var 4 (pv 4))))) a_nil))))))))
abbrev s_part_web : Stmt := topS 21
theorem sc_part_web : FnScope ["web", "number", "posts", "hands", "ways", "at", "post", "side", "way"] ["web", "number"] (defScope s_part_web) := ⟨rfl, rfl, rfl, by decide +kernel, rfl, by decide +kernel, by decide +kernel⟩
def b1_part_web : FS := (fSetI 3 (fBin addD (fBin mulI (ret (.int 4)) (fVar 5)) (fVar 7)) (fBin addD (fBin mulI (ret (.int 4)) (fVar 6)) (fVar 7)))
def b2_part_web : FS := (fFor (fRng rng1 (fCons (ret (.int 4)) fNil)) (gNm 7) b1_part_web)
def f_part_web : FS := (fSeq (fAsg (fCall (lenIs 2 g_needed_part) (fCons (fVar 0) (fCons (fVar 1) fNil))) (gNm 2))
    (fSeq (fIfS (fTst (fBin eqD (fCall lenD (fCons (fVar 2) fNil)) (fBin ixD (fVar 0) (ret (.int 0))))) (fRet (fTup (fCons (fBin ixD (fVar 0) (ret (.int 0))) (fCons (fBin ixD (fVar 0) (ret (.int 1))) fNil)))) fNext)
    (fSeq (fOwn (fOpN repN (fOf (thnE (fCons (ret (.int 0)) fNil) fun xs => liftO (if sizeOk xs.length = true then some xs else none))) (fBin mulI (ret (.int 4)) (fBin ixD (fVar 0) (ret (.int 0))))) 3)
    (fSeq (fFor (fEnum (fCons (fVar 2) fNil)) (gTp [(gNm 5), (gNm 6)]) b2_part_web)
    (fFrz 3 (fSeq (fAsg (fOf (fLc (fItems (fCall (lenIs 2 g_ways_in) (fCons (fVar 0) (fCons (fVar 2) fNil)))) (gNm 8) (ret true) (fBin ixD (fBin ixD (fVar 0) (ret (.int 1))) (fVar 8)) [8])) (gNm 4))
    (fRet (fTup (fCons (fCall lenD (fCons (fVar 2) fNil)) (fCons (fCall tupleD (fCons (fOf (fLc (fItems (fVar 4)) (gNm 8) (ret true) (fIf (fTst (fBin eqD (fCall lenD (fCons (fVar 8) fNil)) (ret (.int 2)))) (fTup (fCons (fBin ixD (fVar 3) (fBin ixD (fVar 8) (ret (.int 0)))) (fCons (fBin ixD (fVar 3) (fBin ixD (fVar 8) (ret (.int 1)))) fNil))) (fTup (fCons (fBin ixD (fVar 3) (fBin ixD (fVar 8) (ret (.int 0)))) fNil))) [8])) fNil)) fNil))))))))))
def g_part_web : List PyData → Option PyData := runP 9 f_part_web
theorem mk_part_web {Pr : Program} {w : World} {K : PySem.W.Frag} {mg : Str → Option Value} {base : Heap} (T : Tops K mg) {a_needed_part : Addr} {d_needed_part : FuncData} (c_needed_part : Cal Pr w K mg base 4 "needed_part" ["web", "number"] (spP K 2 g_needed_part) a_needed_part d_needed_part) {a_ways_in : Addr} {d_ways_in : FuncData} (c_ways_in : Cal Pr w K mg base 1 "ways_in" ["web", "posts"] (spP K 2 g_ways_in) a_ways_in d_ways_in) {f : Addr} {fd : FuncData} (F : Fun K "part_web" "part_web" s_part_web f fd) (gl : mg "part_web" = some (.ref f)) :
    Cal Pr w K mg base 5 "part_web" ["web", "number"] (spP K 2 g_part_web) f fd := by
  refine ⟨fn_P F sc_part_web fun cdv A outer s H hh => ?_, gl, F.kp, F.binds (ps := ["web", "number"]) fun _ _ _ _ _ _ us hl => match us, hl with | [_, _], _ => rfl⟩
  have nd := sc_part_web.nd
  exact (s_cons (s_asg (bb := true) (e_callP c_needed_part.ok (hh.mono (by decide)) (by rfl) c_needed_part.gl c_needed_part.kp c_needed_part.bd (a_cons (e_var 0 (pv 0)) (a_cons (e_var 1 (pv 1)) a_nil))) (g_nm (P := []) (by decide) (pg_name (i := 2) nd rfl (by first | exact Or.inl rfl | exact Or.inr rfl))))
    (s_cons (s_if (bb := true) (t_cmp (op_eq2 hh.u) d_eq (nomark _) (e_callB call_lenD2 d_len (by rfl) T.b_len (by decide +kernel) (a_cons (e_var 2 (pv 2)) a_nil)) (e_ix ix_seqB d_ix (fun _ _ => rfl) (e_var 0 (pv 0)) e_int)) (s_one (s_ret (bb := true) (e_tup (a_cons (e_ix ix_seqB d_ix (fun _ _ => rfl) (e_var 0 (pv 0)) e_int) (a_cons (e_ix ix_seqB d_ix (fun _ _ => rfl) (e_var 0 (pv 0)) e_int) a_nil))))) s_nil)
    (s_cons (s_own (bb := true) 3 (P := []) (by decide) (l_op op_repR n_rep (e_ofF (l_lst (a_cons e_int a_nil))) (e_op op_mulW d_mulI (e_globE (by rfl) T.c_HANDS) (e_ix ix_seqB d_ix (fun _ _ => rfl) (e_var 0 (pv 0)) e_int))) (pg_name (i := 3) nd rfl (by first | exact Or.inl rfl | exact Or.inr rfl)))
    (s_cons (s_for (bb := true) PassesOwn.never hh.c (i_enum (by rfl) T.b_enumerate (a_cons (e_var 2 (pv 2)) a_nil)) (g_tp hh.c (gs_cons (g_nm (P := []) (by decide) (pg_name (i := 5) nd rfl (by first | exact Or.inl rfl | exact Or.inr rfl))) (gs_cons (g_nm (P := []) (by decide) (pg_name (i := 6) nd rfl (by first | exact Or.inl rfl | exact Or.inr rfl))) gs_nil))) (s_one (s_for (bb := true) PassesOwn.never hh.c (i_rng1 (by rfl) T.b_range (a_cons (e_globE (by rfl) T.c_HANDS) a_nil)) (g_nm (P := []) (by decide) (pg_name (i := 7) nd rfl (by first | exact Or.inl rfl | exact Or.inr rfl))) (s_one (s_setI 3 (pg_sub (pv 3) (e_op op_addD d_add (e_op op_mulW d_mulI (e_globE (by rfl) T.c_HANDS) (e_var 6 (pv 6))) (e_var 7 (pv 7))) set_list2) (e_op op_addD d_add (e_op op_mulW d_mulI (e_globE (by rfl) T.c_HANDS) (e_var 5 (pv 5))) (e_var 7 (pv 7))))))))
    (ss_frz 3 (s_cons (s_setLc (bb := true) (i := 4) (P := []) (own := [("way", 8)]) 9 (by decide) hh.c nd rfl rfl (sw_true rfl rfl rfl (by decide +kernel)) (i_seq (e_callP c_ways_in.ok (hh.mono (by decide)) (by rfl) c_ways_in.gl c_ways_in.kp c_ways_in.bd (a_cons (e_var 0 (pv 0)) (a_cons (e_var 2 (pv 2)) a_nil)))) (blkOk_by (by first | rfl | kernel_rfl)) (fun _ _ _ _ _ => (g_nm (P := compl 9 [8]) (by decide) (pg_name (i := 8) nd rfl (by first | exact Or.inl rfl | exact Or.inr rfl)))) (fun _ _ _ _ _ => ts_nil) (fun _ _ _ _ _ => (e_ix ix_seqB d_ix (fun _ _ => rfl) (e_ix ix_seqB d_ix (fun _ _ => rfl) (e_var 0 (pv 0)) e_int) (e_var 8 (pv 8)))))
    (s_one (s_ret (bb := true) (e_tup (a_cons (e_callB call_lenD2 d_len (by rfl) T.b_len (by decide +kernel) (a_cons (e_var 2 (pv 2)) a_nil)) (a_cons (e_callTy call_tuple_of d_tuple (by rfl) T.b_tuple (by decide +kernel) (a_cons (e_ofF (l_lc (own := [("way", 8)]) 9 hh.c nd (i_seq (e_var 4 (pv 4))) (blkOk_by (by first | rfl | kernel_rfl)) (fun _ _ _ _ _ => (g_nm (P := compl 9 [8]) (by decide) (pg_name (i := 8) nd rfl (by first | exact Or.inl rfl | exact Or.inr rfl)))) (fun _ _ _ _ _ => ts_nil) (fun _ _ _ _ _ => (e_if (t_cmp (op_eq2 hh.blk.u) d_eq (nomark _) (e_callB call_lenD2 d_len (by rfl) T.b_len (by decide +kernel) (a_cons (e_var 8 (pv 8)) a_nil)) e_int) (e_tup (a_cons (e_ix ix_seqB d_ix (fun _ _ => rfl) (e_var 3 (pv 3)) (e_ix ix_seqB d_ix (fun _ _ => rfl) (e_var 8 (pv 8)) e_int)) (a_cons (e_ix ix_seqB d_ix (fun _ _ => rfl) (e_var 3 (pv 3)) (e_ix ix_seqB d_ix (fun _ _ => rfl) (e_var 8 (pv 8)) e_int)) a_nil))) (e_tup (a_cons (e_ix ix_seqB d_ix (fun _ _ => rfl) (e_var 3 (pv 3)) (e_ix ix_seqB d_ix (fun _ _ => rfl) (e_var 8 (pv 8)) e_int)) a_nil)))))) a_nil)) a_nil)))))))))))
abbrev s_part_ways : Stmt := topS 22
theorem sc_part_ways : FnScope ["web", "number"] ["web", "number"] (defScope s_part_ways) := ⟨rfl, rfl, rfl, by decide +kernel, rfl, by decide +kernel, by decide +kernel⟩
def f_part_ways : FS := (fRet (fCall (lenIs 2 g_ways_in) (fCons (fVar 0) (fCons (fCall (lenIs 2 g_needed_part) (fCons (fVar 0) (fCons (fVar 1) fNil))) fNil))))
def g_part_ways : List PyData → Option PyData := runP 2 f_part_ways
theorem mk_part_ways {Pr : Program} {w : World} {K : PySem.W.Frag} {mg : Str → Option Value} {base : Heap} (T : Tops K mg) {a_ways_in : Addr} {d_ways_in : FuncData} (c_ways_in : Cal Pr w K mg base 1 "ways_in" ["web", "posts"] (spP K 2 g_ways_in) a_ways_in d_ways_in) {a_needed_part : Addr} {d_needed_part : FuncData} (c_needed_part : Cal Pr w K mg base 4 "needed_part" ["web", "number"] (spP K 2 g_needed_part) a_needed_part d_needed_part) {f : Addr} {fd : FuncData} (F : Fun K "part_ways" "part_ways" s_part_ways f fd) (gl : mg "part_ways" = some (.ref f)) :
    Cal Pr w K mg base 5 "part_ways" ["web", "number"] (spP K 2 g_part_ways) f fd := by
  refine ⟨fn_P F sc_part_ways fun cdv A outer s H hh => ?_, gl, F.kp, F.binds (ps := ["web", "number"]) fun _ _ _ _ _ _ us hl => match us, hl with | [_, _], _ => rfl⟩
  have nd := sc_part_ways.nd
  exact (s_one (s_ret (bb := true) (e_callP c_ways_in.ok (hh.mono (by decide)) (by rfl) c_ways_in.gl c_ways_in.kp c_ways_in.bd (a_cons (e_var 0 (pv 0)) (a_cons (e_callP c_needed_part.ok (hh.mono (by decide)) (by rfl) c_needed_part.gl c_needed_part.kp c_needed_part.bd (a_cons (e_var 0 (pv 0)) (a_cons (e_var 1 (pv 1)) a_nil))) a_nil)))))
abbrev s_is_below : Stmt := topS 7
theorem sc_is_below : FnScope ["thing", "many"] ["thing", "many"] (defScope s_is_below) := ⟨rfl, rfl, rfl, by decide +kernel, rfl, by decide +kernel, by decide +kernel⟩
def f_is_below : FS := (fRet (vAnd (fUn (isiD "int") (fVar 0)) (vAnd (vNot (fUn (isiD "bool") (fVar 0))) (fChain leI ltD (ret (.int 0)) (fVar 0) (fVar 1)))))
def g_is_below : List PyData → Option PyData := runP 2 f_is_below
theorem mk_is_below {Pr : Program} {w : World} {K : PySem.W.Frag} {mg : Str → Option Value} {base : Heap} (T : Tops K mg) {f : Addr} {fd : FuncData} (F : Fun K "is_below" "is_below" s_is_below f fd) (gl : mg "is_below" = some (.ref f)) :
    Cal Pr w K mg base 1 "is_below" ["thing", "many"] (spP K 2 g_is_below) f fd := by
  refine ⟨fn_P F sc_is_below fun cdv A outer s H hh => ?_, gl, F.kp, F.binds (ps := ["thing", "many"]) fun _ _ _ _ _ _ us hl => match us, hl with | [_, _], _ => rfl⟩
  have nd := sc_is_below.nd
  exact (s_one (s_ret (bb := true) (e_and (e_isi (T := "int") (by rfl) T.b_isinstance (by decide +kernel) (by rfl) T.b_int (by decide +kernel) (e_var 0 (pv 0))) (e_and (e_not (e_isi (T := "bool") (by rfl) T.b_isinstance (by decide +kernel) (by rfl) T.b_bool (by decide +kernel) (e_var 0 (pv 0)))) (e_one (e_chain op_leI (op_ltD hh.u0) d_leI d_lt e_int (e_var 0 (pv 0)) (e_var 1 (pv 1))))))))
abbrev s_across : Stmt := topS 15
theorem sc_across : FnScope ["web", "hand", "beyond"] ["web", "hand"] (defScope s_across) := ⟨rfl, rfl, rfl, by decide +kernel, rfl, by decide +kernel, by decide +kernel⟩
def f_across : FS := (fSeq (fAsg (fCall (lenIs 1 g_need_web) (fCons (fVar 0) fNil)) (gNm 2))
    (fSeq (fIfS (tdNot (fTst (fCall (lenIs 2 g_is_below) (fCons (fVar 1) (fCons (fCall lenD (fCons (fVar 2) fNil)) fNil))))) fNever fNext)
    (fRet (fBin ixD (fVar 2) (fVar 1)))))
def g_across : List PyData → Option PyData := runP 3 f_across
theorem mk_across {Pr : Program} {w : World} {K : PySem.W.Frag} {mg : Str → Option Value} {base : Heap} (T : Tops K mg) {a_need_web : Addr} {d_need_web : FuncData} (c_need_web : Cal Pr w K mg base 3 "need_web" ["web"] (spP K 1 g_need_web) a_need_web d_need_web) {a_is_below : Addr} {d_is_below : FuncData} (c_is_below : Cal Pr w K mg base 1 "is_below" ["thing", "many"] (spP K 2 g_is_below) a_is_below d_is_below) {f : Addr} {fd : FuncData} (F : Fun K "across" "across" s_across f fd) (gl : mg "across" = some (.ref f)) :
    Cal Pr w K mg base 4 "across" ["web", "hand"] (spP K 2 g_across) f fd := by
  refine ⟨fn_P F sc_across fun cdv A outer s H hh => ?_, gl, F.kp, F.binds (ps := ["web", "hand"]) fun _ _ _ _ _ _ us hl => match us, hl with | [_, _], _ => rfl⟩
  have nd := sc_across.nd
  exact (s_cons (s_asg (bb := true) (e_callP c_need_web.ok (hh.mono (by decide)) (by rfl) c_need_web.gl c_need_web.kp c_need_web.bd (a_cons (e_var 0 (pv 0)) a_nil)) (g_nm (P := []) (by decide) (pg_name (i := 2) nd rfl (by first | exact Or.inl rfl | exact Or.inr rfl))))
    (s_cons (s_if (bb := true) (t_not (t_val (e_callP c_is_below.ok (hh.mono (by decide)) (by rfl) c_is_below.gl c_is_below.kp c_is_below.bd (a_cons (e_var 1 (pv 1)) (a_cons (e_callB call_lenD2 d_len (by rfl) T.b_len (by decide +kernel) (a_cons (e_var 2 (pv 2)) a_nil)) a_nil))))) (s_one s_never) s_nil)
    (s_one (s_ret (bb := true) (e_ix ix_seqB d_ix (fun _ _ => rfl) (e_var 2 (pv 2)) (e_var 1 (pv 1)))))))
abbrev s_is_web : Stmt := topS 11
theorem sc_is_web : FnScope ["thing"] ["thing"] (defScope s_is_web) := ⟨rfl, rfl, rfl, by decide +kernel, rfl, by decide +kernel, by decide +kernel⟩
def f_is_web : FS := (fRet (fBin notNoneD (fCall (lenIs 1 g_hands_across) (fCons (fVar 0) fNil)) (ret .none)))
def g_is_web : List PyData → Option PyData := runP 1 f_is_web
theorem mk_is_web {Pr : Program} {w : World} {K : PySem.W.Frag} {mg : Str → Option Value} {base : Heap} (T : Tops K mg) {a_hands_across : Addr} {d_hands_across : FuncData} (c_hands_across : Cal Pr w K mg base 2 "hands_across" ["thing"] (spP K 1 g_hands_across) a_hands_across d_hands_across) {f : Addr} {fd : FuncData} (F : Fun K "is_web" "is_web" s_is_web f fd) (gl : mg "is_web" = some (.ref f)) :
    Cal Pr w K mg base 3 "is_web" ["thing"] (spP K 1 g_is_web) f fd := by
  refine ⟨fn_P F sc_is_web fun cdv A outer s H hh => ?_, gl, F.kp, F.binds (ps := ["thing"]) fun _ _ _ _ _ _ us hl => match us, hl with | [_], _ => rfl⟩
  have nd := sc_is_web.nd
  exact (s_one (s_ret (bb := true) (e_cmp op_notN d_notN (nomark _) (e_callP c_hands_across.ok (hh.mono (by decide)) (by rfl) c_hands_across.gl c_hands_across.kp c_hands_across.bd (a_cons (e_var 0 (pv 0)) a_nil)) e_non)))
abbrev s__law_part_right : Stmt := topS 29
theorem sc__law_part_right : FnScope ["_law_web", "_law_number", "_law_posts", "_law_part", "_law_numbers", "_law_hand", "_law_way", "_law_at", "_law_here", "_law_there"] ["_law_web", "_law_number", "_law_posts"] (defScope s__law_part_right) := ⟨rfl, rfl, rfl, by decide +kernel, rfl, by decide +kernel, by decide +kernel⟩
def b1__law_part_right : FS := (fIfS (fTst (fBin neD (fCall tupleD (fCons (fOf (fLc (fItems (fVar 6)) (gNm 5) (ret true) (fBin addD (fBin mulI (ret (.int 4)) (fBin ixD (fVar 2) (fBin fdivD (fVar 5) (ret (.int 4))))) (fBin modD (fVar 5) (ret (.int 4)))) [5])) fNil)) (fBin ixD (fBin ixD (fVar 0) (ret (.int 1))) (fVar 7)))) (fRet (ret .none)) fNext)
def b2__law_part_right : FS := (fSeq (fAsg (fCall (lenIs 2 g_across) (fCons (fVar 3) (fCons (fVar 5) fNil))) (gNm 8))
    (fSeq (fAsg (fCall (lenIs 2 g_across) (fCons (fVar 0) (fCons (fBin addD (fBin mulI (ret (.int 4)) (fBin ixD (fVar 2) (fBin fdivD (fVar 5) (ret (.int 4))))) (fBin modD (fVar 5) (ret (.int 4)))) fNil))) (gNm 9))
    (fIfS (tdOr (fTst (fBin neD (fBin isNoneD (fVar 8) (ret .none)) (fBin isNoneD (fVar 9) (ret .none)))) (tdAnd (fTst (fBin notNoneD (fVar 8) (ret .none))) (fTst (fBin neD (fBin addD (fBin mulI (ret (.int 4)) (fBin ixD (fVar 2) (fBin fdivD (fVar 8) (ret (.int 4))))) (fBin modD (fVar 8) (ret (.int 4)))) (fVar 9))))) (fRet (ret .none)) fNext)))
def f__law_part_right : FS := (fSeq (fAsg (fCall (lenIs 2 g_part_web) (fCons (fVar 0) (fCons (fVar 1) fNil))) (gNm 3))
    (fSeq (fAsg (fCall (lenIs 2 g_part_ways) (fCons (fVar 0) (fCons (fVar 1) fNil))) (gNm 4))
    (fSeq (fIfS (tdOr (fTst (fBin notB (fCall (lenIs 1 g_is_web) (fCons (fVar 3) fNil)) (ret (.bool true)))) (tdOr (fTst (fBin neD (fCall lenD (fCons (fBin ixD (fVar 3) (ret (.int 1))) fNil)) (fCall lenD (fCons (fVar 4) fNil)))) (fTst (fBin neD (fBin ixD (fVar 3) (ret (.int 0))) (fCall lenD (fCons (fVar 2) fNil)))))) (fRet (ret .none)) fNext)
    (fSeq (fIfS (fTst (fBin neD (fCall reprD (fCons (fCall (lenIs 1 g_parts_of) (fCons (fVar 3) fNil)) fNil)) (fCall reprD (fCons (fTup (fCons (fTupRg (fCall lenD (fCons (fVar 2) fNil))) fNil)) fNil)))) (fRet (ret .none)) fNext)
    (fSeq (fFor (fZip (fCons (fBin ixD (fVar 3) (ret (.int 1))) (fCons (fVar 4) fNil))) (gTp [(gNm 6), (gNm 7)]) b1__law_part_right)
    (fSeq (fFor (fRng rng1 (fCons (fBin mulI (ret (.int 4)) (fBin ixD (fVar 3) (ret (.int 0)))) fNil)) (gNm 5) b2__law_part_right)
    (fRet (fCall listD (fCons (fVar 4) fNil)))))))))
def g__law_part_right : List PyData → Option PyData := runP 10 f__law_part_right
theorem mk__law_part_right {Pr : Program} {w : World} {K : PySem.W.Frag} {mg : Str → Option Value} {base : Heap} (T : Tops K mg) {a_part_web : Addr} {d_part_web : FuncData} (c_part_web : Cal Pr w K mg base 5 "part_web" ["web", "number"] (spP K 2 g_part_web) a_part_web d_part_web) {a_part_ways : Addr} {d_part_ways : FuncData} (c_part_ways : Cal Pr w K mg base 5 "part_ways" ["web", "number"] (spP K 2 g_part_ways) a_part_ways d_part_ways) {a_across : Addr} {d_across : FuncData} (c_across : Cal Pr w K mg base 4 "across" ["web", "hand"] (spP K 2 g_across) a_across d_across) {a_is_web : Addr} {d_is_web : FuncData} (c_is_web : Cal Pr w K mg base 3 "is_web" ["thing"] (spP K 1 g_is_web) a_is_web d_is_web) {a_parts_of : Addr} {d_parts_of : FuncData} (c_parts_of : Cal Pr w K mg base 4 "parts_of" ["web"] (spP K 1 g_parts_of) a_parts_of d_parts_of) {f : Addr} {fd : FuncData} (F : Fun K "_law_part_right" "_law_part_right" s__law_part_right f fd) (gl : mg "_law_part_right" = some (.ref f)) :
    Cal Pr w K mg base 6 "_law_part_right" ["_law_web", "_law_number", "_law_posts"] (spP K 3 g__law_part_right) f fd := by
  refine ⟨fn_P F sc__law_part_right fun cdv A outer s H hh => ?_, gl, F.kp, F.binds (ps := ["_law_web", "_law_number", "_law_posts"]) fun _ _ _ _ _ _ us hl => match us, hl with | [_, _, _], _ => rfl⟩
  have nd := sc__law_part_right.nd
  exact (s_cons (s_asg (bb := true) (e_callP c_part_web.ok (hh.mono (by decide)) (by rfl) c_part_web.gl c_part_web.kp c_part_web.bd (a_cons (e_var 0 (pv 0)) (a_cons (e_var 1 (pv 1)) a_nil))) (g_nm (P := []) (by decide) (pg_name (i := 3) nd rfl (by first | exact Or.inl rfl | exact Or.inr rfl))))
    (s_cons (s_asg (bb := true) (e_callP c_part_ways.ok (hh.mono (by decide)) (by rfl) c_part_ways.gl c_part_ways.kp c_part_ways.bd (a_cons (e_var 0 (pv 0)) (a_cons (e_var 1 (pv 1)) a_nil))) (g_nm (P := []) (by decide) (pg_name (i := 4) nd rfl (by first | exact Or.inl rfl | exact Or.inr rfl))))
    (s_cons (s_if (bb := true) (PW.pt (w_or (t_cmp op_notBl d_notB (nomark _) (e_callP c_is_web.ok (hh.mono (by decide)) (by rfl) c_is_web.gl c_is_web.kp c_is_web.bd (a_cons (e_var 3 (pv 3)) a_nil)) e_bl) (w_or (t_cmp (op_ne2 hh.u) d_ne (nomark _) (e_callB call_lenD2 d_len (by rfl) T.b_len (by decide +kernel) (a_cons (e_ix ix_seqB d_ix (fun _ _ => rfl) (e_var 3 (pv 3)) e_int) a_nil)) (e_callB call_lenD2 d_len (by rfl) T.b_len (by decide +kernel) (a_cons (e_var 4 (pv 4)) a_nil))) (w_or1 (t_cmp (op_ne2 hh.u) d_ne (nomark _) (e_ix ix_seqB d_ix (fun _ _ => rfl) (e_var 3 (pv 3)) e_int) (e_callB call_lenD2 d_len (by rfl) T.b_len (by decide +kernel) (a_cons (e_var 2 (pv 2)) a_nil))))))) (s_one (s_ret (bb := true) e_non)) s_nil)
    (s_cons (s_if (bb := true) (t_cmp (op_ne2 hh.u) d_ne (nomark _) (e_callB (call_reprD hh.g hh.u) d_repr (by rfl) T.b_repr (by decide +kernel) (a_cons (e_callP c_parts_of.ok (hh.mono (by decide)) (by rfl) c_parts_of.gl c_parts_of.kp c_parts_of.bd (a_cons (e_var 3 (pv 3)) a_nil)) a_nil)) (e_callB (call_reprD hh.g hh.u) d_repr (by rfl) T.b_repr (by decide +kernel) (a_cons (e_tup (a_cons (e_tupRg hh.c (by rfl) T.b_tuple (by rfl) T.b_range (e_callB call_lenD2 d_len (by rfl) T.b_len (by decide +kernel) (a_cons (e_var 2 (pv 2)) a_nil))) a_nil)) a_nil))) (s_one (s_ret (bb := true) e_non)) s_nil)
    (s_cons (s_for (bb := true) PassesOwn.never hh.c (i_zip (by rfl) T.b_zip (a_cons (e_ix ix_seqB d_ix (fun _ _ => rfl) (e_var 3 (pv 3)) e_int) (a_cons (e_var 4 (pv 4)) a_nil))) (g_tp hh.c (gs_cons (g_nm (P := []) (by decide) (pg_name (i := 6) nd rfl (by first | exact Or.inl rfl | exact Or.inr rfl))) (gs_cons (g_nm (P := []) (by decide) (pg_name (i := 7) nd rfl (by first | exact Or.inl rfl | exact Or.inr rfl))) gs_nil))) (s_one (s_if (bb := true) (t_cmp (op_ne2 hh.u) d_ne (nomark _) (e_callTy call_tuple_of d_tuple (by rfl) T.b_tuple (by decide +kernel) (a_cons (e_ofF (l_lc (own := [("_law_hand", 5)]) 10 hh.c nd (i_seq (e_var 6 (pv 6))) (blkOk_by (by first | rfl | kernel_rfl)) (fun _ _ _ _ _ => (g_nm (P := compl 10 [5]) (by decide) (pg_name (i := 5) nd rfl (by first | exact Or.inl rfl | exact Or.inr rfl)))) (fun _ _ _ _ _ => ts_nil) (fun _ _ _ _ _ => (e_op op_addD d_add (e_op op_mulW d_mulI e_int (e_ix ix_seqB d_ix (fun _ _ => rfl) (e_var 2 (pv 2)) (e_op op_fdivW d_fdiv (e_var 5 (pv 5)) e_int))) (e_op op_mod d_mod (e_var 5 (pv 5)) e_int))))) a_nil)) (e_ix ix_seqB d_ix (fun _ _ => rfl) (e_ix ix_seqB d_ix (fun _ _ => rfl) (e_var 0 (pv 0)) e_int) (e_var 7 (pv 7)))) (s_one (s_ret (bb := true) e_non)) s_nil)))
    (s_cons (s_for (bb := true) PassesOwn.never hh.c (i_rng1 (by rfl) T.b_range (a_cons (e_op op_mulW d_mulI e_int (e_ix ix_seqB d_ix (fun _ _ => rfl) (e_var 3 (pv 3)) e_int)) a_nil)) (g_nm (P := []) (by decide) (pg_name (i := 5) nd rfl (by first | exact Or.inl rfl | exact Or.inr rfl))) (s_cons (s_asg (bb := true) (e_callP c_across.ok (hh.mono (by decide)) (by rfl) c_across.gl c_across.kp c_across.bd (a_cons (e_var 3 (pv 3)) (a_cons (e_var 5 (pv 5)) a_nil))) (g_nm (P := []) (by decide) (pg_name (i := 8) nd rfl (by first | exact Or.inl rfl | exact Or.inr rfl))))
    (s_cons (s_asg (bb := true) (e_callP c_across.ok (hh.mono (by decide)) (by rfl) c_across.gl c_across.kp c_across.bd (a_cons (e_var 0 (pv 0)) (a_cons (e_op op_addD d_add (e_op op_mulW d_mulI e_int (e_ix ix_seqB d_ix (fun _ _ => rfl) (e_var 2 (pv 2)) (e_op op_fdivW d_fdiv (e_var 5 (pv 5)) e_int))) (e_op op_mod d_mod (e_var 5 (pv 5)) e_int)) a_nil))) (g_nm (P := []) (by decide) (pg_name (i := 9) nd rfl (by first | exact Or.inl rfl | exact Or.inr rfl))))
    (s_one (s_if (bb := true) (PW.pt (w_or (t_cmp (op_ne2 hh.u) d_ne (nomark _) (e_cmp op_isN d_isN (nomark _) (e_var 8 (pv 8)) e_non) (e_cmp op_isN d_isN (nomark _) (e_var 9 (pv 9)) e_non)) (w_or1 (PW.pt (w_and (t_cmp op_notN d_notN (nomark _) (e_var 8 (pv 8)) e_non) (w_and1 (t_cmp (op_ne2 hh.u) d_ne (nomark _) (e_op op_addD d_add (e_op op_mulW d_mulI e_int (e_ix ix_seqB d_ix (fun _ _ => rfl) (e_var 2 (pv 2)) (e_op op_fdivW d_fdiv (e_var 8 (pv 8)) e_int))) (e_op op_mod d_mod (e_var 8 (pv 8)) e_int)) (e_var 9 (pv 9))))))))) (s_one (s_ret (bb := true) e_non)) s_nil)))))
    (s_one (s_ret (bb := true) (e_callTy call_list_of d_list (by rfl) T.b_list (by decide +kernel) (a_cons (e_var 4 (pv 4)) a_nil))))))))))
abbrev s_law : Stmt := topS 30
theorem sc_law : FnScope ["_law_script", "_law_k", "_law_web", "_law_parts", "_law_posts", "_law_numbers", "_law_number", "_law_part", "_law_told"] ["_law_script"] (defScope s_law) := ⟨rfl, rfl, rfl, by decide +kernel, rfl, by decide +kernel, by decide +kernel⟩
def b1_law : FS := (fSeq (fAsg (fCall (lenIs 3 g__law_part_right) (fCons (fVar 2) (fCons (fVar 6) (fCons (fVar 7) fNil)))) (gNm 8))
    (fSeq (fIfS (fTst (fBin isNoneD (fVar 8) (ret .none))) (fRet (ret (.bool false))) fNext)
    (fSeq (fDrop (fMet 4 extG (fCons (fVar 7) fNil)))
    (fDrop (fMet 5 extG (fCons (fVar 8) fNil))))))
def b2_law : FS := (fSeq (fAsg (fCallN 0 g__law_beside (fCallF 2 g__law_pot (fCons (fVar 0) (fCons (fVar 1) fNil))) fNil) (gNm 2))
    (fSeq (fAsg (fCall (lenIs 1 g_parts_of) (fCons (fVar 2) fNil)) (gNm 3))
    (fSeq (fOwn (thnE fNil fun xs => liftO (if sizeOk xs.length = true then some xs else none)) 4)
    (fSeq (fOwn (thnE fNil fun xs => liftO (if sizeOk xs.length = true then some xs else none)) 5)
    (fSeq (fFor (fEnum (fCons (fVar 3) fNil)) (gTp [(gNm 6), (gNm 7)]) b1_law)
    (fFrz 4 (fFrz 5 (fIfS (tdOr (fTst (fBin neD (fCall sortedD (fCons (fVar 4) fNil)) (fOf (thnE (fBin ixD (fVar 2) (ret (.int 0))) fun x => liftO (rg1 x))))) (fTst (fBin neD (fCall sortedD (fCons (fVar 5) fNil)) (fOf (thnE (fCall lenD (fCons (fBin ixD (fVar 2) (ret (.int 1))) fNil)) fun x => liftO (rg1 x)))))) (fRet (ret (.bool false))) fNext))))))))
def f_law : FS := (fSeq (fFor (fRng rng1 (fCons (fCall maxD (fCons (ret (.int 2)) (fCons (fCall minD (fCons (fCall lenD (fCons (fVar 0) fNil)) (fCons (ret (.int 63)) fNil))) fNil))) fNil)) (gNm 1) b2_law)
    (fRet (ret (.bool true))))
def g_law : List PyData → Option PyData := runP 9 f_law
theorem mk_law {Pr : Program} {w : World} {K : PySem.W.Frag} {mg : Str → Option Value} {base : Heap} (T : Tops K mg) {a__law_beside : Addr} {d__law_beside : FuncData} (c__law_beside : Cal Pr w K mg base 3 "_law_beside" ["_law_pot_here"] (spM K 0 g__law_beside) a__law_beside d__law_beside) {a_parts_of : Addr} {d_parts_of : FuncData} (c_parts_of : Cal Pr w K mg base 4 "parts_of" ["web"] (spP K 1 g_parts_of) a_parts_of d_parts_of) {a__law_pot : Addr} {d__law_pot : FuncData} (c__law_pot : Cal Pr w K mg base 1 "_law_pot" ["_law_script", "_law_k"] (spF K 2 g__law_pot) a__law_pot d__law_pot) {a__law_part_right : Addr} {d__law_part_right : FuncData} (c__law_part_right : Cal Pr w K mg base 6 "_law_part_right" ["_law_web", "_law_number", "_law_posts"] (spP K 3 g__law_part_right) a__law_part_right d__law_part_right) {f : Addr} {fd : FuncData} (F : Fun K "law" "law" s_law f fd) (gl : mg "law" = some (.ref f)) :
    Cal Pr w K mg base 7 "law" ["_law_script"] (spP K 1 g_law) f fd := by
  refine ⟨fn_P F sc_law fun cdv A outer s H hh => ?_, gl, F.kp, F.binds (ps := ["_law_script"]) fun _ _ _ _ _ _ us hl => match us, hl with | [_], _ => rfl⟩
  have nd := sc_law.nd
  exact (s_cons (s_for (bb := true) PassesOwn.never hh.c (i_rng1 (by rfl) T.b_range (a_cons (e_callB (call_max2 hh.c) d_max (by rfl) T.b_max (by decide +kernel) (a_cons e_int (a_cons (e_callB (call_min2 hh.c) d_min (by rfl) T.b_min (by decide +kernel) (a_cons (e_callB call_lenD2 d_len (by rfl) T.b_len (by decide +kernel) (a_cons (e_var 0 (pv 0)) a_nil)) (a_cons e_int a_nil))) a_nil))) a_nil)) (g_nm (P := []) (by decide) (pg_name (i := 1) nd rfl (by first | exact Or.inl rfl | exact Or.inr rfl))) (s_cons (s_asg (bb := true) (e_callN c__law_beside.ok (hh.mono (by decide)) (by rfl) c__law_beside.gl c__law_beside.kp c__law_beside.bd (l_callF c__law_pot.ok (hh.mono (by decide)) (by rfl) c__law_pot.gl c__law_pot.kp c__law_pot.bd (a_cons (e_var 0 (pv 0)) (a_cons (e_var 1 (pv 1)) a_nil))) a_nil) (g_nm (P := []) (by decide) (pg_name (i := 2) nd rfl (by first | exact Or.inl rfl | exact Or.inr rfl))))
    (s_cons (s_asg (bb := true) (e_callP c_parts_of.ok (hh.mono (by decide)) (by rfl) c_parts_of.gl c_parts_of.kp c_parts_of.bd (a_cons (e_var 2 (pv 2)) a_nil)) (g_nm (P := []) (by decide) (pg_name (i := 3) nd rfl (by first | exact Or.inl rfl | exact Or.inr rfl))))
    (s_cons (s_own (bb := true) 4 (P := []) (by decide) (l_lst a_nil) (pg_name (i := 4) nd rfl (by first | exact Or.inl rfl | exact Or.inr rfl)))
    (s_cons (s_own (bb := true) 5 (P := []) (by decide) (l_lst a_nil) (pg_name (i := 5) nd rfl (by first | exact Or.inl rfl | exact Or.inr rfl)))
    (s_cons (s_for (bb := true) PassesOwn.never hh.c (i_enum (by rfl) T.b_enumerate (a_cons (e_var 3 (pv 3)) a_nil)) (g_tp hh.c (gs_cons (g_nm (P := []) (by decide) (pg_name (i := 6) nd rfl (by first | exact Or.inl rfl | exact Or.inr rfl))) (gs_cons (g_nm (P := []) (by decide) (pg_name (i := 7) nd rfl (by first | exact Or.inl rfl | exact Or.inr rfl))) gs_nil))) (s_cons (s_asg (bb := true) (e_callP c__law_part_right.ok (hh.mono (by decide)) (by rfl) c__law_part_right.gl c__law_part_right.kp c__law_part_right.bd (a_cons (e_var 2 (pv 2)) (a_cons (e_var 6 (pv 6)) (a_cons (e_var 7 (pv 7)) a_nil)))) (g_nm (P := []) (by decide) (pg_name (i := 8) nd rfl (by first | exact Or.inl rfl | exact Or.inr rfl))))
    (s_cons (s_if (bb := true) (t_cmp op_isN d_isN (nomark _) (e_var 8 (pv 8)) e_non) (s_one (s_ret (bb := true) e_bl)) s_nil)
    (s_cons (s_drop (bb := true) (e_met 4 m_ext (pe_bm PySem.F.plainAttrs_list PySem.F.slot_list_extend PySem.F.type_list_extend mt_ext (pv 4) (a_cons (e_var 7 (pv 7)) a_nil))))
    (s_one (s_drop (bb := true) (e_met 5 m_ext (pe_bm PySem.F.plainAttrs_list PySem.F.slot_list_extend PySem.F.type_list_extend mt_ext (pv 5) (a_cons (e_var 8 (pv 8)) a_nil)))))))))
    (ss_frz 4 (ss_frz 5 (s_one (s_if (bb := true) (PW.pt (w_or (t_cmp (op_ne2 hh.u) d_ne (nomark _) (e_callB (call_sortD hh.u) d_sorted (by rfl) T.b_sorted (by decide +kernel) (a_cons (e_var 4 (pv 4)) a_nil)) (e_ofF (l_listRg hh.c (by rfl) T.b_list (by rfl) T.b_range (e_ix ix_seqB d_ix (fun _ _ => rfl) (e_var 2 (pv 2)) e_int)))) (w_or1 (t_cmp (op_ne2 hh.u) d_ne (nomark _) (e_callB (call_sortD hh.u) d_sorted (by rfl) T.b_sorted (by decide +kernel) (a_cons (e_var 5 (pv 5)) a_nil)) (e_ofF (l_listRg hh.c (by rfl) T.b_list (by rfl) T.b_range (e_callB call_lenD2 d_len (by rfl) T.b_len (by decide +kernel) (a_cons (e_ix ix_seqB d_ix (fun _ _ => rfl) (e_var 2 (pv 2)) e_int) a_nil)))))))) (s_one (s_ret (bb := true) e_bl)) s_nil))))))))))
    (s_one (s_ret (bb := true) e_bl)))
end Lw

set_option Elab.async false
set_option linter.all false
set_option maxRecDepth 100000
set_option maxHeartbeats 4000000
namespace Lw
open PySem PySem.Spec PyProof.Rows L2 Tw
theorem take_a {a b c n : Int} (ha : 0 < a) (hn : 0 < n) (hn2 : n < 2 ^ 60) : g__law_take [.int a, .int b, .int c] [.int n] = some (.int (a % n), [.int (a / n), .int b, .int c]) := by
  have t : decide (0 < a) = true := decide_eq_true ha
  have h1 := mod_ok (i := a) hn
  have h2 := fdiv_ok (i := a) 60 hn (by decide) hn2 (by decide)
  unfold g__law_take runM f__law_take
  simp -implicitDefEqProofs only [eq_self, r_thn, r_tk, r_tk0, r_ret, r_lift, r_lift0, r_var, r_vk, r_bin, r_un, r_nil, r_cons, r_tup, r_of, r_call, r_tst, r_kt, r_ikT, r_ikF, r_ite, r_if, r_ife, r_and, r_or, r_not, r_vand, r_vor, r_vnot, r_chain, r_hkT, r_hkF, r_part, r_ok, r_sl, r_seq, r_skN, r_skR, r_skF, r_skB, r_skC, r_next, r_retS, r_rk, r_retF, r_rfk, r_drop, r_dk, r_asg, r_gk, r_gk2, gNm, r_tp, r_gs, r_qk, r_gs0, r_froz, r_frk, r_cmk, r_setI, r_stk, r_stk2, r_sti, r_pl, r_stj, r_aug, r_aug1, r_aug2, r_aug3, r_opN, r_par, r_prk, r_callN, r_tupRg, and_self, ixN0, ixN1, ixN2, r_peek, r_pk, r_pkI, r_pkB, r_pkS, r_pkN, r_tpeek, r_bk1, r_bk2, r_frz, r_fzk, r_own, owk, r_frkK, r_ownK, r_ixEd, r_ixEt, r_ixEl, r_inK, r_ninK, r_mk4, r_mk3, r_met, r_mk2, r_callM, r_mk2b, r_callM1, r_lenIs, r_callF, r_mat, r_mtk, r_mEnd, r_mCase, r_for, r_lk, r_items, r_itL, r_itT, r_rng, r_enum, r_zipM, zipM_ok, r_star, starL_ok, starT_ok, enumL_ok, enumT_ok, for_nil, r_lc, r_lck2, lc_nil, r_outM, r_outMn, r_outM1, r_outM1n, r_outD, r_outDf, r_outDn, r_outF, ixL0, ixL1, ixL2, ixT0, ixT1, ixT2, addI_ok, subI_ok, gtI_ok, geI_ok, leI_ok, ltI_ok, lenL_ok, lenT_ok, abs_ok, intB_ok, List.getElem?_cons_zero, List.getElem?_cons_succ, List.length_cons, List.length_nil, List.set_cons_zero, List.set_cons_succ, List.map_cons, List.map_nil, List.cons_append, List.nil_append, List.replicate_succ, List.replicate_zero, Nat.reduceAdd, Nat.reduceSub, Nat.reduceLT, Nat.reduceEqDiff, Option.bind_some, Option.bind_none, Option.map_some, Option.map_none, if_true, if_false, ite_true, ite_false, ↓reduceIte, Bool.not_true, Bool.not_false, t, h1, h2]
theorem take_b {a b c n : Int} (ha : ¬ 0 < a) (hb : 0 ≤ b) (hb2 : b < 2 ^ 62) (hc : 0 ≤ c) (hc2 : c < 2 ^ 100) (hn : 0 < n) : ∃ r, g__law_take [.int a, .int b, .int c] [.int n] = some (.int r, [.int a, .int b, .int (c + 1)]) ∧ 0 ≤ r ∧ r < n := by
  have t : decide (0 < a) = false := decide_eq_false ha
  have m1 := mul_ok (i := 86028157) (j := c + 1) 27 101 (by decide) (by decide) (by decide) (by decide) (by omega) (by omega) (by decide)
  have m2 := mul_ok (i := 31) (j := c + 1) 5 101 (by decide) (by decide) (by decide) (by decide) (by omega) (by omega) (by decide)
  have p1 := pow_ok (i := b + 86028157 * (c + 1)) (j := 3) 130 (by omega) (by omega) (by decide) (by decide)
  generalize e1 : (b + 86028157 * (c + 1)) ^ (3 : Int).toNat = X1 at p1
  have q1 := mod_ok (i := X1) (j := 2305843009213693907) (by decide)
  have l1 := Int.emod_nonneg X1 (b := 2305843009213693907) (by decide)
  have l2 := Int.emod_lt_of_pos X1 (b := 2305843009213693907) (by decide)
  generalize X1 % 2305843009213693907 = X2 at q1 l1 l2
  have q2 := mod_ok (i := b) (j := 1000003) (by decide)
  have l3 := Int.emod_nonneg b (b := 1000003) (by decide)
  have l4 := Int.emod_lt_of_pos b (b := 1000003) (by decide)
  generalize b % 1000003 = X3 at q2 l3 l4
  have p2 := pow_ok (i := X2 + X3 + 31 * (c + 1)) (j := 5) 130 (by omega) (by omega) (by decide) (by decide)
  generalize e2 : (X2 + X3 + 31 * (c + 1)) ^ (5 : Int).toNat = X4 at p2
  have q3 := mod_ok (i := X4) (j := 2305843009213693921) (by decide)
  generalize X4 % 2305843009213693921 = X5 at q3
  have q4 := fdiv_ok (i := X5) (j := 4096) 13 (by decide) (by decide) (by decide) (by decide)
  have q5 := mod_ok (i := X5 / 4096) hn
  refine ⟨X5 / 4096 % n, ?_, Int.emod_nonneg _ (by omega), Int.emod_lt_of_pos _ hn⟩
  unfold g__law_take runM f__law_take
  simp -implicitDefEqProofs only [eq_self, r_thn, r_tk, r_tk0, r_ret, r_lift, r_lift0, r_var, r_vk, r_bin, r_un, r_nil, r_cons, r_tup, r_of, r_call, r_tst, r_kt, r_ikT, r_ikF, r_ite, r_if, r_ife, r_and, r_or, r_not, r_vand, r_vor, r_vnot, r_chain, r_hkT, r_hkF, r_part, r_ok, r_sl, r_seq, r_skN, r_skR, r_skF, r_skB, r_skC, r_next, r_retS, r_rk, r_retF, r_rfk, r_drop, r_dk, r_asg, r_gk, r_gk2, gNm, r_tp, r_gs, r_qk, r_gs0, r_froz, r_frk, r_cmk, r_setI, r_stk, r_stk2, r_sti, r_pl, r_stj, r_aug, r_aug1, r_aug2, r_aug3, r_opN, r_par, r_prk, r_callN, r_tupRg, and_self, ixN0, ixN1, ixN2, r_peek, r_pk, r_pkI, r_pkB, r_pkS, r_pkN, r_tpeek, r_bk1, r_bk2, r_frz, r_fzk, r_own, owk, r_frkK, r_ownK, r_ixEd, r_ixEt, r_ixEl, r_inK, r_ninK, r_mk4, r_mk3, r_met, r_mk2, r_callM, r_mk2b, r_callM1, r_lenIs, r_callF, r_mat, r_mtk, r_mEnd, r_mCase, r_for, r_lk, r_items, r_itL, r_itT, r_rng, r_enum, r_zipM, zipM_ok, r_star, starL_ok, starT_ok, enumL_ok, enumT_ok, for_nil, r_lc, r_lck2, lc_nil, r_outM, r_outMn, r_outM1, r_outM1n, r_outD, r_outDf, r_outDn, r_outF, ixL0, ixL1, ixL2, ixT0, ixT1, ixT2, addI_ok, subI_ok, gtI_ok, geI_ok, leI_ok, ltI_ok, lenL_ok, lenT_ok, abs_ok, intB_ok, List.getElem?_cons_zero, List.getElem?_cons_succ, List.length_cons, List.length_nil, List.set_cons_zero, List.set_cons_succ, List.map_cons, List.map_nil, List.cons_append, List.nil_append, List.replicate_succ, List.replicate_zero, Nat.reduceAdd, Nat.reduceSub, Nat.reduceLT, Nat.reduceEqDiff, Option.bind_some, Option.bind_none, Option.map_some, Option.map_none, if_true, if_false, ite_true, ite_false, ↓reduceIte, Bool.not_true, Bool.not_false, t, m1, m2, p1, q1, q2, p2, q3, q4, q5]
/-- a pot of draws: how often it has been drawn from is at most n -/
structure Pot (n : Nat) (ms : List PyData) : Prop where
  ex : ∃ a b c : Int, ms = [.int a, .int b, .int c] ∧ 0 ≤ b ∧ b < 2 ^ 62 ∧ 0 ≤ c ∧ c ≤ n
theorem Pot.wide {n m : Nat} {ms : List PyData} (P : Pot n ms) (h : n ≤ m) : Pot m ms := by
  obtain ⟨a, b, c, e, h1, h2, h3, h4⟩ := P.ex
  exact ⟨a, b, c, e, h1, h2, h3, by omega⟩
theorem take_ok {k : Nat} {ms : List PyData} {n : Int} (P : Pot k ms) (hk : k < 2 ^ 90) (hn : 0 < n) (hn2 : n < 2 ^ 60) : ∃ r ms', g__law_take ms [.int n] = some (.int r, ms') ∧ 0 ≤ r ∧ r < n ∧ Pot (k + 1) ms' := by
  obtain ⟨a, b, c, rfl, h1, h2, h3, h4⟩ := P.ex
  by_cases ha : 0 < a
  · exact ⟨_, _, take_a ha hn hn2, Int.emod_nonneg _ (by omega), Int.emod_lt_of_pos _ hn, ⟨_, _, _, rfl, h1, h2, h3, by omega⟩⟩
  · obtain ⟨r, e, r1, r2⟩ := take_b ha h1 h2 h3 (by omega) hn
    exact ⟨r, _, e, r1, r2, ⟨_, _, _, rfl, h1, h2, by omega, by omega⟩⟩
theorem pot_ok {ns : List Int} {k : Nat} (hk : k < 2 ^ 60) : ∃ ms, g__law_pot [.list (ns.map .int), .int k] = some ms ∧ Pot 0 ms := by
  have e10 : powD (.int 10) (.int 60) = some (.int (10 ^ 60)) := pow_ok 4 (by decide) (by decide) (by decide) (by decide)
  have e14 : powD (.int (10 ^ 60)) (.int 14) = some (.int ((10 ^ 60) ^ 14)) := pow_ok 200 (by decide) (by decide) (by decide) (by decide)
  have e18 : powD (.int 10) (.int 18) = some (.int (10 ^ 18)) := pow_ok 4 (by decide) (by decide) (by decide) (by decide)
  have m1 := mul_ok (i := 104729) (j := (k : Int)) 17 61 (by decide) (by decide) (by decide) (by decide) (by omega) (by omega) (by decide)
  have rest : ∀ z : Int, ∃ z1 X1 b : Int, modD (.int z) (.int 2305843009213693921) = some (.int z1) ∧ powD (.int (z1 + 104729 * (k : Int) + 1)) (.int 3) = some (.int X1) ∧ modD (.int X1) (.int 2305843009213693951) = some (.int b) ∧ 0 ≤ b ∧ b < 2 ^ 62 := by
    intro z
    have m0 := mod_ok (i := z) (j := 2305843009213693921) (by decide)
    have l1 := Int.emod_nonneg z (b := 2305843009213693921) (by decide)
    have l2 := Int.emod_lt_of_pos z (b := 2305843009213693921) (by decide)
    generalize z % 2305843009213693921 = z1 at m0 l1 l2
    have p1 := pow_ok (i := z1 + 104729 * (k : Int) + 1) (j := 3) 100 (by omega) (by omega) (by decide) (by decide)
    generalize (z1 + 104729 * (k : Int) + 1) ^ (3 : Int).toNat = X1 at p1
    have q1 := mod_ok (i := X1) (j := 2305843009213693951) (by decide)
    have l3 := Int.emod_nonneg X1 (b := 2305843009213693951) (by decide)
    have l4 := Int.emod_lt_of_pos X1 (b := 2305843009213693951) (by decide)
    exact ⟨z1, X1, _, m0, p1, q1, l3, by omega⟩
  have big : ((10 : Int) ^ 60) ^ 14 < 2 ^ 3000 := by decide +kernel
  have m2 : ∀ (z : Int) (b : Bool), 0 ≤ z → z < (10 ^ 60) ^ 14 → mulI (.int z) (.int (if b = true then 1 else 0)) = some (.int (z * (if b = true then 1 else 0))) := fun z b h0 hz => mul_ok 3000 1 (by decide) (by decide) h0 (Int.lt_trans hz big) (by cases b <;> decide) (by cases b <;> decide) (by decide)
  have sz : Tw.sizeOk 3 = true := rfl
  unfold g__law_pot runF f__law_pot
  by_cases hlt : k < ns.length
  · have t : decide ((k : Int) < ((ns.map PyData.int).length : Int)) = true := decide_eq_true (by rw [List.length_map]; omega)
    have ix : ixD (.list (ns.map .int)) (.int (k : Int)) = some (.int ns[k]) := ixLn (by rw [List.getElem?_map, List.getElem?_eq_getElem hlt]; rfl)
    have m := mod_ok (i := if ns[k] < 0 then -ns[k] else ns[k]) (j := (10 ^ 60) ^ 14) (by decide)
    have z0 := Int.emod_nonneg (if ns[k] < 0 then -ns[k] else ns[k]) (b := (10 ^ 60) ^ 14) (by decide)
    have z1 := Int.emod_lt_of_pos (if ns[k] < 0 then -ns[k] else ns[k]) (b := (10 ^ 60) ^ 14) (by decide)
    generalize (if ns[k] < 0 then -ns[k] else ns[k]) % ((10 ^ 60) ^ 14) = z at m z0 z1
    obtain ⟨z1', X1, b, q1, q2, q3, b1, b2⟩ := rest z
    have m3 := m2 z (decide ((10 : Int) ^ 18 ≤ z)) z0 z1
    refine ⟨[.int (z * (if decide ((10 : Int) ^ 18 ≤ z) = true then 1 else 0)), .int b, .int 0], ?_, ⟨_, b, 0, rfl, b1, b2, by omega, by omega⟩⟩
    simp -implicitDefEqProofs only [eq_self, r_thn, r_tk, r_tk0, r_ret, r_lift, r_lift0, r_var, r_vk, r_bin, r_un, r_nil, r_cons, r_tup, r_of, r_call, r_tst, r_kt, r_ikT, r_ikF, r_ite, r_if, r_ife, r_and, r_or, r_not, r_vand, r_vor, r_vnot, r_chain, r_hkT, r_hkF, r_part, r_ok, r_sl, r_seq, r_skN, r_skR, r_skF, r_skB, r_skC, r_next, r_retS, r_rk, r_retF, r_rfk, r_drop, r_dk, r_asg, r_gk, r_gk2, gNm, r_tp, r_gs, r_qk, r_gs0, r_froz, r_frk, r_cmk, r_setI, r_stk, r_stk2, r_sti, r_pl, r_stj, r_aug, r_aug1, r_aug2, r_aug3, r_opN, r_par, r_prk, r_callN, r_tupRg, and_self, ixN0, ixN1, ixN2, r_peek, r_pk, r_pkI, r_pkB, r_pkS, r_pkN, r_tpeek, r_bk1, r_bk2, r_frz, r_fzk, r_own, owk, r_frkK, r_ownK, r_ixEd, r_ixEt, r_ixEl, r_inK, r_ninK, r_mk4, r_mk3, r_met, r_mk2, r_callM, r_mk2b, r_callM1, r_lenIs, r_callF, r_mat, r_mtk, r_mEnd, r_mCase, r_for, r_lk, r_items, r_itL, r_itT, r_rng, r_enum, r_zipM, zipM_ok, r_star, starL_ok, starT_ok, enumL_ok, enumT_ok, for_nil, r_lc, r_lck2, lc_nil, r_outM, r_outMn, r_outM1, r_outM1n, r_outD, r_outDf, r_outDn, r_outF, ixL0, ixL1, ixL2, ixT0, ixT1, ixT2, addI_ok, subI_ok, gtI_ok, geI_ok, leI_ok, ltI_ok, lenL_ok, lenT_ok, abs_ok, intB_ok, List.getElem?_cons_zero, List.getElem?_cons_succ, List.length_cons, List.length_nil, List.set_cons_zero, List.set_cons_succ, List.map_cons, List.map_nil, List.cons_append, List.nil_append, List.replicate_succ, List.replicate_zero, Nat.reduceAdd, Nat.reduceSub, Nat.reduceLT, Nat.reduceEqDiff, Option.bind_some, Option.bind_none, Option.map_some, Option.map_none, if_true, if_false, ite_true, ite_false, ↓reduceIte, Bool.not_true, Bool.not_false, t, ix, e10, e14, m, q1, m1, q2, q3, e18, m3, sz]
  · have t : decide ((k : Int) < ((ns.map PyData.int).length : Int)) = false := decide_eq_false (by rw [List.length_map]; omega)
    obtain ⟨z1', X1, b, q1, q2, q3, b1, b2⟩ := rest 0
    have m3 := m2 0 (decide ((10 : Int) ^ 18 ≤ 0)) (by decide) (by decide)
    refine ⟨[.int (0 * (if decide ((10 : Int) ^ 18 ≤ 0) = true then 1 else 0)), .int b, .int 0], ?_, ⟨_, b, 0, rfl, b1, b2, by omega, by omega⟩⟩
    simp -implicitDefEqProofs only [eq_self, r_thn, r_tk, r_tk0, r_ret, r_lift, r_lift0, r_var, r_vk, r_bin, r_un, r_nil, r_cons, r_tup, r_of, r_call, r_tst, r_kt, r_ikT, r_ikF, r_ite, r_if, r_ife, r_and, r_or, r_not, r_vand, r_vor, r_vnot, r_chain, r_hkT, r_hkF, r_part, r_ok, r_sl, r_seq, r_skN, r_skR, r_skF, r_skB, r_skC, r_next, r_retS, r_rk, r_retF, r_rfk, r_drop, r_dk, r_asg, r_gk, r_gk2, gNm, r_tp, r_gs, r_qk, r_gs0, r_froz, r_frk, r_cmk, r_setI, r_stk, r_stk2, r_sti, r_pl, r_stj, r_aug, r_aug1, r_aug2, r_aug3, r_opN, r_par, r_prk, r_callN, r_tupRg, and_self, ixN0, ixN1, ixN2, r_peek, r_pk, r_pkI, r_pkB, r_pkS, r_pkN, r_tpeek, r_bk1, r_bk2, r_frz, r_fzk, r_own, owk, r_frkK, r_ownK, r_ixEd, r_ixEt, r_ixEl, r_inK, r_ninK, r_mk4, r_mk3, r_met, r_mk2, r_callM, r_mk2b, r_callM1, r_lenIs, r_callF, r_mat, r_mtk, r_mEnd, r_mCase, r_for, r_lk, r_items, r_itL, r_itT, r_rng, r_enum, r_zipM, zipM_ok, r_star, starL_ok, starT_ok, enumL_ok, enumT_ok, for_nil, r_lc, r_lck2, lc_nil, r_outM, r_outMn, r_outM1, r_outM1n, r_outD, r_outDf, r_outDn, r_outF, ixL0, ixL1, ixL2, ixT0, ixT1, ixT2, addI_ok, subI_ok, gtI_ok, geI_ok, leI_ok, ltI_ok, lenL_ok, lenT_ok, abs_ok, intB_ok, List.getElem?_cons_zero, List.getElem?_cons_succ, List.length_cons, List.length_nil, List.set_cons_zero, List.set_cons_succ, List.map_cons, List.map_nil, List.cons_append, List.nil_append, List.replicate_succ, List.replicate_zero, Nat.reduceAdd, Nat.reduceSub, Nat.reduceLT, Nat.reduceEqDiff, Option.bind_some, Option.bind_none, Option.map_some, Option.map_none, if_true, if_false, ite_true, ite_false, ↓reduceIte, Bool.not_true, Bool.not_false, t, q1, m1, q2, q3, e18, m3, sz]
end Lw

set_option Elab.async false
set_option linter.all false
set_option maxRecDepth 100000
set_option maxHeartbeats 4000000
namespace Lw
open PySem PySem.Spec PyProof.Rows L2 Tw
/-! ### operations at known values, more -/
theorem eq_nilL {L : List PyData} : eqD (.list L) (.list []) = some (.bool L.isEmpty) := by
  cases L with
  | nil => rfl
  | cons x r => rfl
theorem ne_nilL {L : List PyData} : neD (.list L) (.list []) = some (.bool (!L.isEmpty)) := by
  cases L with
  | nil => rfl
  | cons x r => rfl
theorem eqI_ok {i j : Int} : eqD (.int i) (.int j) = some (.bool (i == j)) := rfl
theorem neI_ok {i j : Int} : neD (.int i) (.int j) = some (.bool (!(i == j))) := rfl
theorem eraseMap {α β : Type} (f : α → β) : ∀ (L : List α) (j : Nat), (L.map f).eraseIdx j = (L.eraseIdx j).map f
  | [], _ => rfl
  | x :: L, 0 => rfl
  | x :: L, j + 1 => congrArg (f x :: ·) (eraseMap f L j)
theorem pop_ok {L : List PyData} {j : Nat} {d : PyData} (h : L[j]? = some d) (hz : L.length < 2 ^ 60) : popG L [.int (j : Int)] = some (d, L.eraseIdx j) := by
  have hj : j < L.length := (List.getElem?_eq_some_iff.mp h).1
  have e : seqIndex? (j : Int) L.length = some j := by
    simp [seqIndex?]
    omega
  unfold popG
  dsimp only
  rw [if_pos (by omega), e]
  dsimp only [Option.bind_some]
  rw [h]
  rfl
theorem pop_0 {L : List PyData} {d : PyData} (hz : L.length < 2 ^ 59) : popG (d :: L) [.int 0] = some (d, L) := pop_ok (L := d :: L) (j := 0) rfl (by rw [List.length_cons]; omega)
theorem app_ok {L : List PyData} {d : PyData} (hz : L.length < 100000) : appG L [d] = some (.none, L ++ [d]) := if_pos hz
def wayD : Int × Option Int → PyData
  | (h, none) => .tuple [.int h]
  | (h, some g) => .tuple [.int h, .int g]
def intsD (L : List Int) : List PyData := L.map PyData.int
theorem intsD_len (L : List Int) : (intsD L).length = L.length := List.length_map _
theorem intsD_get {L : List Int} {j : Nat} (h : j < L.length) : (intsD L)[j]? = some (.int L[j]) := by
  unfold intsD
  rw [List.getElem?_map, List.getElem?_eq_getElem h]
  rfl
theorem intsD_erase (L : List Int) (j : Nat) : (intsD L).eraseIdx j = intsD (L.eraseIdx j) := eraseMap _ _ _
/-- one hand taken off, a way made of it -/
theorem world_turn {k : Nat} {ms : List PyData} {most many kd pairs kinds : PyData} {o : Int} {s6 s9 s11 s12 s13 s14 : Sl} {W : List PyData} {h : Int} {R : List Int} (P : Pot k ms) (hk : k < 2 ^ 80) (ho : o < 100) (hW : W.length < 90000) (hR : R.length < 90000) :
    ∃ ms' : List PyData, ∃ w R', b2__law_world [.m ms, .d most, .d many, .d (.int o), .d pairs, .d kinds, s6, .m W, .d kd, s9, .m (intsD (h :: R)), s11, s12, s13, s14] =
        some (.nx [.m ms', .d most, .d many, .d (.int o), .d pairs, .d kinds, s6, .m (.l (W ++ [wayD w])), .d kd, s9, .m (intsD R'), .d (.int h), s12, s13, s14]) ∧ Pot (k + 2) ms' ∧
      ((w = (h, none) ∧ R' = R) ∨ ∃ (j : Nat) (hj : j < R.length), w = (h, some R[j]) ∧ R' = R.eraseIdx j) := by
  have hp : popG (intsD (h :: R)) [.int 0] = some (.int h, intsD R) := pop_0 (L := intsD R) (by rw [intsD_len]; omega)
  have ha : ∀ w, appG W [w] = some (.none, W ++ [w]) := fun w => app_ok (by omega)
  have s0 : Tw.sizeOk 0 = true := rfl
  have s1 : Tw.sizeOk 1 = true := rfl
  have s2 : Tw.sizeOk 2 = true := rfl
  have l1 : [PyData.int 0].length = 1 := rfl
  -- the two ways out
  have outA : ∀ ms1 : List PyData, (fDrop (fMet 7 appG (fCons (fTup (fCons (fVar 11) fNil)) fNil))) [.m ms1, .d most, .d many, .d (.int o), .d pairs, .d kinds, s6, .m W, .d kd, s9, .m (intsD R), .d (.int h), s12, s13, s14] =
      some (.nx [.m ms1, .d most, .d many, .d (.int o), .d pairs, .d kinds, s6, .m (.l (W ++ [wayD (h, none)])), .d kd, s9, .m (intsD R), .d (.int h), s12, s13, s14]) := fun ms1 => by
    simp -implicitDefEqProofs only [eq_self, r_thn, r_tk, r_tk0, r_ret, r_lift, r_lift0, r_var, r_vk, r_bin, r_un, r_nil, r_cons, r_tup, r_of, r_call, r_tst, r_kt, r_ikT, r_ikF, r_ite, r_if, r_ife, r_and, r_or, r_not, r_vand, r_vor, r_vnot, r_chain, r_hkT, r_hkF, r_part, r_ok, r_sl, r_seq, r_skN, r_skR, r_skF, r_skB, r_skC, r_next, r_retS, r_rk, r_retF, r_rfk, r_drop, r_dk, r_asg, r_gk, r_gk2, gNm, r_tp, r_gs, r_qk, r_gs0, r_froz, r_frk, r_cmk, r_setI, r_stk, r_stk2, r_sti, r_pl, r_stj, r_aug, r_aug1, r_aug2, r_aug3, r_opN, r_par, r_prk, r_callN, r_tupRg, and_self, ixN0, ixN1, ixN2, r_peek, r_pk, r_pkI, r_pkB, r_pkS, r_pkN, r_tpeek, r_bk1, r_bk2, r_frz, r_fzk, r_own, owk, r_frkK, r_ownK, r_ixEd, r_ixEt, r_ixEl, r_inK, r_ninK, r_mk4, r_mk3, r_met, r_mk2, r_callM, r_mk2b, r_callM1, r_lenIs, r_callF, r_mat, r_mtk, r_mEnd, r_mCase, r_for, r_lk, r_items, r_itL, r_itT, r_rng, r_enum, r_zipM, zipM_ok, r_star, starL_ok, starT_ok, enumL_ok, enumT_ok, for_nil, r_lc, r_lck2, lc_nil, r_outM, r_outMn, r_outM1, r_outM1n, r_outD, r_outDf, r_outDn, r_outF, ixL0, ixL1, ixL2, ixT0, ixT1, ixT2, addI_ok, subI_ok, gtI_ok, geI_ok, leI_ok, ltI_ok, lenL_ok, lenT_ok, abs_ok, intB_ok, List.getElem?_cons_zero, List.getElem?_cons_succ, List.length_cons, List.length_nil, List.set_cons_zero, List.set_cons_succ, List.map_cons, List.map_nil, List.cons_append, List.nil_append, List.replicate_succ, List.replicate_zero, Nat.reduceAdd, Nat.reduceSub, Nat.reduceLT, Nat.reduceEqDiff, Option.bind_some, Option.bind_none, Option.map_some, Option.map_none, if_true, if_false, ite_true, ite_false, ↓reduceIte, Bool.not_true, Bool.not_false, ha, s1]
    rfl
  have outB : ∀ (k1 : Nat) (ms1 : List PyData), Pot k1 ms1 → k1 < 2 ^ 81 → 0 < R.length → ∃ (ms2 : List PyData) (j : Nat) (hj : j < R.length), (fDrop (fMet 7 appG (fCons (fTup (fCons (fVar 11) (fCons (fMet 10 popG (fCons (fCallM 1 g__law_take 0 (fCons (fPeek 10 (fCall lenD (fCons (fVar 10) fNil))) fNil)) fNil)) fNil))) fNil)))
      [.m ms1, .d most, .d many, .d (.int o), .d pairs, .d kinds, s6, .m W, .d kd, s9, .m (intsD R), .d (.int h), s12, s13, s14] =
      some (.nx [.m ms2, .d most, .d many, .d (.int o), .d pairs, .d kinds, s6, .m (.l (W ++ [wayD (h, some R[j])])), .d kd, s9, .m (intsD (R.eraseIdx j)), .d (.int h), s12, s13, s14]) ∧ Pot (k1 + 1) ms2 := fun k1 ms1 P1 hk1 h0 => by
    obtain ⟨r, ms2, e, r0, r1, P2⟩ := take_ok (n := ((intsD R).length : Int)) P1 (by omega) (by rw [intsD_len]; omega) (by rw [intsD_len]; omega)
    obtain ⟨j, rfl⟩ : ∃ j : Nat, r = (j : Int) := ⟨r.toNat, by omega⟩
    rw [intsD_len] at r1
    have hj : j < R.length := by omega
    have hpop : popG (intsD R) [.int (j : Int)] = some (.int R[j], intsD (R.eraseIdx j)) := by
      rw [pop_ok (d := .int R[j]) (intsD_get hj) (by rw [intsD_len]; omega), intsD_erase]
    refine ⟨ms2, j, hj, ?_, P2⟩
    simp -implicitDefEqProofs only [eq_self, r_thn, r_tk, r_tk0, r_ret, r_lift, r_lift0, r_var, r_vk, r_bin, r_un, r_nil, r_cons, r_tup, r_of, r_call, r_tst, r_kt, r_ikT, r_ikF, r_ite, r_if, r_ife, r_and, r_or, r_not, r_vand, r_vor, r_vnot, r_chain, r_hkT, r_hkF, r_part, r_ok, r_sl, r_seq, r_skN, r_skR, r_skF, r_skB, r_skC, r_next, r_retS, r_rk, r_retF, r_rfk, r_drop, r_dk, r_asg, r_gk, r_gk2, gNm, r_tp, r_gs, r_qk, r_gs0, r_froz, r_frk, r_cmk, r_setI, r_stk, r_stk2, r_sti, r_pl, r_stj, r_aug, r_aug1, r_aug2, r_aug3, r_opN, r_par, r_prk, r_callN, r_tupRg, and_self, ixN0, ixN1, ixN2, r_peek, r_pk, r_pkI, r_pkB, r_pkS, r_pkN, r_tpeek, r_bk1, r_bk2, r_frz, r_fzk, r_own, owk, r_frkK, r_ownK, r_ixEd, r_ixEt, r_ixEl, r_inK, r_ninK, r_mk4, r_mk3, r_met, r_mk2, r_callM, r_mk2b, r_callM1, r_lenIs, r_callF, r_mat, r_mtk, r_mEnd, r_mCase, r_for, r_lk, r_items, r_itL, r_itT, r_rng, r_enum, r_zipM, zipM_ok, r_star, starL_ok, starT_ok, enumL_ok, enumT_ok, for_nil, r_lc, r_lck2, lc_nil, r_outM, r_outMn, r_outM1, r_outM1n, r_outD, r_outDf, r_outDn, r_outF, ixL0, ixL1, ixL2, ixT0, ixT1, ixT2, addI_ok, subI_ok, gtI_ok, geI_ok, leI_ok, ltI_ok, lenL_ok, lenT_ok, abs_ok, intB_ok, List.getElem?_cons_zero, List.getElem?_cons_succ, List.length_cons, List.length_nil, List.set_cons_zero, List.set_cons_succ, List.map_cons, List.map_nil, List.cons_append, List.nil_append, List.replicate_succ, List.replicate_zero, Nat.reduceAdd, Nat.reduceSub, Nat.reduceLT, Nat.reduceEqDiff, Option.bind_some, Option.bind_none, Option.map_some, Option.map_none, if_true, if_false, ite_true, ite_false, ↓reduceIte, Bool.not_true, Bool.not_false, e, hpop, ha, s2]
    rfl
  cases R with
  | nil =>
    refine ⟨ms, (h, none), [], ?_, P.wide (by omega), .inl ⟨rfl, rfl⟩⟩
    have e := outA ms
    unfold b2__law_world
    simp -implicitDefEqProofs only [eq_self, r_thn, r_tk, r_tk0, r_ret, r_lift, r_lift0, r_var, r_vk, r_bin, r_un, r_nil, r_cons, r_tup, r_of, r_call, r_tst, r_kt, r_ikT, r_ikF, r_ite, r_if, r_ife, r_and, r_or, r_not, r_vand, r_vor, r_vnot, r_chain, r_hkT, r_hkF, r_part, r_ok, r_sl, r_seq, r_skN, r_skR, r_skF, r_skB, r_skC, r_next, r_retS, r_rk, r_retF, r_rfk, r_drop, r_dk, r_asg, r_gk, r_gk2, gNm, r_tp, r_gs, r_qk, r_gs0, r_froz, r_frk, r_cmk, r_setI, r_stk, r_stk2, r_sti, r_pl, r_stj, r_aug, r_aug1, r_aug2, r_aug3, r_opN, r_par, r_prk, r_callN, r_tupRg, and_self, ixN0, ixN1, ixN2, r_peek, r_pk, r_pkI, r_pkB, r_pkS, r_pkN, r_tpeek, r_bk1, r_bk2, r_frz, r_fzk, r_own, owk, r_frkK, r_ownK, r_ixEd, r_ixEt, r_ixEl, r_inK, r_ninK, r_mk4, r_mk3, r_met, r_mk2, r_callM, r_mk2b, r_callM1, r_lenIs, r_callF, r_mat, r_mtk, r_mEnd, r_mCase, r_for, r_lk, r_items, r_itL, r_itT, r_rng, r_enum, r_zipM, zipM_ok, r_star, starL_ok, starT_ok, enumL_ok, enumT_ok, for_nil, r_lc, r_lck2, lc_nil, r_outM, r_outMn, r_outM1, r_outM1n, r_outD, r_outDf, r_outDn, r_outF, ixL0, ixL1, ixL2, ixT0, ixT1, ixT2, addI_ok, subI_ok, gtI_ok, geI_ok, leI_ok, ltI_ok, lenL_ok, lenT_ok, abs_ok, intB_ok, List.getElem?_cons_zero, List.getElem?_cons_succ, List.length_cons, List.length_nil, List.set_cons_zero, List.set_cons_succ, List.map_cons, List.map_nil, List.cons_append, List.nil_append, List.replicate_succ, List.replicate_zero, Nat.reduceAdd, Nat.reduceSub, Nat.reduceLT, Nat.reduceEqDiff, Option.bind_some, Option.bind_none, Option.map_some, Option.map_none, if_true, if_false, ite_true, ite_false, ↓reduceIte, Bool.not_true, Bool.not_false, hp, s0, eq_nilL, show (intsD []).isEmpty = true from rfl, ha, s1]
    rfl
  | cons x R =>
    have he : (intsD (x :: R)).isEmpty = false := rfl
    by_cases ho0 : 0 < o
    · have t : decide (0 < o) = true := decide_eq_true ho0
      obtain ⟨r, ms1, e1, r0, r1, P1⟩ := take_ok (n := o) P (by omega) ho0 (by omega)
      by_cases hr : r = 0
      · subst hr
        have hA := outA ms1
        refine ⟨ms1, (h, none), x :: R, ?_, P1.wide (by omega), .inl ⟨rfl, rfl⟩⟩
        unfold b2__law_world
        simp -implicitDefEqProofs only [eq_self, r_thn, r_tk, r_tk0, r_ret, r_lift, r_lift0, r_var, r_vk, r_bin, r_un, r_nil, r_cons, r_tup, r_of, r_call, r_tst, r_kt, r_ikT, r_ikF, r_ite, r_if, r_ife, r_and, r_or, r_not, r_vand, r_vor, r_vnot, r_chain, r_hkT, r_hkF, r_part, r_ok, r_sl, r_seq, r_skN, r_skR, r_skF, r_skB, r_skC, r_next, r_retS, r_rk, r_retF, r_rfk, r_drop, r_dk, r_asg, r_gk, r_gk2, gNm, r_tp, r_gs, r_qk, r_gs0, r_froz, r_frk, r_cmk, r_setI, r_stk, r_stk2, r_sti, r_pl, r_stj, r_aug, r_aug1, r_aug2, r_aug3, r_opN, r_par, r_prk, r_callN, r_tupRg, and_self, ixN0, ixN1, ixN2, r_peek, r_pk, r_pkI, r_pkB, r_pkS, r_pkN, r_tpeek, r_bk1, r_bk2, r_frz, r_fzk, r_own, owk, r_frkK, r_ownK, r_ixEd, r_ixEt, r_ixEl, r_inK, r_ninK, r_mk4, r_mk3, r_met, r_mk2, r_callM, r_mk2b, r_callM1, r_lenIs, r_callF, r_mat, r_mtk, r_mEnd, r_mCase, r_for, r_lk, r_items, r_itL, r_itT, r_rng, r_enum, r_zipM, zipM_ok, r_star, starL_ok, starT_ok, enumL_ok, enumT_ok, for_nil, r_lc, r_lck2, lc_nil, r_outM, r_outMn, r_outM1, r_outM1n, r_outD, r_outDf, r_outDn, r_outF, ixL0, ixL1, ixL2, ixT0, ixT1, ixT2, addI_ok, subI_ok, gtI_ok, geI_ok, leI_ok, ltI_ok, lenL_ok, lenT_ok, abs_ok, intB_ok, List.getElem?_cons_zero, List.getElem?_cons_succ, List.length_cons, List.length_nil, List.set_cons_zero, List.set_cons_succ, List.map_cons, List.map_nil, List.cons_append, List.nil_append, List.replicate_succ, List.replicate_zero, Nat.reduceAdd, Nat.reduceSub, Nat.reduceLT, Nat.reduceEqDiff, Option.bind_some, Option.bind_none, Option.map_some, Option.map_none, if_true, if_false, ite_true, ite_false, ↓reduceIte, Bool.not_true, Bool.not_false, hp, s0, eq_nilL, he, t, e1, eqI_ok, show ((0 : Int) == 0) = true from rfl, ha, s1]
        rfl
      · have hr' : (r == 0) = false := by simpa using hr
        obtain ⟨ms2, j, hj, e2, P2⟩ := outB (k + 1) ms1 P1 (by omega) (by simp)
        refine ⟨ms2, _, _, ?_, P2, .inr ⟨j, hj, rfl, rfl⟩⟩
        rw [← e2]
        unfold b2__law_world
        simp -implicitDefEqProofs only [eq_self, r_thn, r_tk, r_tk0, r_ret, r_lift, r_lift0, r_var, r_vk, r_bin, r_un, r_nil, r_cons, r_tup, r_of, r_call, r_tst, r_kt, r_ikT, r_ikF, r_ite, r_if, r_ife, r_and, r_or, r_not, r_vand, r_vor, r_vnot, r_chain, r_hkT, r_hkF, r_part, r_ok, r_sl, r_seq, r_skN, r_skR, r_skF, r_skB, r_skC, r_next, r_retS, r_rk, r_retF, r_rfk, r_drop, r_dk, r_asg, r_gk, r_gk2, gNm, r_tp, r_gs, r_qk, r_gs0, r_froz, r_frk, r_cmk, r_setI, r_stk, r_stk2, r_sti, r_pl, r_stj, r_aug, r_aug1, r_aug2, r_aug3, r_opN, r_par, r_prk, r_callN, r_tupRg, and_self, ixN0, ixN1, ixN2, r_peek, r_pk, r_pkI, r_pkB, r_pkS, r_pkN, r_tpeek, r_bk1, r_bk2, r_frz, r_fzk, r_own, owk, r_frkK, r_ownK, r_ixEd, r_ixEt, r_ixEl, r_inK, r_ninK, r_mk4, r_mk3, r_met, r_mk2, r_callM, r_mk2b, r_callM1, r_lenIs, r_callF, r_mat, r_mtk, r_mEnd, r_mCase, r_for, r_lk, r_items, r_itL, r_itT, r_rng, r_enum, r_zipM, zipM_ok, r_star, starL_ok, starT_ok, enumL_ok, enumT_ok, for_nil, r_lc, r_lck2, lc_nil, r_outM, r_outMn, r_outM1, r_outM1n, r_outD, r_outDf, r_outDn, r_outF, ixL0, ixL1, ixL2, ixT0, ixT1, ixT2, addI_ok, subI_ok, gtI_ok, geI_ok, leI_ok, ltI_ok, lenL_ok, lenT_ok, abs_ok, intB_ok, List.getElem?_cons_zero, List.getElem?_cons_succ, List.length_cons, List.length_nil, List.set_cons_zero, List.set_cons_succ, List.map_cons, List.map_nil, List.cons_append, List.nil_append, List.replicate_succ, List.replicate_zero, Nat.reduceAdd, Nat.reduceSub, Nat.reduceLT, Nat.reduceEqDiff, Option.bind_some, Option.bind_none, Option.map_some, Option.map_none, if_true, if_false, ite_true, ite_false, ↓reduceIte, Bool.not_true, Bool.not_false, hp, s0, eq_nilL, he, t, e1, eqI_ok, hr']
    · have t : decide (0 < o) = false := decide_eq_false ho0
      obtain ⟨ms2, j, hj, e2, P2⟩ := outB k ms P (by omega) (by simp)
      refine ⟨ms2, _, _, ?_, P2.wide (by omega), .inr ⟨j, hj, rfl, rfl⟩⟩
      rw [← e2]
      unfold b2__law_world
      simp -implicitDefEqProofs only [eq_self, r_thn, r_tk, r_tk0, r_ret, r_lift, r_lift0, r_var, r_vk, r_bin, r_un, r_nil, r_cons, r_tup, r_of, r_call, r_tst, r_kt, r_ikT, r_ikF, r_ite, r_if, r_ife, r_and, r_or, r_not, r_vand, r_vor, r_vnot, r_chain, r_hkT, r_hkF, r_part, r_ok, r_sl, r_seq, r_skN, r_skR, r_skF, r_skB, r_skC, r_next, r_retS, r_rk, r_retF, r_rfk, r_drop, r_dk, r_asg, r_gk, r_gk2, gNm, r_tp, r_gs, r_qk, r_gs0, r_froz, r_frk, r_cmk, r_setI, r_stk, r_stk2, r_sti, r_pl, r_stj, r_aug, r_aug1, r_aug2, r_aug3, r_opN, r_par, r_prk, r_callN, r_tupRg, and_self, ixN0, ixN1, ixN2, r_peek, r_pk, r_pkI, r_pkB, r_pkS, r_pkN, r_tpeek, r_bk1, r_bk2, r_frz, r_fzk, r_own, owk, r_frkK, r_ownK, r_ixEd, r_ixEt, r_ixEl, r_inK, r_ninK, r_mk4, r_mk3, r_met, r_mk2, r_callM, r_mk2b, r_callM1, r_lenIs, r_callF, r_mat, r_mtk, r_mEnd, r_mCase, r_for, r_lk, r_items, r_itL, r_itT, r_rng, r_enum, r_zipM, zipM_ok, r_star, starL_ok, starT_ok, enumL_ok, enumT_ok, for_nil, r_lc, r_lck2, lc_nil, r_outM, r_outMn, r_outM1, r_outM1n, r_outD, r_outDf, r_outDn, r_outF, ixL0, ixL1, ixL2, ixT0, ixT1, ixT2, addI_ok, subI_ok, gtI_ok, geI_ok, leI_ok, ltI_ok, lenL_ok, lenT_ok, abs_ok, intB_ok, List.getElem?_cons_zero, List.getElem?_cons_succ, List.length_cons, List.length_nil, List.set_cons_zero, List.set_cons_succ, List.map_cons, List.map_nil, List.cons_append, List.nil_append, List.replicate_succ, List.replicate_zero, Nat.reduceAdd, Nat.reduceSub, Nat.reduceLT, Nat.reduceEqDiff, Option.bind_some, Option.bind_none, Option.map_some, Option.map_none, if_true, if_false, ite_true, ite_false, ↓reduceIte, Bool.not_true, Bool.not_false, hp, s0, eq_nilL, he, t]
end Lw

set_option Elab.async false
set_option linter.all false
set_option maxRecDepth 100000
set_option maxHeartbeats 4000000
namespace Lw
open PySem PySem.Spec PyProof.Rows L2 Tw
theorem wh_step {ft : FE Bool} {fb : FS} {n : Nat} {ρ ρ1 ρ2 : Rho} (h1 : ft ρ = some (true, ρ1)) (h2 : fb ρ1 = some (.nx ρ2)) : whF ft fb (n + 1) ρ = whF ft fb n ρ2 := by
  show (ft ρ).bind _ = _
  rw [h1]
  show (fb ρ1).bind _ = _
  rw [h2]
  rfl
theorem wh_stop {ft : FE Bool} {fb : FS} {n : Nat} {ρ ρ1 : Rho} (h1 : ft ρ = some (false, ρ1)) : whF ft fb (n + 1) ρ = some (.nx ρ1) := by
  show (ft ρ).bind _ = _
  rw [h1]
  rfl
theorem erase_perm {α : Type} : ∀ (R : List α) (j : Nat) (hj : j < R.length), R.Perm (R[j] :: R.eraseIdx j)
  | x :: R, 0, _ => .refl _
  | x :: R, j + 1, hj => ((erase_perm R j (by simpa using hj)).cons x).trans (.swap _ _ _)
/-- the hands of drawn ways -/
def flatW (W : List (Int × Option Int)) : List Int := W.flatMap fun w => w.1 :: w.2.toList
def ordW (W : List (Int × Option Int)) : Prop := ∀ w ∈ W, ∀ g, w.2 = some g → w.1 < g
theorem world_while {most many kd pairs kinds : PyData} {o : Int} {s6 s9 s12 s13 s14 : Sl} (ho : o < 100) : ∀ (n k : Nat) (L : List Int) (ms : List PyData) (W : List PyData) (s11 : Sl), L.length < n → L.length < 1000 → L.Pairwise (· < ·) → Pot k ms → k + 2 * n < 2 ^ 70 → W.length + n < 80000 → (s11 = .un ∨ ∃ d, s11 = .d d) →
    ∃ ms' : List PyData, ∃ V s11', whF (tPeek 10 (fTst (fBin neD (fVar 10) (fOf (thnE fNil fun xs => liftO (if Tw.sizeOk xs.length = true then some xs else none)))))) b2__law_world n
      [.m ms, .d most, .d many, .d (.int o), .d pairs, .d kinds, s6, .m W, .d kd, s9, .m (intsD L), s11, s12, s13, s14] =
      some (.nx [.m ms', .d most, .d many, .d (.int o), .d pairs, .d kinds, s6, .m (.l (W ++ V.map wayD)), .d kd, s9, .m (.l []), s11', s12, s13, s14]) ∧
      Pot (k + 2 * n) ms' ∧ (flatW V).Perm L ∧ ordW V ∧ V.length ≤ L.length ∧ (s11' = .un ∨ ∃ d, s11' = .d d) := by
  have s0 : Tw.sizeOk 0 = true := rfl
  have tst : ∀ (L : List Int) (ms W : List PyData) (s11 : Sl), (tPeek 10 (fTst (fBin neD (fVar 10) (fOf (thnE fNil fun xs => liftO (if Tw.sizeOk xs.length = true then some xs else none))))))
      [.m ms, .d most, .d many, .d (.int o), .d pairs, .d kinds, s6, .m W, .d kd, s9, .m (intsD L), s11, s12, s13, s14] =
      some (!(intsD L).isEmpty, [.m ms, .d most, .d many, .d (.int o), .d pairs, .d kinds, s6, .m W, .d kd, s9, .m (intsD L), s11, s12, s13, s14]) := fun L ms W s11 => by
    simp -implicitDefEqProofs only [eq_self, r_thn, r_tk, r_tk0, r_ret, r_lift, r_lift0, r_var, r_vk, r_bin, r_un, r_nil, r_cons, r_tup, r_of, r_call, r_tst, r_kt, r_ikT, r_ikF, r_ite, r_if, r_ife, r_and, r_or, r_not, r_vand, r_vor, r_vnot, r_chain, r_hkT, r_hkF, r_part, r_ok, r_sl, r_seq, r_skN, r_skR, r_skF, r_skB, r_skC, r_next, r_retS, r_rk, r_retF, r_rfk, r_drop, r_dk, r_asg, r_gk, r_gk2, gNm, r_tp, r_gs, r_qk, r_gs0, r_froz, r_frk, r_cmk, r_setI, r_stk, r_stk2, r_sti, r_pl, r_stj, r_aug, r_aug1, r_aug2, r_aug3, r_opN, r_par, r_prk, r_callN, r_tupRg, and_self, ixN0, ixN1, ixN2, r_peek, r_pk, r_pkI, r_pkB, r_pkS, r_pkN, r_tpeek, r_bk1, r_bk2, r_frz, r_fzk, r_own, owk, r_frkK, r_ownK, r_ixEd, r_ixEt, r_ixEl, r_inK, r_ninK, r_mk4, r_mk3, r_met, r_mk2, r_callM, r_mk2b, r_callM1, r_lenIs, r_callF, r_mat, r_mtk, r_mEnd, r_mCase, r_for, r_lk, r_items, r_itL, r_itT, r_rng, r_enum, r_zipM, zipM_ok, r_star, starL_ok, starT_ok, enumL_ok, enumT_ok, for_nil, r_lc, r_lck2, lc_nil, r_outM, r_outMn, r_outM1, r_outM1n, r_outD, r_outDf, r_outDn, r_outF, ixL0, ixL1, ixL2, ixT0, ixT1, ixT2, addI_ok, subI_ok, gtI_ok, geI_ok, leI_ok, ltI_ok, lenL_ok, lenT_ok, abs_ok, intB_ok, List.getElem?_cons_zero, List.getElem?_cons_succ, List.length_cons, List.length_nil, List.set_cons_zero, List.set_cons_succ, List.map_cons, List.map_nil, List.cons_append, List.nil_append, List.replicate_succ, List.replicate_zero, Nat.reduceAdd, Nat.reduceSub, Nat.reduceLT, Nat.reduceEqDiff, Option.bind_some, Option.bind_none, Option.map_some, Option.map_none, if_true, if_false, ite_true, ite_false, ↓reduceIte, Bool.not_true, Bool.not_false, s0, ne_nilL]
  intro n
  induction n with
  | zero => intro k L ms W s11 h; omega
  | succ n ih =>
    intro k L ms W s11 hn hL hp P hk hW h11
    cases L with
    | nil =>
      refine ⟨ms, [], s11, ?_, P.wide (by omega), .nil, fun w hw => (nomatch hw), Nat.le_refl _, h11⟩
      rw [wh_stop (tst [] ms W s11)]
      simp [intsD]
    | cons h R =>
      obtain ⟨ms1, w, R', e1, P1, hw⟩ := world_turn (most := most) (many := many) (kd := kd) (pairs := pairs) (kinds := kinds) (s6 := s6) (s9 := s9) (s11 := s11) (s12 := s12) (s13 := s13) (s14 := s14) (W := W) (h := h) (R := R) P (by omega) ho (by omega) (by rw [List.length_cons] at hL; omega)
      have facts : R'.length ≤ R.length ∧ R'.Pairwise (· < ·) ∧ (h :: R).Perm (w.1 :: w.2.toList ++ R') ∧ (∀ g, w.2 = some g → w.1 < g) := by
        rcases hw with ⟨rfl, rfl⟩ | ⟨j, hj, rfl, rfl⟩
        · exact ⟨Nat.le_refl _, hp.of_cons, .refl _, fun g e => by cases e⟩
        · refine ⟨(List.eraseIdx_sublist R j).length_le, hp.of_cons.sublist (List.eraseIdx_sublist R j), ?_, fun g e => ?_⟩
          · exact List.Perm.cons h (erase_perm R j hj)
          · cases e
            exact (List.pairwise_cons.mp hp).1 _ (List.getElem_mem hj)
      obtain ⟨f1, f2, f3, f4⟩ := facts
      obtain ⟨ms2, V, s11', e2, P2, g1, g2, g3, g4⟩ := ih (k + 2) R' ms1 (W ++ [wayD w]) (.d (.int h)) (by rw [List.length_cons] at hn; omega) (by rw [List.length_cons] at hL; omega) f2 P1 (by omega) (by rw [List.length_append, List.length_singleton]; omega) (.inr ⟨_, rfl⟩)
      refine ⟨ms2, w :: V, s11', ?_, P2.wide (by omega), ?_, ?_, ?_, g4⟩
      · rw [wh_step (tst (h :: R) ms W s11) e1, e2, List.map_cons, List.append_assoc]
        rfl
      · refine List.Perm.trans ?_ f3.symm
        show (w.1 :: w.2.toList ++ flatW V).Perm _
        exact List.Perm.append_left _ g1
      · intro x hx
        rcases List.mem_cons.mp hx with rfl | hx
        · exact f4
        · exact g2 x hx
      · rw [List.length_cons, List.length_cons]
        omega
end Lw

set_option Elab.async false
set_option linter.all false
set_option maxRecDepth 100000
set_option maxHeartbeats 4000000
namespace Lw
open PySem PySem.Spec PyProof.Rows L2 Tw
def boolsD (K : List Bool) : List PyData := K.map PyData.bool
theorem boolsD_get {K : List Bool} {j : Nat} (h : j < K.length) : (boolsD K)[j]? = some (.bool K[j]) := by
  unfold boolsD
  rw [List.getElem?_map, List.getElem?_eq_getElem h]
  rfl
/-- the hands of one kind, rising -/
def handsOf (K : List Bool) (b : Bool) : List Int := ((List.range K.length).filter fun i : Nat => K[i]? == some b).map fun i : Nat => (i : Int)
theorem eqB_ok {a b : Bool} : eqD (.bool a) (.bool b) = some (.bool (a == b)) := rfl
theorem hands_rise (K : List Bool) (b : Bool) : (handsOf K b).Pairwise (· < ·) := by
  unfold handsOf
  refine List.Pairwise.map _ (fun a c h => ?_) (List.Pairwise.filter _ List.pairwise_lt_range)
  exact_mod_cast h
theorem hands_len (K : List Bool) (b : Bool) : (handsOf K b).length ≤ K.length := by
  unfold handsOf
  rw [List.length_map]
  refine Nat.le_trans (List.length_filter_le _ _) (Nat.le_of_eq List.length_range)
theorem rng_ok {n : Nat} (h : n < 2 ^ 60) : rng1 [.int (n : Int)] = some (ups 0 n) := by
  unfold rng1
  dsimp only
  rw [if_pos (by omega)]
  rfl
theorem ups_len (n : Nat) : (ups 0 n).length = n := by
  unfold ups
  rw [List.length_map, List.length_range]
theorem ups_eq (n : Nat) : ups 0 n = (List.range n).map fun i => .int (i : Int) := by
  unfold ups
  refine List.map_congr_left fun i _ => ?_
  rw [Int.zero_add]
def pickG (K : List Bool) (b : Bool) : PyData → Option PyData
  | .int i => if K[i.toNat]? = some b then some (.int i) else none
  | _ => none
theorem pick_all (K : List Bool) (b : Bool) : (ups 0 K.length).filterMap (pickG K b) = intsD (handsOf K b) := by
  rw [ups_eq]
  unfold handsOf intsD
  rw [List.map_map]
  generalize List.range K.length = R
  induction R with
  | nil => rfl
  | cons i R ih =>
    rw [List.map_cons]
    have p : pickG K b (.int (i : Int)) = if K[i]? = some b then some (.int (i : Int)) else none := rfl
    by_cases h : K[i]? = some b
    · have f : (fun i : Nat => K[i]? == some b) i = true := by
        show (K[i]? == some b) = true
        rw [h]
        exact beq_self_eq_true _
      rw [List.filterMap_cons_some (b := .int (i : Int)) (by rw [p, if_pos h]), List.filter_cons_of_pos (p := fun i : Nat => K[i]? == some b) f, List.map_cons, ih]
      rfl
    · have f : ¬ (fun i : Nat => K[i]? == some b) i = true := fun z => h (eq_of_beq z)
      rw [List.filterMap_cons_none (by rw [p, if_neg h]), List.filter_cons_of_neg (p := fun i : Nat => K[i]? == some b) f, ih]
def keepSl : Sl → Sl
  | .d d => .d d
  | _ => .un
theorem world_kind {k m : Nat} {ms : List PyData} {most pairs : PyData} {o : Int} {K : List Bool} {b : Bool} {s6 s9 s10 s11 s12 s13 s14 : Sl} {W : List PyData} (ho : o < 100) (hK : K.length = 4 * m) (hm : m ≤ 60) (P : Pot k ms) (hk : k < 2 ^ 60) (hW : W.length < 70000) (h11 : s11 = .un ∨ ∃ d, s11 = .d d) :
    ∃ ms' : List PyData, ∃ V s11', b3__law_world [.m ms, .d most, .d (.int m), .d (.int o), .d pairs, .d (.list (boolsD K)), s6, .m W, .d (.bool b), s9, s10, s11, s12, s13, s14] =
      some (.nx [.m ms', .d most, .d (.int m), .d (.int o), .d pairs, .d (.list (boolsD K)), s6, .m (.l (W ++ V.map wayD)), .d (.bool b), s9, .m (.l []), s11', s12, s13, s14]) ∧
      Pot (k + 2000) ms' ∧ (flatW V).Perm (handsOf K b) ∧ ordW V ∧ V.length ≤ K.length ∧ (s11' = .un ∨ ∃ d, s11' = .d d) := by
  have hl : (handsOf K b).length ≤ 240 := by
    have := hands_len K b
    omega
  obtain ⟨ms', V, s11', e, P', g1, g2, g3, g4⟩ := world_while (most := most) (many := .int m) (kd := .bool b) (pairs := pairs) (kinds := .list (boolsD K)) (s6 := s6) (s9 := s9) (s12 := s12) (s13 := s13) (s14 := s14) ho 1000 k (handsOf K b) ms W
    (keepSl s11) (by omega) (by omega) (hands_rise K b) P (by omega) (by omega) (by rcases h11 with rfl | ⟨d, rfl⟩; exact .inl rfl; exact .inr ⟨d, rfl⟩)
  have h4 := mul_ok (i := 4) (j := (m : Int)) 3 7 (by decide) (by decide) (by decide) (by decide) (by omega) (by omega) (by decide)
  have e4 : (4 : Int) * (m : Int) = ((4 * m : Nat) : Int) := by omega
  rw [e4] at h4
  have hr := rng_ok (n := 4 * m) (by omega)
  have sz : Tw.sizeOk (ups 0 (4 * m)).length = true := by
    rw [ups_len]
    exact decide_eq_true (by omega)
  have lc : lcF (gNm 11) (fTst (fBin eqD (fBin ixD (fVar 5) (fVar 11)) (fVar 8))) (fVar 11) [11] (ups 0 (4 * m)) [.m ms, .d most, .d (.int m), .d (.int o), .d pairs, .d (.list (boolsD K)), s6, .m W, .d (.bool b), s9, s10, .un, s12, s13, s14] =
      some (intsD (handsOf K b), [.m ms, .d most, .d (.int m), .d (.int o), .d pairs, .d (.list (boolsD K)), s6, .m W, .d (.bool b), s9, s10, .un, s12, s13, s14]) := by
    rw [← hK, ← pick_all]
    refine lc_map (pickG K b) _ fun d hd => ?_
    rw [ups_eq] at hd
    obtain ⟨i, hi, rfl⟩ := List.mem_map.mp hd
    have hi : i < K.length := List.mem_range.mp hi
    have ix : ixD (.list (boolsD K)) (.int (i : Int)) = some (.bool K[i]) := ixLn (boolsD_get hi)
    have pg : pickG K b (.int (i : Int)) = if K[i] = b then some (.int (i : Int)) else none := by
      show (if K[i]? = some b then _ else _) = _
      rw [List.getElem?_eq_getElem hi]
      by_cases h : K[i] = b
      · rw [if_pos (by rw [h]), if_pos h]
      · rw [if_neg (fun z => h (Option.some.inj z)), if_neg h]
    have ps : (pickG K b (.int (i : Int))).isSome = (K[i] == b) := by
      rw [pg]
      by_cases h : K[i] = b
      · rw [if_pos h, h]
        simp
      · rw [if_neg h]
        simp [h]
    refine ⟨[.m ms, .d most, .d (.int m), .d (.int o), .d pairs, .d (.list (boolsD K)), s6, .m W, .d (.bool b), s9, s10, .d (.int (i : Int)), s12, s13, s14], [.m ms, .d most, .d (.int m), .d (.int o), .d pairs, .d (.list (boolsD K)), s6, .m W, .d (.bool b), s9, s10, .d (.int (i : Int)), s12, s13, s14], rfl, ?_, fun _ => rfl, fun e he => ?_⟩
    · simp -implicitDefEqProofs only [eq_self, r_thn, r_tk, r_tk0, r_ret, r_lift, r_lift0, r_var, r_vk, r_bin, r_un, r_nil, r_cons, r_tup, r_of, r_call, r_tst, r_kt, r_ikT, r_ikF, r_ite, r_if, r_ife, r_and, r_or, r_not, r_vand, r_vor, r_vnot, r_chain, r_hkT, r_hkF, r_part, r_ok, r_sl, r_seq, r_skN, r_skR, r_skF, r_skB, r_skC, r_next, r_retS, r_rk, r_retF, r_rfk, r_drop, r_dk, r_asg, r_gk, r_gk2, gNm, r_tp, r_gs, r_qk, r_gs0, r_froz, r_frk, r_cmk, r_setI, r_stk, r_stk2, r_sti, r_pl, r_stj, r_aug, r_aug1, r_aug2, r_aug3, r_opN, r_par, r_prk, r_callN, r_tupRg, and_self, ixN0, ixN1, ixN2, r_peek, r_pk, r_pkI, r_pkB, r_pkS, r_pkN, r_tpeek, r_bk1, r_bk2, r_frz, r_fzk, r_own, owk, r_frkK, r_ownK, r_ixEd, r_ixEt, r_ixEl, r_inK, r_ninK, r_mk4, r_mk3, r_met, r_mk2, r_callM, r_mk2b, r_callM1, r_lenIs, r_callF, r_mat, r_mtk, r_mEnd, r_mCase, r_for, r_lk, r_items, r_itL, r_itT, r_rng, r_enum, r_zipM, zipM_ok, r_star, starL_ok, starT_ok, enumL_ok, enumT_ok, for_nil, r_lc, r_lck2, lc_nil, r_outM, r_outMn, r_outM1, r_outM1n, r_outD, r_outDf, r_outDn, r_outF, ixL0, ixL1, ixL2, ixT0, ixT1, ixT2, addI_ok, subI_ok, gtI_ok, geI_ok, leI_ok, ltI_ok, lenL_ok, lenT_ok, abs_ok, intB_ok, List.getElem?_cons_zero, List.getElem?_cons_succ, List.length_cons, List.length_nil, List.set_cons_zero, List.set_cons_succ, List.map_cons, List.map_nil, List.cons_append, List.nil_append, List.replicate_succ, List.replicate_zero, Nat.reduceAdd, Nat.reduceSub, Nat.reduceLT, Nat.reduceEqDiff, Option.bind_some, Option.bind_none, Option.map_some, Option.map_none, if_true, if_false, ite_true, ite_false, ↓reduceIte, Bool.not_true, Bool.not_false, ix, eqB_ok]
      rw [ps]
    · rw [pg] at he
      by_cases h : K[i] = b
      · rw [if_pos h] at he
        cases he
        refine ⟨[.m ms, .d most, .d (.int m), .d (.int o), .d pairs, .d (.list (boolsD K)), s6, .m W, .d (.bool b), s9, s10, .d (.int (i : Int)), s12, s13, s14], ?_, rfl⟩
        simp -implicitDefEqProofs only [eq_self, r_thn, r_tk, r_tk0, r_ret, r_lift, r_lift0, r_var, r_vk, r_bin, r_un, r_nil, r_cons, r_tup, r_of, r_call, r_tst, r_kt, r_ikT, r_ikF, r_ite, r_if, r_ife, r_and, r_or, r_not, r_vand, r_vor, r_vnot, r_chain, r_hkT, r_hkF, r_part, r_ok, r_sl, r_seq, r_skN, r_skR, r_skF, r_skB, r_skC, r_next, r_retS, r_rk, r_retF, r_rfk, r_drop, r_dk, r_asg, r_gk, r_gk2, gNm, r_tp, r_gs, r_qk, r_gs0, r_froz, r_frk, r_cmk, r_setI, r_stk, r_stk2, r_sti, r_pl, r_stj, r_aug, r_aug1, r_aug2, r_aug3, r_opN, r_par, r_prk, r_callN, r_tupRg, and_self, ixN0, ixN1, ixN2, r_peek, r_pk, r_pkI, r_pkB, r_pkS, r_pkN, r_tpeek, r_bk1, r_bk2, r_frz, r_fzk, r_own, owk, r_frkK, r_ownK, r_ixEd, r_ixEt, r_ixEl, r_inK, r_ninK, r_mk4, r_mk3, r_met, r_mk2, r_callM, r_mk2b, r_callM1, r_lenIs, r_callF, r_mat, r_mtk, r_mEnd, r_mCase, r_for, r_lk, r_items, r_itL, r_itT, r_rng, r_enum, r_zipM, zipM_ok, r_star, starL_ok, starT_ok, enumL_ok, enumT_ok, for_nil, r_lc, r_lck2, lc_nil, r_outM, r_outMn, r_outM1, r_outM1n, r_outD, r_outDf, r_outDn, r_outF, ixL0, ixL1, ixL2, ixT0, ixT1, ixT2, addI_ok, subI_ok, gtI_ok, geI_ok, leI_ok, ltI_ok, lenL_ok, lenT_ok, abs_ok, intB_ok, List.getElem?_cons_zero, List.getElem?_cons_succ, List.length_cons, List.length_nil, List.set_cons_zero, List.set_cons_succ, List.map_cons, List.map_nil, List.cons_append, List.nil_append, List.replicate_succ, List.replicate_zero, Nat.reduceAdd, Nat.reduceSub, Nat.reduceLT, Nat.reduceEqDiff, Option.bind_some, Option.bind_none, Option.map_some, Option.map_none, if_true, if_false, ite_true, ite_false, ↓reduceIte, Bool.not_true, Bool.not_false]
      · rw [if_neg h] at he
        cases he
  refine ⟨ms', V, s11', ?_, P'.wide (by omega), g1, g2, by have := hands_len K b; omega, g4⟩
  unfold b3__law_world
  rcases h11 with rfl | ⟨d, rfl⟩
  · simp -implicitDefEqProofs only [eq_self, r_thn, r_tk, r_tk0, r_ret, r_lift, r_lift0, r_var, r_vk, r_bin, r_un, r_nil, r_cons, r_tup, r_of, r_call, r_tst, r_kt, r_ikT, r_ikF, r_ite, r_if, r_ife, r_and, r_or, r_not, r_vand, r_vor, r_vnot, r_chain, r_hkT, r_hkF, r_part, r_ok, r_sl, r_seq, r_skN, r_skR, r_skF, r_skB, r_skC, r_next, r_retS, r_rk, r_retF, r_rfk, r_drop, r_dk, r_asg, r_gk, r_gk2, gNm, r_tp, r_gs, r_qk, r_gs0, r_froz, r_frk, r_cmk, r_setI, r_stk, r_stk2, r_sti, r_pl, r_stj, r_aug, r_aug1, r_aug2, r_aug3, r_opN, r_par, r_prk, r_callN, r_tupRg, and_self, ixN0, ixN1, ixN2, r_peek, r_pk, r_pkI, r_pkB, r_pkS, r_pkN, r_tpeek, r_bk1, r_bk2, r_frz, r_fzk, r_own, owk, r_frkK, r_ownK, r_ixEd, r_ixEt, r_ixEl, r_inK, r_ninK, r_mk4, r_mk3, r_met, r_mk2, r_callM, r_mk2b, r_callM1, r_lenIs, r_callF, r_mat, r_mtk, r_mEnd, r_mCase, r_for, r_lk, r_items, r_itL, r_itT, r_rng, r_enum, r_zipM, zipM_ok, r_star, starL_ok, starT_ok, enumL_ok, enumT_ok, for_nil, r_lc, r_lck2, lc_nil, r_outM, r_outMn, r_outM1, r_outM1n, r_outD, r_outDf, r_outDn, r_outF, ixL0, ixL1, ixL2, ixT0, ixT1, ixT2, addI_ok, subI_ok, gtI_ok, geI_ok, leI_ok, ltI_ok, lenL_ok, lenT_ok, abs_ok, intB_ok, List.getElem?_cons_zero, List.getElem?_cons_succ, List.length_cons, List.length_nil, List.set_cons_zero, List.set_cons_succ, List.map_cons, List.map_nil, List.cons_append, List.nil_append, List.replicate_succ, List.replicate_zero, Nat.reduceAdd, Nat.reduceSub, Nat.reduceLT, Nat.reduceEqDiff, Option.bind_some, Option.bind_none, Option.map_some, Option.map_none, if_true, if_false, ite_true, ite_false, ↓reduceIte, Bool.not_true, Bool.not_false, h4, hr, r_lck sz, wipeR, lc, backR]
    exact e
  · simp -implicitDefEqProofs only [eq_self, r_thn, r_tk, r_tk0, r_ret, r_lift, r_lift0, r_var, r_vk, r_bin, r_un, r_nil, r_cons, r_tup, r_of, r_call, r_tst, r_kt, r_ikT, r_ikF, r_ite, r_if, r_ife, r_and, r_or, r_not, r_vand, r_vor, r_vnot, r_chain, r_hkT, r_hkF, r_part, r_ok, r_sl, r_seq, r_skN, r_skR, r_skF, r_skB, r_skC, r_next, r_retS, r_rk, r_retF, r_rfk, r_drop, r_dk, r_asg, r_gk, r_gk2, gNm, r_tp, r_gs, r_qk, r_gs0, r_froz, r_frk, r_cmk, r_setI, r_stk, r_stk2, r_sti, r_pl, r_stj, r_aug, r_aug1, r_aug2, r_aug3, r_opN, r_par, r_prk, r_callN, r_tupRg, and_self, ixN0, ixN1, ixN2, r_peek, r_pk, r_pkI, r_pkB, r_pkS, r_pkN, r_tpeek, r_bk1, r_bk2, r_frz, r_fzk, r_own, owk, r_frkK, r_ownK, r_ixEd, r_ixEt, r_ixEl, r_inK, r_ninK, r_mk4, r_mk3, r_met, r_mk2, r_callM, r_mk2b, r_callM1, r_lenIs, r_callF, r_mat, r_mtk, r_mEnd, r_mCase, r_for, r_lk, r_items, r_itL, r_itT, r_rng, r_enum, r_zipM, zipM_ok, r_star, starL_ok, starT_ok, enumL_ok, enumT_ok, for_nil, r_lc, r_lck2, lc_nil, r_outM, r_outMn, r_outM1, r_outM1n, r_outD, r_outDf, r_outDn, r_outF, ixL0, ixL1, ixL2, ixT0, ixT1, ixT2, addI_ok, subI_ok, gtI_ok, geI_ok, leI_ok, ltI_ok, lenL_ok, lenT_ok, abs_ok, intB_ok, List.getElem?_cons_zero, List.getElem?_cons_succ, List.length_cons, List.length_nil, List.set_cons_zero, List.set_cons_succ, List.map_cons, List.map_nil, List.cons_append, List.nil_append, List.replicate_succ, List.replicate_zero, Nat.reduceAdd, Nat.reduceSub, Nat.reduceLT, Nat.reduceEqDiff, Option.bind_some, Option.bind_none, Option.map_some, Option.map_none, if_true, if_false, ite_true, ite_false, ↓reduceIte, Bool.not_true, Bool.not_false, h4, hr, r_lck sz, wipeR, lc, backR]
    exact e
end Lw

set_option Elab.async false
set_option linter.all false
set_option maxRecDepth 100000
set_option maxHeartbeats 4000000
namespace Lw
open PySem PySem.Spec PyProof.Rows L2 Tw
def pairs6 : List PyData := [.tuple [.int 0, .int 1], .tuple [.int 0, .int 2], .tuple [.int 0, .int 3], .tuple [.int 1, .int 2], .tuple [.int 1, .int 3], .tuple [.int 2, .int 3]]
def six : List (List Bool) := [[true, true, false, false], [true, false, true, false], [true, false, false, true], [false, true, true, false], [false, true, false, true], [false, false, true, true]]
theorem boolsD_app (K B : List Bool) : boolsD K ++ boolsD B = boolsD (K ++ B) := (List.map_append ..).symm
theorem boolsD_len (K : List Bool) : (boolsD K).length = K.length := List.length_map _
theorem ext_ok {ms es : List PyData} (h : ms.length + es.length ≤ 100000) : extG ms [.list es] = some (.none, ms ++ es) := if_pos (decide_eq_true h)
theorem post_row {o ms most m sx : Sl} {K : List PyData} {s6 s7 s8 s10 s11 s13 s14 : Sl} {p : List PyData} {B : List Bool}
    (h : (List.range 4).map (fun t => inD false (.int (t : Nat)) (.tuple p)) = B.map fun b => some (.bool b)) (hB : B.length = 4) :
    lcF (gNm 12) (Tw.ret true) (fBin (inD false) (fVar 12) (fVar 9)) [12] (ups 0 4) [ms, most, m, o, sx, .m K, s6, s7, s8, .d (.tuple p), s10, s11, .un, s13, s14] =
      some (boolsD B, [ms, most, m, o, sx, .m K, s6, s7, s8, .d (.tuple p), s10, s11, .un, s13, s14]) := by
  match B, hB with
  | [b0, b1, b2, b3], _ =>
    have q : [inD false (.int 0) (.tuple p), inD false (.int 1) (.tuple p), inD false (.int 2) (.tuple p), inD false (.int 3) (.tuple p)] = [some (.bool b0), some (.bool b1), some (.bool b2), some (.bool b3)] := h
    simp only [List.cons.injEq, and_true] at q
    obtain ⟨q0, q1, q2, q3⟩ := q
    have turn : ∀ (t : Int) (b : Bool) (l : List PyData), inD false (.int t) (.tuple p) = some (.bool b) → lcF (gNm 12) (Tw.ret true) (fBin (inD false) (fVar 12) (fVar 9)) [12] (.int t :: l) [ms, most, m, o, sx, .m K, s6, s7, s8, .d (.tuple p), s10, s11, .un, s13, s14] =
        (lcF (gNm 12) (Tw.ret true) (fBin (inD false) (fVar 12) (fVar 9)) [12] l [ms, most, m, o, sx, .m K, s6, s7, s8, .d (.tuple p), s10, s11, .un, s13, s14]).map fun r => (.bool b :: r.1, r.2) := fun t b l e => by
      have e1 : fBin (inD false) (fVar 12) (fVar 9) [ms, most, m, o, sx, .m K, s6, s7, s8, .d (.tuple p), s10, s11, .d (.int t), s13, s14] = some (.bool b, [ms, most, m, o, sx, .m K, s6, s7, s8, .d (.tuple p), s10, s11, .d (.int t), s13, s14]) := by
        simp -implicitDefEqProofs only [eq_self, r_thn, r_tk, r_tk0, r_ret, r_lift, r_lift0, r_var, r_vk, r_bin, r_un, r_nil, r_cons, r_tup, r_of, r_call, r_tst, r_kt, r_ikT, r_ikF, r_ite, r_if, r_ife, r_and, r_or, r_not, r_vand, r_vor, r_vnot, r_chain, r_hkT, r_hkF, r_part, r_ok, r_sl, r_seq, r_skN, r_skR, r_skF, r_skB, r_skC, r_next, r_retS, r_rk, r_retF, r_rfk, r_drop, r_dk, r_asg, r_gk, r_gk2, gNm, r_tp, r_gs, r_qk, r_gs0, r_froz, r_frk, r_cmk, r_setI, r_stk, r_stk2, r_sti, r_pl, r_stj, r_aug, r_aug1, r_aug2, r_aug3, r_opN, r_par, r_prk, r_callN, r_tupRg, and_self, ixN0, ixN1, ixN2, r_peek, r_pk, r_pkI, r_pkB, r_pkS, r_pkN, r_tpeek, r_bk1, r_bk2, r_frz, r_fzk, r_own, owk, r_frkK, r_ownK, r_ixEd, r_ixEt, r_ixEl, r_inK, r_ninK, r_mk4, r_mk3, r_met, r_mk2, r_callM, r_mk2b, r_callM1, r_lenIs, r_callF, r_mat, r_mtk, r_mEnd, r_mCase, r_for, r_lk, r_items, r_itL, r_itT, r_rng, r_enum, r_zipM, zipM_ok, r_star, starL_ok, starT_ok, enumL_ok, enumT_ok, for_nil, r_lc, r_lck2, lc_nil, r_outM, r_outMn, r_outM1, r_outM1n, r_outD, r_outDf, r_outDn, r_outF, ixL0, ixL1, ixL2, ixT0, ixT1, ixT2, addI_ok, subI_ok, gtI_ok, geI_ok, leI_ok, ltI_ok, lenL_ok, lenT_ok, abs_ok, intB_ok, List.getElem?_cons_zero, List.getElem?_cons_succ, List.length_cons, List.length_nil, List.set_cons_zero, List.set_cons_succ, List.map_cons, List.map_nil, List.cons_append, List.nil_append, List.replicate_succ, List.replicate_zero, Nat.reduceAdd, Nat.reduceSub, Nat.reduceLT, Nat.reduceEqDiff, Option.bind_some, Option.bind_none, Option.map_some, Option.map_none, if_true, if_false, ite_true, ite_false, ↓reduceIte, Bool.not_true, Bool.not_false, e]
      show (fBin (inD false) (fVar 12) (fVar 9) [ms, most, m, o, sx, .m K, s6, s7, s8, .d (.tuple p), s10, s11, .d (.int t), s13, s14]).bind _ = _
      rw [e1]
      rfl
    show lcF _ _ _ _ [.int 0, .int 1, .int 2, .int 3] _ = _
    rw [turn 0 b0 _ q0, turn 1 b1 _ q1, turn 2 b2 _ q2, turn 3 b3 _ q3, lc_nil]
    rfl
theorem world_post {k : Nat} {ms : List PyData} {most m o : PyData} {K : List Bool} {s6 s7 s8 s9 s10 s11 s13 s14 : Sl} (P : Pot k ms) (hk : k < 2 ^ 80) (hK : K.length < 1000) :
    ∃ ms' : List PyData, ∃ B s9', b1__law_world [.m ms, .d most, .d m, .d o, .d (.list pairs6), .m (boolsD K), s6, s7, s8, s9, s10, s11, .un, s13, s14] =
      some (.nx [.m ms', .d most, .d m, .d o, .d (.list pairs6), .m (.l (boolsD (K ++ B))), s6, s7, s8, s9', s10, s11, .un, s13, s14]) ∧ Pot (k + 1) ms' ∧ B ∈ six := by
  obtain ⟨r, ms', e, r0, r1, P'⟩ := take_ok (n := 6) P (by omega) (by decide) (by decide)
  have s4 : Tw.sizeOk (ups 0 4).length = true := rfl
  have hr : rng1 [.int 4] = some (ups 0 4) := rng_ok (n := 4) (by decide)
  have fin : ∀ (p : List PyData) (B : List Bool), ixD (.list pairs6) (.int r) = some (.tuple p) → (List.range 4).map (fun t => inD false (.int (t : Nat)) (.tuple p)) = (B.map fun b => some (PyData.bool b)) → B ∈ six → ∃ ms' : List PyData, ∃ B s9', b1__law_world [.m ms, .d most, .d m, .d o, .d (.list pairs6), .m (boolsD K), s6, s7, s8, s9, s10, s11, .un, s13, s14] =
      some (.nx [.m ms', .d most, .d m, .d o, .d (.list pairs6), .m (.l (boolsD (K ++ B))), s6, s7, s8, s9', s10, s11, .un, s13, s14]) ∧ Pot (k + 1) ms' ∧ B ∈ six := fun p B h1 h2 h3 => by
    have hB : B.length = 4 := by
      have := congrArg List.length h2
      simpa using this.symm
    have lc := post_row (ms := .m ms') (most := .d most) (m := .d m) (o := .d o) (sx := .d (.list pairs6)) (K := boolsD K) (s6 := s6) (s7 := s7) (s8 := s8) (s10 := s10) (s11 := s11) (s13 := s13) (s14 := s14) h2 hB
    have ex : extG (boolsD K) [.list (boolsD B)] = some (.none, boolsD (K ++ B)) := by
      rw [ext_ok (by rw [boolsD_len, boolsD_len]; omega), boolsD_app]
    refine ⟨ms', B, .d (.tuple p), ?_, P', h3⟩
    unfold b1__law_world
    simp -implicitDefEqProofs only [eq_self, r_thn, r_tk, r_tk0, r_ret, r_lift, r_lift0, r_var, r_vk, r_bin, r_un, r_nil, r_cons, r_tup, r_of, r_call, r_tst, r_kt, r_ikT, r_ikF, r_ite, r_if, r_ife, r_and, r_or, r_not, r_vand, r_vor, r_vnot, r_chain, r_hkT, r_hkF, r_part, r_ok, r_sl, r_seq, r_skN, r_skR, r_skF, r_skB, r_skC, r_next, r_retS, r_rk, r_retF, r_rfk, r_drop, r_dk, r_asg, r_gk, r_gk2, gNm, r_tp, r_gs, r_qk, r_gs0, r_froz, r_frk, r_cmk, r_setI, r_stk, r_stk2, r_sti, r_pl, r_stj, r_aug, r_aug1, r_aug2, r_aug3, r_opN, r_par, r_prk, r_callN, r_tupRg, and_self, ixN0, ixN1, ixN2, r_peek, r_pk, r_pkI, r_pkB, r_pkS, r_pkN, r_tpeek, r_bk1, r_bk2, r_frz, r_fzk, r_own, owk, r_frkK, r_ownK, r_ixEd, r_ixEt, r_ixEl, r_inK, r_ninK, r_mk4, r_mk3, r_met, r_mk2, r_callM, r_mk2b, r_callM1, r_lenIs, r_callF, r_mat, r_mtk, r_mEnd, r_mCase, r_for, r_lk, r_items, r_itL, r_itT, r_rng, r_enum, r_zipM, zipM_ok, r_star, starL_ok, starT_ok, enumL_ok, enumT_ok, for_nil, r_lc, r_lck2, lc_nil, r_outM, r_outMn, r_outM1, r_outM1n, r_outD, r_outDf, r_outDn, r_outF, ixL0, ixL1, ixL2, ixT0, ixT1, ixT2, addI_ok, subI_ok, gtI_ok, geI_ok, leI_ok, ltI_ok, lenL_ok, lenT_ok, abs_ok, intB_ok, List.getElem?_cons_zero, List.getElem?_cons_succ, List.length_cons, List.length_nil, List.set_cons_zero, List.set_cons_succ, List.map_cons, List.map_nil, List.cons_append, List.nil_append, List.replicate_succ, List.replicate_zero, Nat.reduceAdd, Nat.reduceSub, Nat.reduceLT, Nat.reduceEqDiff, Option.bind_some, Option.bind_none, Option.map_some, Option.map_none, if_true, if_false, ite_true, ite_false, ↓reduceIte, Bool.not_true, Bool.not_false, e, h1, hr, r_lck s4, wipeR, lc, backR, ex]
  have c : r = 0 ∨ r = 1 ∨ r = 2 ∨ r = 3 ∨ r = 4 ∨ r = 5 := by omega
  rcases c with rfl | rfl | rfl | rfl | rfl | rfl
  · exact fin _ [true, true, false, false] rfl rfl (by decide)
  · exact fin _ [true, false, true, false] rfl rfl (by decide)
  · exact fin _ [true, false, false, true] rfl rfl (by decide)
  · exact fin _ [false, true, true, false] rfl rfl (by decide)
  · exact fin _ [false, true, false, true] rfl rfl (by decide)
  · exact fin _ [false, false, true, true] rfl rfl (by decide)
end Lw

set_option Elab.async false
set_option linter.all false
set_option maxRecDepth 100000
set_option maxHeartbeats 4000000
namespace Lw
open PySem PySem.Spec PyProof.Rows L2 Tw
/-! ### ways sorted -/
theorem wayD_tup (w : Int × Option Int) : ∃ l, wayD w = .tuple (.int w.1 :: l) := by
  obtain ⟨h, g⟩ := w
  cases g with
  | none => exact ⟨[], rfl⟩
  | some g => exact ⟨[.int g], rfl⟩
theorem le_first {v w : Int × Option Int} (h : PySem.W.dataLe false id (wayD v) (wayD w) = true) : v.1 ≤ w.1 := by
  refine Int.not_lt.mp fun hlt => ?_
  obtain ⟨l, e⟩ := wayD_tup v
  obtain ⟨m, f⟩ := wayD_tup w
  have q : PyProof.Rows.lexLt itemOrd (PySem.W.keyToks (wayD w)) (PySem.W.keyToks (wayD v)) = true := by
    rw [e, f]
    show PyProof.Rows.lexLt itemOrd (.inl 1 :: .inl w.1 :: PySem.W.keyToksAll m) (.inl 1 :: .inl v.1 :: PySem.W.keyToksAll l) = true
    have a1 : itemLt (.inl 1) (.inl 1) = false := rfl
    have a2 : itemLt (.inl w.1) (.inl v.1) = true := decide_eq_true hlt
    show (itemLt (.inl 1) (.inl 1) || (!itemLt (.inl 1) (.inl 1) && (itemLt (.inl w.1) (.inl v.1) || _))) = true
    rw [a1, a2]
    rfl
  have : (!PyProof.Rows.lexLt itemOrd (PySem.W.keyToks (wayD w)) (PySem.W.keyToks (wayD v))) = true := h
  rw [q] at this
  cases this
theorem ways_sortOk (V : List (Int × Option Int)) : sortOk (V.map wayD) = true := by
  unfold sortOk
  rw [Bool.and_eq_true, Bool.and_eq_true, Bool.or_eq_true]
  refine ⟨⟨?_, .inl ?_⟩, ?_⟩
  · unfold allAlikeB
    refine List.all_eq_true.mpr fun d hd => List.all_eq_true.mpr fun e he => ?_
    obtain ⟨v, _, rfl⟩ := List.mem_map.mp hd
    obtain ⟨w, _, rfl⟩ := List.mem_map.mp he
    obtain ⟨v1, v2⟩ := v
    obtain ⟨w1, w2⟩ := w
    cases v2 <;> cases w2 <;> rfl
  · refine List.all_eq_true.mpr fun d hd => ?_
    obtain ⟨v, _, rfl⟩ := List.mem_map.mp hd
    obtain ⟨l, e⟩ := wayD_tup v
    rw [e]
    rfl
  · refine List.all_eq_true.mpr fun d hd => ?_
    obtain ⟨v, _, rfl⟩ := List.mem_map.mp hd
    obtain ⟨v1, v2⟩ := v
    cases v2 <;> rfl
/-- ways sorted: the same ways, their first hands rising -/
theorem ways_sorted (V : List (Int × Option Int)) : ∃ S : List (Int × Option Int), sortedD [.list (V.map wayD)] = some (.list (S.map wayD)) ∧ S.Perm V ∧ S.Pairwise (fun v w => v.1 ≤ w.1) := by
  have T := PySem.W.sortLe_total (PyProof.Rows.listOrd itemOrd) false fun b : PyData => PySem.W.keyToks (id b)
  refine ⟨V.mergeSort fun v w => PySem.W.dataLe false id (wayD v) (wayD w), ?_, List.mergeSort_perm _ _, ?_⟩
  · show (if sortOk (V.map wayD) = true then some (PyData.list (srt (V.map wayD))) else none) = _
    rw [if_pos (ways_sortOk V)]
    unfold srt
    rw [List.map_mergeSort (r := fun v w => PySem.W.dataLe false id (wayD v) (wayD w)) (s := PySem.W.dataLe false id) (f := wayD) fun a _ b _ => rfl]
  · exact (List.pairwise_mergeSort (le := fun v w => PySem.W.dataLe false id (wayD v) (wayD w)) (fun a b c h1 h2 => T.trans _ _ _ h1 h2) (fun a b => Bool.or_eq_true_iff.mpr (T.total _ _)) V).imp fun h => le_first h
end Lw

set_option Elab.async false
set_option linter.all false
set_option maxRecDepth 100000
set_option maxHeartbeats 4000000
namespace Lw
open PySem PySem.Spec PyProof.Rows L2 Tw
/-- what a drawn web is: many posts, the painted hands of each post, the ways -/
structure Drawn (most m : Nat) (Bs : List (List Bool)) (S : List (Int × Option Int)) : Prop where
  le : m ≤ most
  nb : Bs.length = m
  six : ∀ B ∈ Bs, B ∈ six
  perm : (flatW S).Perm ((List.range (4 * m)).map fun i : Nat => (i : Int))
  ord : ordW S
  rise : S.Pairwise fun v w => v.1 < w.1
  pnt : (flatW (S.filter fun w => Bs.flatten[w.1.toNat]? == some true)).Perm (handsOf Bs.flatten true)
theorem six_len {B : List Bool} (h : B ∈ six) : B.length = 4 := by
  simp only [six, List.mem_cons, List.not_mem_nil, or_false] at h
  rcases h with rfl | rfl | rfl | rfl | rfl | rfl <;> rfl
theorem flat_len : ∀ {Bs : List (List Bool)}, (∀ B ∈ Bs, B ∈ six) → Bs.flatten.length = 4 * Bs.length
  | [], _ => rfl
  | B :: Bs, h => by
    rw [List.flatten_cons, List.length_append, six_len (h B (List.mem_cons_self ..)), flat_len fun C hC => h C (List.mem_cons_of_mem _ hC), List.length_cons]
    omega
theorem flatW_app (U V : List (Int × Option Int)) : flatW (U ++ V) = flatW U ++ flatW V := List.flatMap_append ..
theorem flatW_perm {U V : List (Int × Option Int)} (h : U.Perm V) : (flatW U).Perm (flatW V) := h.flatMap_right _
theorem mem_flat {V : List (Int × Option Int)} {w : Int × Option Int} (h : w ∈ V) : w.1 ∈ flatW V := List.mem_flatMap.mpr ⟨w, h, List.mem_cons_self ..⟩
/-- all hands, by their kinds -/
theorem hands_both (K : List Bool) : (handsOf K true ++ handsOf K false).Perm ((List.range K.length).map fun i : Nat => (i : Int)) := by
  unfold handsOf
  rw [← List.map_append]
  refine List.Perm.map _ ?_
  have e : (List.range K.length).filter (fun i : Nat => K[i]? == some false) = (List.range K.length).filter fun i : Nat => !(K[i]? == some true) := by
    refine List.filter_congr fun i hi => ?_
    rw [List.getElem?_eq_getElem (List.mem_range.mp hi)]
    cases K[i]'(List.mem_range.mp hi) <;> rfl
  rw [e]
  exact List.filter_append_perm _ _
theorem first_lt {S : List (Int × Option Int)} {n : Nat} (hp : (flatW S).Perm ((List.range n).map fun i : Nat => (i : Int))) (hr : S.Pairwise fun v w => v.1 ≤ w.1) : S.Pairwise fun v w => v.1 < w.1 := by
  have nd : (flatW S).Nodup := hp.nodup_iff.mpr (List.Pairwise.map (R := (· ≠ ·)) (fun i : Nat => (i : Int)) (fun a b h z => h (by exact_mod_cast z)) List.nodup_range)
  clear hp
  induction S with
  | nil => exact .nil
  | cons v S ih =>
    have h1 := List.pairwise_cons.mp hr
    have nd' : (v.1 :: v.2.toList ++ flatW S).Nodup := nd
    refine List.pairwise_cons.mpr ⟨fun w hw => ?_, ih h1.2 (List.nodup_append.mp nd').2.1⟩
    have a := h1.1 w hw
    have b : v.1 ≠ w.1 := fun z => (List.nodup_append.mp nd').2.2 v.1 (List.mem_cons_self ..) w.1 (mem_flat hw) z
    omega
theorem kind_of {K : List Bool} {b : Bool} {V : List (Int × Option Int)} (p : (flatW V).Perm (handsOf K b)) {w : Int × Option Int} (h : w ∈ V) : (K[w.1.toNat]? == some b) = true := by
  have := p.mem_iff.mp (mem_flat h)
  unfold handsOf at this
  obtain ⟨i, hi, e⟩ := List.mem_map.mp this
  have := (List.mem_filter.mp hi).2
  rw [← e, Int.toNat_natCast]
  exact this
/-- the painted ways among ways, by the kinds of their first hands -/
def pickP (K : List Bool) : PyData → Option PyData
  | .tuple [i, .tuple (.int h :: _)] => if K[h.toNat]? = some true then some i else none
  | _ => none
def paintD (K : List Bool) (S : List (Int × Option Int)) : List PyData := (enumD (S.map wayD)).filterMap (pickP K)
def webD (m : Nat) (S : List (Int × Option Int)) : PyData := .tuple [.int m, .tuple (S.map wayD)]
def pairsF : FE PyData := fOf (thnE (fCons (fTup (fCons (Tw.ret (.int 0)) (fCons (Tw.ret (.int 1)) fNil))) (fCons (fTup (fCons (Tw.ret (.int 0)) (fCons (Tw.ret (.int 2)) fNil))) (fCons (fTup (fCons (Tw.ret (.int 0)) (fCons (Tw.ret (.int 3)) fNil))) (fCons (fTup (fCons (Tw.ret (.int 1)) (fCons (Tw.ret (.int 2)) fNil))) (fCons (fTup (fCons (Tw.ret (.int 1)) (fCons (Tw.ret (.int 3)) fNil))) (fCons (fTup (fCons (Tw.ret (.int 2)) (fCons (Tw.ret (.int 3)) fNil))) fNil)))))) fun xs => liftO (if Tw.sizeOk xs.length = true then some xs else none))
theorem pairs_ok (ρ : Rho) : pairsF ρ = some (.list pairs6, ρ) := rfl
theorem world_ok {k most : Nat} {ms : List PyData} (P : Pot k ms) (hk : k < 2 ^ 50) (hm : most ≤ 60) : ∃ (m : Nat) (Bs : List (List Bool)) (S : List (Int × Option Int)) (ms' : List PyData),
    g__law_world ms [.int most] = some (.tuple [webD m S, .tuple (paintD Bs.flatten S)], ms') ∧ Drawn most m Bs S ∧ Pot (k + 5000) ms' := by
  obtain ⟨r, ms1, e1, r0, r1, P1⟩ := take_ok (n := (most : Int) + 1) P (by omega) (by omega) (by omega)
  obtain ⟨m, rfl⟩ : ∃ m : Nat, r = (m : Int) := ⟨r.toNat, by omega⟩
  obtain ⟨f, ms2, e2, f0, f1, P2⟩ := take_ok (n := 4) P1 (by omega) (by decide) (by decide)
  have s0 : Tw.sizeOk 0 = true := rfl
  have s2 : Tw.sizeOk 2 = true := rfl
  have s4 : Tw.sizeOk 4 = true := rfl
  obtain ⟨o, eo, ho⟩ : ∃ o : Int, ixD (.list [.int 0, .int 2, .int 4, .int 9]) (.int f) = some (.int o) ∧ o < 100 := by
    have c : f = 0 ∨ f = 1 ∨ f = 2 ∨ f = 3 := by omega
    rcases c with rfl | rfl | rfl | rfl
    · exact ⟨0, rfl, by decide⟩
    · exact ⟨2, rfl, by decide⟩
    · exact ⟨4, rfl, by decide⟩
    · exact ⟨9, rfl, by decide⟩
  have hr := rng_ok (n := m) (by omega)
  -- the posts
  obtain ⟨ρ1, l1, K, Bs, ms3, s6, s9, rfl, P3, eK, nB, hB⟩ := for_all (ft := gNm 6) (fb := b1__law_world) (fun j ρ => ∃ (K : List Bool) (Bs : List (List Bool)) (ms : List PyData) (s6 s9 : Sl), ρ = [.m ms, .d (.int most), .d (.int m), .d (.int o), .d (.list pairs6), .m (boolsD K), s6, .un, .un, s9, .un, .un, .un, .un, .un] ∧
    Pot (k + 2 + j) ms ∧ K = Bs.flatten ∧ Bs.length = j ∧ ∀ B ∈ Bs, B ∈ six) (ups 0 m) 0 [.m ms2, .d (.int most), .d (.int m), .d (.int o), .d (.list pairs6), .m (boolsD []), .un, .un, .un, .un, .un, .un, .un, .un, .un]
    ⟨[], [], ms2, .un, .un, rfl, P2.wide (by omega), rfl, rfl, fun B h => nomatch h⟩ fun j d ρ hj ⟨K, Bs, ms, s6, s9, eρ, P, eK, nB, hB⟩ => by
      subst eρ
      have hjm : j < m := by
        have := (List.getElem?_eq_some_iff.mp hj).1
        rwa [Tw.ups_len] at this
      have kl := flat_len hB
      rw [← eK, nB] at kl
      obtain ⟨ms', B, s9', e, P', h6⟩ := world_post (most := .int most) (m := .int m) (o := .int o) (s6 := .d d) (s7 := .un) (s8 := .un) (s9 := s9) (s10 := .un) (s11 := .un) (s13 := .un) (s14 := .un) (K := K) P (by omega) (by omega)
      refine ⟨_, _, rfl, e, K ++ B, Bs ++ [B], ms', .d d, s9', rfl, P'.wide (by omega), ?_, ?_, ?_⟩
      · rw [eK, List.flatten_append, List.flatten_singleton]
      · rw [List.length_append, nB]
        rfl
      · intro C hC
        rcases List.mem_append.mp hC with h | h
        · exact hB C h
        · rw [List.mem_singleton.mp h]
          exact h6
  rw [Tw.ups_len, Nat.zero_add] at P3 nB
  have hK : K.length = 4 * m := by
    have := flat_len hB
    rw [← eK, nB] at this
    exact this
  -- the kinds
  obtain ⟨ms4, V1, t1, k1, P4, p1, o1, n1, q1⟩ := world_kind (most := .int most) (pairs := .list pairs6) (b := true) (s6 := s6) (s9 := s9) (s10 := .un) (s11 := .un) (s12 := .un) (s13 := .un) (s14 := .un) (W := []) ho hK (by omega) P3 (by omega) (by decide) (.inl rfl)
  rw [List.nil_append] at k1
  obtain ⟨ms5, V2, t2, k2, P5, p2, o2, n2, q2⟩ := world_kind (most := .int most) (pairs := .list pairs6) (b := false) (s6 := s6) (s9 := s9) (s10 := .m (.l [])) (s11 := t1) (s12 := .un) (s13 := .un) (s14 := .un) (W := V1.map wayD) ho hK (by omega) P4 (by omega) (by rw [List.length_map]; omega) q1
  rw [← List.map_append] at k2
  obtain ⟨S, es, ps, rs⟩ := ways_sorted (V1 ++ V2)
  have pf : (flatW S).Perm ((List.range (4 * m)).map fun i : Nat => (i : Int)) := by
    refine (flatW_perm ps).trans ?_
    rw [flatW_app, ← hK]
    exact (p1.append p2).trans (hands_both K)
  have nS : S.length ≤ 1000 := by
    rw [ps.length_eq, List.length_append]
    omega
  have D : Drawn most m Bs S := ⟨by omega, nB, hB, pf, fun w hw g e => by
    rcases List.mem_append.mp (ps.mem_iff.mp hw) with h | h
    · exact o1 w h g e
    · exact o2 w h g e, first_lt pf rs, by
    rw [← eK]
    have f1 : V1.filter (fun w => K[w.1.toNat]? == some true) = V1 := List.filter_eq_self.mpr fun w hw => kind_of p1 hw
    have f2 : V2.filter (fun w => K[w.1.toNat]? == some true) = [] := List.filter_eq_nil_iff.mpr fun w hw z => by
      have := kind_of p2 hw
      rw [eq_of_beq z] at this
      cases this
    refine (flatW_perm (ps.filter _)).trans ?_
    rw [List.filter_append, f1, f2, List.append_nil]
    exact p1⟩
  refine ⟨m, Bs, S, ms5, ?_, D, P5.wide (by omega)⟩
  -- the painting
  have sz : Tw.sizeOk (enumD (S.map wayD)).length = true := by
    refine decide_eq_true ?_
    unfold enumD prs
    rw [List.length_map, List.length_zip, Tw.ups_len, List.length_map]
    omega
  have lc : lcF (gTp [gNm 13, gNm 14]) (fTst (fBin ixD (fVar 5) (fBin ixD (fVar 14) (Tw.ret (.int 0))))) (fVar 13) [13, 14] (enumD (S.map wayD)) [.m ms5, .d (.int most), .d (.int m), .d (.int o), .d (.list pairs6), .d (.list (boolsD K)), s6, .d (.list (S.map wayD)), .d (.bool false), s9, .m (.l []), t2, .un, .un, .un] =
      some (paintD K S, [.m ms5, .d (.int most), .d (.int m), .d (.int o), .d (.list pairs6), .d (.list (boolsD K)), s6, .d (.list (S.map wayD)), .d (.bool false), s9, .m (.l []), t2, .un, .un, .un]) := by
    refine lc_map (pickP K) _ fun d hd => ?_
    obtain ⟨i, hi⟩ := List.mem_iff_getElem?.mp hd
    obtain ⟨a, b, h1, h2, rfl⟩ := prs_get hi
    have ea := ups_get h1
    subst ea
    rw [List.getElem?_map] at h2
    obtain ⟨w, hw, rfl⟩ := Option.map_eq_some_iff.mp h2
    obtain ⟨l, el⟩ := wayD_tup w
    have hm := pf.mem_iff.mp (mem_flat (List.mem_of_getElem? hw))
    obtain ⟨q, hq, eq⟩ := List.mem_map.mp hm
    have hq : q < K.length := by rw [hK]; exact List.mem_range.mp hq
    have ix : ixD (.list (boolsD K)) (.int w.1) = some (.bool K[q]) := by
      rw [← eq]
      exact ixLn (boolsD_get hq)
    have pg : pickP K (.tuple [.int (0 + (i : Int)), wayD w]) = if K[q] = true then some (.int (0 + (i : Int))) else none := by
      rw [el]
      show (if K[w.1.toNat]? = some true then _ else _) = _
      rw [← eq]
      show (if K[q]? = some true then _ else _) = _
      rw [List.getElem?_eq_getElem hq]
      cases K[q] <;> rfl
    refine ⟨[.m ms5, .d (.int most), .d (.int m), .d (.int o), .d (.list pairs6), .d (.list (boolsD K)), s6, .d (.list (S.map wayD)), .d (.bool false), s9, .m (.l []), t2, .un, .d (.int (0 + (i : Int))), .d (wayD w)], [.m ms5, .d (.int most), .d (.int m), .d (.int o), .d (.list pairs6), .d (.list (boolsD K)), s6, .d (.list (S.map wayD)), .d (.bool false), s9, .m (.l []), t2, .un, .d (.int (0 + (i : Int))), .d (wayD w)], ?_, ?_, fun _ => rfl, fun e he => ⟨[.m ms5, .d (.int most), .d (.int m), .d (.int o), .d (.list pairs6), .d (.list (boolsD K)), s6, .d (.list (S.map wayD)), .d (.bool false), s9, .m (.l []), t2, .un, .d (.int (0 + (i : Int))), .d (wayD w)], ?_, rfl⟩⟩
    · simp -implicitDefEqProofs only [eq_self, r_thn, r_tk, r_tk0, r_ret, r_lift, r_lift0, r_var, r_vk, r_bin, r_un, r_nil, r_cons, r_tup, r_of, r_call, r_tst, r_kt, r_ikT, r_ikF, r_ite, r_if, r_ife, r_and, r_or, r_not, r_vand, r_vor, r_vnot, r_chain, r_hkT, r_hkF, r_part, r_ok, r_sl, r_seq, r_skN, r_skR, r_skF, r_skB, r_skC, r_next, r_retS, r_rk, r_retF, r_rfk, r_drop, r_dk, r_asg, r_gk, r_gk2, gNm, r_tp, r_gs, r_qk, r_gs0, r_froz, r_frk, r_cmk, r_setI, r_stk, r_stk2, r_sti, r_pl, r_stj, r_aug, r_aug1, r_aug2, r_aug3, r_opN, r_par, r_prk, r_callN, r_tupRg, and_self, ixN0, ixN1, ixN2, r_peek, r_pk, r_pkI, r_pkB, r_pkS, r_pkN, r_tpeek, r_bk1, r_bk2, r_frz, r_fzk, r_own, owk, r_frkK, r_ownK, r_ixEd, r_ixEt, r_ixEl, r_inK, r_ninK, r_mk4, r_mk3, r_met, r_mk2, r_callM, r_mk2b, r_callM1, r_lenIs, r_callF, r_mat, r_mtk, r_mEnd, r_mCase, r_for, r_lk, r_items, r_itL, r_itT, r_rng, r_enum, r_zipM, zipM_ok, r_star, starL_ok, starT_ok, enumL_ok, enumT_ok, for_nil, r_lc, r_lck2, lc_nil, r_outM, r_outMn, r_outM1, r_outM1n, r_outD, r_outDf, r_outDn, r_outF, ixL0, ixL1, ixL2, ixT0, ixT1, ixT2, addI_ok, subI_ok, gtI_ok, geI_ok, leI_ok, ltI_ok, lenL_ok, lenT_ok, abs_ok, intB_ok, List.getElem?_cons_zero, List.getElem?_cons_succ, List.length_cons, List.length_nil, List.set_cons_zero, List.set_cons_succ, List.map_cons, List.map_nil, List.cons_append, List.nil_append, List.replicate_succ, List.replicate_zero, Nat.reduceAdd, Nat.reduceSub, Nat.reduceLT, Nat.reduceEqDiff, Option.bind_some, Option.bind_none, Option.map_some, Option.map_none, if_true, if_false, ite_true, ite_false, ↓reduceIte, Bool.not_true, Bool.not_false]
    · rw [pg, el]
      simp -implicitDefEqProofs only [eq_self, r_thn, r_tk, r_tk0, r_ret, r_lift, r_lift0, r_var, r_vk, r_bin, r_un, r_nil, r_cons, r_tup, r_of, r_call, r_tst, r_kt, r_ikT, r_ikF, r_ite, r_if, r_ife, r_and, r_or, r_not, r_vand, r_vor, r_vnot, r_chain, r_hkT, r_hkF, r_part, r_ok, r_sl, r_seq, r_skN, r_skR, r_skF, r_skB, r_skC, r_next, r_retS, r_rk, r_retF, r_rfk, r_drop, r_dk, r_asg, r_gk, r_gk2, gNm, r_tp, r_gs, r_qk, r_gs0, r_froz, r_frk, r_cmk, r_setI, r_stk, r_stk2, r_sti, r_pl, r_stj, r_aug, r_aug1, r_aug2, r_aug3, r_opN, r_par, r_prk, r_callN, r_tupRg, and_self, ixN0, ixN1, ixN2, r_peek, r_pk, r_pkI, r_pkB, r_pkS, r_pkN, r_tpeek, r_bk1, r_bk2, r_frz, r_fzk, r_own, owk, r_frkK, r_ownK, r_ixEd, r_ixEt, r_ixEl, r_inK, r_ninK, r_mk4, r_mk3, r_met, r_mk2, r_callM, r_mk2b, r_callM1, r_lenIs, r_callF, r_mat, r_mtk, r_mEnd, r_mCase, r_for, r_lk, r_items, r_itL, r_itT, r_rng, r_enum, r_zipM, zipM_ok, r_star, starL_ok, starT_ok, enumL_ok, enumT_ok, for_nil, r_lc, r_lck2, lc_nil, r_outM, r_outMn, r_outM1, r_outM1n, r_outD, r_outDf, r_outDn, r_outF, ixL0, ixL1, ixL2, ixT0, ixT1, ixT2, addI_ok, subI_ok, gtI_ok, geI_ok, leI_ok, ltI_ok, lenL_ok, lenT_ok, abs_ok, intB_ok, List.getElem?_cons_zero, List.getElem?_cons_succ, List.length_cons, List.length_nil, List.set_cons_zero, List.set_cons_succ, List.map_cons, List.map_nil, List.cons_append, List.nil_append, List.replicate_succ, List.replicate_zero, Nat.reduceAdd, Nat.reduceSub, Nat.reduceLT, Nat.reduceEqDiff, Option.bind_some, Option.bind_none, Option.map_some, Option.map_none, if_true, if_false, ite_true, ite_false, ↓reduceIte, Bool.not_true, Bool.not_false, ix]
      cases K[q] <;> rfl
    · rw [pg] at he
      by_cases h : K[q] = true
      · rw [if_pos h] at he
        cases he
        simp -implicitDefEqProofs only [eq_self, r_thn, r_tk, r_tk0, r_ret, r_lift, r_lift0, r_var, r_vk, r_bin, r_un, r_nil, r_cons, r_tup, r_of, r_call, r_tst, r_kt, r_ikT, r_ikF, r_ite, r_if, r_ife, r_and, r_or, r_not, r_vand, r_vor, r_vnot, r_chain, r_hkT, r_hkF, r_part, r_ok, r_sl, r_seq, r_skN, r_skR, r_skF, r_skB, r_skC, r_next, r_retS, r_rk, r_retF, r_rfk, r_drop, r_dk, r_asg, r_gk, r_gk2, gNm, r_tp, r_gs, r_qk, r_gs0, r_froz, r_frk, r_cmk, r_setI, r_stk, r_stk2, r_sti, r_pl, r_stj, r_aug, r_aug1, r_aug2, r_aug3, r_opN, r_par, r_prk, r_callN, r_tupRg, and_self, ixN0, ixN1, ixN2, r_peek, r_pk, r_pkI, r_pkB, r_pkS, r_pkN, r_tpeek, r_bk1, r_bk2, r_frz, r_fzk, r_own, owk, r_frkK, r_ownK, r_ixEd, r_ixEt, r_ixEl, r_inK, r_ninK, r_mk4, r_mk3, r_met, r_mk2, r_callM, r_mk2b, r_callM1, r_lenIs, r_callF, r_mat, r_mtk, r_mEnd, r_mCase, r_for, r_lk, r_items, r_itL, r_itT, r_rng, r_enum, r_zipM, zipM_ok, r_star, starL_ok, starT_ok, enumL_ok, enumT_ok, for_nil, r_lc, r_lck2, lc_nil, r_outM, r_outMn, r_outM1, r_outM1n, r_outD, r_outDf, r_outDn, r_outF, ixL0, ixL1, ixL2, ixT0, ixT1, ixT2, addI_ok, subI_ok, gtI_ok, geI_ok, leI_ok, ltI_ok, lenL_ok, lenT_ok, abs_ok, intB_ok, List.getElem?_cons_zero, List.getElem?_cons_succ, List.length_cons, List.length_nil, List.set_cons_zero, List.set_cons_succ, List.map_cons, List.map_nil, List.cons_append, List.nil_append, List.replicate_succ, List.replicate_zero, Nat.reduceAdd, Nat.reduceSub, Nat.reduceLT, Nat.reduceEqDiff, Option.bind_some, Option.bind_none, Option.map_some, Option.map_none, if_true, if_false, ite_true, ite_false, ↓reduceIte, Bool.not_true, Bool.not_false]
      · rw [if_neg h] at he
        cases he
  have k3 : forF (gNm 8) b3__law_world [.bool true, .bool false] [.m ms3, .d (.int most), .d (.int m), .d (.int o), .d (.list pairs6), .d (.list (boolsD K)), s6, .m (.l []), .un, s9, .un, .un, .un, .un, .un] =
      some (.nx [.m ms5, .d (.int most), .d (.int m), .d (.int o), .d (.list pairs6), .d (.list (boolsD K)), s6, .m (.l ((V1 ++ V2).map wayD)), .d (.bool false), s9, .m (.l []), t2, .un, .un, .un]) := by
    rw [for_nx (ρ1 := [.m ms3, .d (.int most), .d (.int m), .d (.int o), .d (.list pairs6), .d (.list (boolsD K)), s6, .m (.l []), .d (.bool true), s9, .un, .un, .un, .un, .un]) rfl k1,
      for_nx (ρ1 := [.m ms4, .d (.int most), .d (.int m), .d (.int o), .d (.list pairs6), .d (.list (boolsD K)), s6, .m (V1.map wayD), .d (.bool false), s9, .m (.l []), t1, .un, .un, .un]) rfl k2]
    rfl
  have b0 : boolsD [] = [] := rfl
  rw [b0] at l1
  have s6' : Tw.sizeOk 6 = true := rfl
  have tl : ∀ ds : List PyData, tupleD [.list ds] = some (.tuple ds) := fun _ => rfl
  rw [← eK]
  simp only [pairs6] at l1 k3 lc
  unfold g__law_world runM f__law_world
  simp -implicitDefEqProofs only [eq_self, r_thn, r_tk, r_tk0, r_ret, r_lift, r_lift0, r_var, r_vk, r_bin, r_un, r_nil, r_cons, r_tup, r_of, r_call, r_tst, r_kt, r_ikT, r_ikF, r_ite, r_if, r_ife, r_and, r_or, r_not, r_vand, r_vor, r_vnot, r_chain, r_hkT, r_hkF, r_part, r_ok, r_sl, r_seq, r_skN, r_skR, r_skF, r_skB, r_skC, r_next, r_retS, r_rk, r_retF, r_rfk, r_drop, r_dk, r_asg, r_gk, r_gk2, gNm, r_tp, r_gs, r_qk, r_gs0, r_froz, r_frk, r_cmk, r_setI, r_stk, r_stk2, r_sti, r_pl, r_stj, r_aug, r_aug1, r_aug2, r_aug3, r_opN, r_par, r_prk, r_callN, r_tupRg, and_self, ixN0, ixN1, ixN2, r_peek, r_pk, r_pkI, r_pkB, r_pkS, r_pkN, r_tpeek, r_bk1, r_bk2, r_frz, r_fzk, r_own, owk, r_frkK, r_ownK, r_ixEd, r_ixEt, r_ixEl, r_inK, r_ninK, r_mk4, r_mk3, r_met, r_mk2, r_callM, r_mk2b, r_callM1, r_lenIs, r_callF, r_mat, r_mtk, r_mEnd, r_mCase, r_for, r_lk, r_items, r_itL, r_itT, r_rng, r_enum, r_zipM, zipM_ok, r_star, starL_ok, starT_ok, enumL_ok, enumT_ok, for_nil, r_lc, r_lck2, lc_nil, r_outM, r_outMn, r_outM1, r_outM1n, r_outD, r_outDf, r_outDn, r_outF, ixL0, ixL1, ixL2, ixT0, ixT1, ixT2, addI_ok, subI_ok, gtI_ok, geI_ok, leI_ok, ltI_ok, lenL_ok, lenT_ok, abs_ok, intB_ok, List.getElem?_cons_zero, List.getElem?_cons_succ, List.length_cons, List.length_nil, List.set_cons_zero, List.set_cons_succ, List.map_cons, List.map_nil, List.cons_append, List.nil_append, List.replicate_succ, List.replicate_zero, Nat.reduceAdd, Nat.reduceSub, Nat.reduceLT, Nat.reduceEqDiff, Option.bind_some, Option.bind_none, Option.map_some, Option.map_none, if_true, if_false, ite_true, ite_false, ↓reduceIte, Bool.not_true, Bool.not_false, e1, e2, s4, eo, s0, s2, s6', hr, l1, k3, es, tl, r_lck sz, wipeR, lc, backR]
  rfl
end Lw

set_option Elab.async false
set_option linter.all false
set_option maxRecDepth 100000
set_option maxHeartbeats 4000000
namespace Lw
open PySem PySem.Spec PyProof.Rows L2 Tw
/-! ### the program's look at a web, step by step -/
/-- a number or a truth, as a number -/
def numV : PyData → Option Int
  | .int i => some i
  | .bool b => some (bI b)
  | _ => none
def isN : PyData → Bool
  | .none => true
  | _ => false
theorem eqv_num (a : PyData) (u : Int) : PyData.eqv a (.int u) = decide (numV a = some u) := by
  cases a with
  | bool b => simp [PyData.eqv, numV, bI]; cases b <;> rfl
  | int i => simp [PyData.eqv, numV]; rfl
  | _ => simp [PyData.eqv, numV]
theorem ne_num (a : PyData) (u : Int) : neD a (.int u) = some (.bool (!decide (numV a = some u))) := by
  have h : unlen a (.int u) = false := by cases a <;> rfl
  unfold neD
  rw [h, eqv_num]
  cases hc : (flatOk a && flatOk (.int u)) with
  | true => rfl
  | false => rfl
theorem eq_num (a : PyData) (u : Int) : eqD a (.int u) = some (.bool (decide (numV a = some u))) := by
  have h : unlen a (.int u) = false := by cases a <;> rfl
  unfold eqD
  rw [h, eqv_num]
  cases hc : (flatOk a && flatOk (.int u)) with
  | true => rfl
  | false => rfl
theorem eqI2 (i j : Int) : eqD (.int i) (.int j) = some (.bool (i == j)) := rfl
theorem isInt_num {a : PyData} : isiD "int" a = some (.bool (numV a).isSome) := by cases a <;> rfl
theorem ge_num {a : PyData} {i u : Int} (h : numV a = some i) : geI a (.int u) = some (.bool (decide (u ≤ i))) := by
  cases a <;> first | (cases h; rfl) | (cases h; done)
theorem gt_num {a : PyData} {i u : Int} (h : numV a = some i) : gtI a (.int u) = some (.bool (decide (u < i))) := by
  cases a <;> first | (cases h; rfl) | (cases h; done)
theorem lt_num {a b : PyData} {i j : Int} (h : numV a = some i) (h' : numV b = some j) : ltD a b = some (.bool (decide (i < j))) := by
  cases a <;> first | (cases h; done) | (cases h; cases b <;> first | (cases h'; done) | (cases h'; rfl))
theorem add_num {a : PyData} {i : Int} (h : numV a = some i) : addD a (.int 1) = some (.int (i + 1)) := by
  cases a <;> first | (cases h; rfl) | (cases h; done)
theorem pl_num {a : PyData} {j n : Nat} (h : numV a = some (j : Int)) (hj : j < n) : plI n a = some j := by
  cases a with
  | int i =>
    cases h
    exact Evl.ixN_nat hj
  | bool b =>
    have e : bI b = (j : Int) := Option.some.inj h
    show (if (bI b).toNat < n then some (bI b).toNat else none) = some j
    rw [e]
    exact if_pos hj
  | _ => cases h
theorem atom_num {x : PyData} (h : x = .none ∨ ∃ i, numV x = some i) : atom x = true := by
  rcases h with rfl | ⟨i, h⟩
  · rfl
  · cases x <;> first | rfl | (cases h; done)
theorem pk2_atom {ρ ρ1 : Rho} {x : PyData} (h : atom x = true) : pk2 ρ (some (x, ρ1)) = some (x, ρ) := if_pos h
theorem notN_num {x : PyData} {i : Int} (h : numV x = some i) : isN x = false := by cases x <;> first | rfl | (cases h; done)
theorem notNone_ok (x : PyData) : notNoneD x .none = some (.bool (!isN x)) := by cases x <;> rfl
theorem isNone_ok (x : PyData) : isNoneD x .none = some (.bool (isN x)) := by cases x <;> rfl
theorem isN_eq {x : PyData} (h : isN x = true) : x = .none := by cases x <;> first | rfl | cases h
def isBo : PyData → Bool
  | .bool _ => true
  | _ => false
theorem isBo_ok (d : PyData) : isiD "bool" d = some (.bool (isBo d)) := by cases d <;> rfl
/-- what a way makes of the table, of the ends, of the least hand that may be next -/
def stepW (M : Nat) (B E : List PyData) (l : Nat) : PyData → Option (List PyData × List PyData × Nat)
  | .tuple [a, b] => (numV a).bind fun i => (numV b).bind fun j => if (l : Int) ≤ i ∧ i < j ∧ j < (M : Int) then some ((B.set i.toNat b).set j.toNat a, E, i.toNat + 1) else none
  | .tuple [a] => (numV a).bind fun i => if (l : Int) ≤ i ∧ i < (M : Int) then some (B.set i.toNat a, E ++ [a], i.toNat + 1) else none
  | _ => none
theorem turn_ok {t s6 s7 s8 s9 s10 : Sl} {M l : Nat} {B E : List PyData} (hl : B.length = M) (hE : E.length < 90000) (w : PyData) :
    (∀ B' E' l', stepW M B E l w = some (B', E', l') → ∃ s9' s10', b1_hands_across [t, .d (.int (M : Int)), .m (.l B), .m (.l E), .d (.int (l : Int)), .d w, s6, s7, s8, s9, s10] = some (.ct [t, .d (.int (M : Int)), .m (.l B'), .m (.l E'), .d (.int (l' : Int)), .d w, s6, s7, s8, s9', s10'])) ∧
    (stepW M B E l w = none → ∃ ρ, b1_hands_across [t, .d (.int (M : Int)), .m (.l B), .m (.l E), .d (.int (l : Int)), .d w, s6, s7, s8, s9, s10] = some (.rt .none ρ)) := by
  have no : isiD "tuple" w = some (.bool false) → ∃ ρ, b1_hands_across [t, .d (.int (M : Int)), .m (.l B), .m (.l E), .d (.int (l : Int)), .d w, s6, s7, s8, s9, s10] = some (.rt .none ρ) := fun q1 => by
    refine ⟨[t, .d (.int (M : Int)), .m (.l B), .m (.l E), .d (.int (l : Int)), .d w, s6, s7, s8, s9, s10], ?_⟩
    unfold b1_hands_across
    simp -implicitDefEqProofs only [eq_self, r_thn, r_tk, r_tk0, r_ret, r_lift, r_lift0, r_var, r_vk, r_bin, r_un, r_nil, r_cons, r_tup, r_of, r_call, r_tst, r_kt, r_ikT, r_ikF, r_ite, r_if, r_ife, r_and, r_or, r_not, r_vand, r_vor, r_vnot, r_chain, r_hkT, r_hkF, r_part, r_ok, r_sl, r_seq, r_skN, r_skR, r_skF, r_skB, r_skC, r_next, r_retS, r_rk, r_retF, r_rfk, r_drop, r_dk, r_asg, r_gk, r_gk2, gNm, r_tp, r_gs, r_qk, r_gs0, r_froz, r_frk, r_cmk, r_setI, r_stk, r_stk2, r_sti, r_pl, r_stj, r_aug, r_aug1, r_aug2, r_aug3, r_opN, r_par, r_prk, r_callN, r_tupRg, and_self, ixN0, ixN1, ixN2, r_peek, r_pk, r_pkI, r_pkB, r_pkS, r_pkN, r_tpeek, r_bk1, r_bk2, r_frz, r_fzk, r_own, owk, r_frkK, r_ownK, r_ixEd, r_ixEt, r_ixEl, r_inK, r_ninK, r_mk4, r_mk3, r_met, r_mk2, r_callM, r_mk2b, r_callM1, r_lenIs, r_callF, r_mat, r_mtk, r_mEnd, r_mCase, r_for, r_lk, r_items, r_itL, r_itT, r_rng, r_enum, r_zipM, zipM_ok, r_star, starL_ok, starT_ok, enumL_ok, enumT_ok, for_nil, r_lc, r_lck2, lc_nil, r_outM, r_outMn, r_outM1, r_outM1n, r_outD, r_outDf, r_outDn, r_outF, ixL0, ixL1, ixL2, ixT0, ixT1, ixT2, addI_ok, subI_ok, gtI_ok, geI_ok, leI_ok, ltI_ok, lenL_ok, lenT_ok, abs_ok, intB_ok, List.getElem?_cons_zero, List.getElem?_cons_succ, List.length_cons, List.length_nil, List.set_cons_zero, List.set_cons_succ, List.map_cons, List.map_nil, List.cons_append, List.nil_append, List.replicate_succ, List.replicate_zero, Nat.reduceAdd, Nat.reduceSub, Nat.reduceLT, Nat.reduceEqDiff, Option.bind_some, Option.bind_none, Option.map_some, Option.map_none, if_true, if_false, ite_true, ite_false, ↓reduceIte, Bool.not_true, Bool.not_false, q1]
  cases w with
  | tuple ds =>
    have q1 : isiD "tuple" (.tuple ds) = some (.bool true) := rfl
    match ds, q1 with
    | [], q1 =>
      refine ⟨fun _ _ _ h => (by cases h), fun _ => ⟨[t, .d (.int (M : Int)), .m (.l B), .m (.l E), .d (.int (l : Int)), .d (.tuple []), s6, s7, s8, s9, s10], ?_⟩⟩
      unfold b1_hands_across
      simp -implicitDefEqProofs only [eq_self, r_thn, r_tk, r_tk0, r_ret, r_lift, r_lift0, r_var, r_vk, r_bin, r_un, r_nil, r_cons, r_tup, r_of, r_call, r_tst, r_kt, r_ikT, r_ikF, r_ite, r_if, r_ife, r_and, r_or, r_not, r_vand, r_vor, r_vnot, r_chain, r_hkT, r_hkF, r_part, r_ok, r_sl, r_seq, r_skN, r_skR, r_skF, r_skB, r_skC, r_next, r_retS, r_rk, r_retF, r_rfk, r_drop, r_dk, r_asg, r_gk, r_gk2, gNm, r_tp, r_gs, r_qk, r_gs0, r_froz, r_frk, r_cmk, r_setI, r_stk, r_stk2, r_sti, r_pl, r_stj, r_aug, r_aug1, r_aug2, r_aug3, r_opN, r_par, r_prk, r_callN, r_tupRg, and_self, ixN0, ixN1, ixN2, r_peek, r_pk, r_pkI, r_pkB, r_pkS, r_pkN, r_tpeek, r_bk1, r_bk2, r_frz, r_fzk, r_own, owk, r_frkK, r_ownK, r_ixEd, r_ixEt, r_ixEl, r_inK, r_ninK, r_mk4, r_mk3, r_met, r_mk2, r_callM, r_mk2b, r_callM1, r_lenIs, r_callF, r_mat, r_mtk, r_mEnd, r_mCase, r_for, r_lk, r_items, r_itL, r_itT, r_rng, r_enum, r_zipM, zipM_ok, r_star, starL_ok, starT_ok, enumL_ok, enumT_ok, for_nil, r_lc, r_lck2, lc_nil, r_outM, r_outMn, r_outM1, r_outM1n, r_outD, r_outDf, r_outDn, r_outF, ixL0, ixL1, ixL2, ixT0, ixT1, ixT2, addI_ok, subI_ok, gtI_ok, geI_ok, leI_ok, ltI_ok, lenL_ok, lenT_ok, abs_ok, intB_ok, List.getElem?_cons_zero, List.getElem?_cons_succ, List.length_cons, List.length_nil, List.set_cons_zero, List.set_cons_succ, List.map_cons, List.map_nil, List.cons_append, List.nil_append, List.replicate_succ, List.replicate_zero, Nat.reduceAdd, Nat.reduceSub, Nat.reduceLT, Nat.reduceEqDiff, Option.bind_some, Option.bind_none, Option.map_some, Option.map_none, if_true, if_false, ite_true, ite_false, ↓reduceIte, Bool.not_true, Bool.not_false, q1, show ((0 : Nat) = 2) = False from by decide, show ((0 : Nat) = 1) = False from by decide]
    | a :: b :: c :: r, q1 =>
      refine ⟨fun _ _ _ h => (by cases h), fun _ => ⟨[t, .d (.int (M : Int)), .m (.l B), .m (.l E), .d (.int (l : Int)), .d (.tuple (a :: b :: c :: r)), s6, s7, s8, s9, s10], ?_⟩⟩
      unfold b1_hands_across
      simp -implicitDefEqProofs only [eq_self, r_thn, r_tk, r_tk0, r_ret, r_lift, r_lift0, r_var, r_vk, r_bin, r_un, r_nil, r_cons, r_tup, r_of, r_call, r_tst, r_kt, r_ikT, r_ikF, r_ite, r_if, r_ife, r_and, r_or, r_not, r_vand, r_vor, r_vnot, r_chain, r_hkT, r_hkF, r_part, r_ok, r_sl, r_seq, r_skN, r_skR, r_skF, r_skB, r_skC, r_next, r_retS, r_rk, r_retF, r_rfk, r_drop, r_dk, r_asg, r_gk, r_gk2, gNm, r_tp, r_gs, r_qk, r_gs0, r_froz, r_frk, r_cmk, r_setI, r_stk, r_stk2, r_sti, r_pl, r_stj, r_aug, r_aug1, r_aug2, r_aug3, r_opN, r_par, r_prk, r_callN, r_tupRg, and_self, ixN0, ixN1, ixN2, r_peek, r_pk, r_pkI, r_pkB, r_pkS, r_pkN, r_tpeek, r_bk1, r_bk2, r_frz, r_fzk, r_own, owk, r_frkK, r_ownK, r_ixEd, r_ixEt, r_ixEl, r_inK, r_ninK, r_mk4, r_mk3, r_met, r_mk2, r_callM, r_mk2b, r_callM1, r_lenIs, r_callF, r_mat, r_mtk, r_mEnd, r_mCase, r_for, r_lk, r_items, r_itL, r_itT, r_rng, r_enum, r_zipM, zipM_ok, r_star, starL_ok, starT_ok, enumL_ok, enumT_ok, for_nil, r_lc, r_lck2, lc_nil, r_outM, r_outMn, r_outM1, r_outM1n, r_outD, r_outDf, r_outDn, r_outF, ixL0, ixL1, ixL2, ixT0, ixT1, ixT2, addI_ok, subI_ok, gtI_ok, geI_ok, leI_ok, ltI_ok, lenL_ok, lenT_ok, abs_ok, intB_ok, List.getElem?_cons_zero, List.getElem?_cons_succ, List.length_cons, List.length_nil, List.set_cons_zero, List.set_cons_succ, List.map_cons, List.map_nil, List.cons_append, List.nil_append, List.replicate_succ, List.replicate_zero, Nat.reduceAdd, Nat.reduceSub, Nat.reduceLT, Nat.reduceEqDiff, Option.bind_some, Option.bind_none, Option.map_some, Option.map_none, if_true, if_false, ite_true, ite_false, ↓reduceIte, Bool.not_true, Bool.not_false, q1, show ∀ n : Nat, (n + 1 + 1 + 1 = 2) = False from fun n => eq_false (by omega), show ∀ n : Nat, (n + 1 + 1 + 1 = 1) = False from fun n => eq_false (by omega)]
    | [a], q1 =>
      have sw : stepW M B E l (.tuple [a]) = (numV a).bind fun i => if (l : Int) ≤ i ∧ i < (M : Int) then some (B.set i.toNat a, E ++ [a], i.toNat + 1) else none := rfl
      have fin : ∀ {x : Option Out}, x = some (.rt .none [t, .d (.int (M : Int)), .m (.l B), .m (.l E), .d (.int (l : Int)), .d (.tuple [a]), s6, s7, s8, .d a, s10]) → ∃ ρ, x = some (.rt .none ρ) := fun h => ⟨_, h⟩
      have n12 : ((1 : Nat) = 2) = False := by decide
      cases ha : numV a with
      | none =>
        rw [sw, ha]
        refine ⟨fun B' E' l' h => (by cases h), fun _ => fin ?_⟩
        have i1 : isiD "int" a = some (.bool false) := by rw [isInt_num, ha]; rfl
        unfold b1_hands_across
        simp -implicitDefEqProofs only [eq_self, r_thn, r_tk, r_tk0, r_ret, r_lift, r_lift0, r_var, r_vk, r_bin, r_un, r_nil, r_cons, r_tup, r_of, r_call, r_tst, r_kt, r_ikT, r_ikF, r_ite, r_if, r_ife, r_and, r_or, r_not, r_vand, r_vor, r_vnot, r_chain, r_hkT, r_hkF, r_part, r_ok, r_sl, r_seq, r_skN, r_skR, r_skF, r_skB, r_skC, r_next, r_retS, r_rk, r_retF, r_rfk, r_drop, r_dk, r_asg, r_gk, r_gk2, gNm, r_tp, r_gs, r_qk, r_gs0, r_froz, r_frk, r_cmk, r_setI, r_stk, r_stk2, r_sti, r_pl, r_stj, r_aug, r_aug1, r_aug2, r_aug3, r_opN, r_par, r_prk, r_callN, r_tupRg, and_self, ixN0, ixN1, ixN2, r_peek, r_pk, r_pkI, r_pkB, r_pkS, r_pkN, r_tpeek, r_bk1, r_bk2, r_frz, r_fzk, r_own, owk, r_frkK, r_ownK, r_ixEd, r_ixEt, r_ixEl, r_inK, r_ninK, r_mk4, r_mk3, r_met, r_mk2, r_callM, r_mk2b, r_callM1, r_lenIs, r_callF, r_mat, r_mtk, r_mEnd, r_mCase, r_for, r_lk, r_items, r_itL, r_itT, r_rng, r_enum, r_zipM, zipM_ok, r_star, starL_ok, starT_ok, enumL_ok, enumT_ok, for_nil, r_lc, r_lck2, lc_nil, r_outM, r_outMn, r_outM1, r_outM1n, r_outD, r_outDf, r_outDn, r_outF, ixL0, ixL1, ixL2, ixT0, ixT1, ixT2, addI_ok, subI_ok, gtI_ok, geI_ok, leI_ok, ltI_ok, lenL_ok, lenT_ok, abs_ok, intB_ok, List.getElem?_cons_zero, List.getElem?_cons_succ, List.length_cons, List.length_nil, List.set_cons_zero, List.set_cons_succ, List.map_cons, List.map_nil, List.cons_append, List.nil_append, List.replicate_succ, List.replicate_zero, Nat.reduceAdd, Nat.reduceSub, Nat.reduceLT, Nat.reduceEqDiff, Option.bind_some, Option.bind_none, Option.map_some, Option.map_none, if_true, if_false, ite_true, ite_false, ↓reduceIte, Bool.not_true, Bool.not_false, q1, n12, i1]
      | some i =>
        have i1 : isiD "int" a = some (.bool true) := by rw [isInt_num, ha]; rfl
        rw [sw, ha, Option.bind_some]
        by_cases h1 : (l : Int) ≤ i
        · have c1 : decide ((l : Int) ≤ i) = true := decide_eq_true h1
          by_cases h2 : i < (M : Int)
          · have c2 : decide (i < (M : Int)) = true := decide_eq_true h2
            rw [if_pos ⟨h1, h2⟩]
            refine ⟨fun B' E' l' h => ?_, fun h => by cases h⟩
            cases h
            obtain ⟨n, rfl⟩ : ∃ n : Nat, i = (n : Int) := ⟨i.toNat, by omega⟩
            have p1 : plI B.length a = some n := pl_num ha (by omega)
            have ap : appG E [a] = some (.none, E ++ [a]) := if_pos (by omega)
            refine ⟨.d a, s10, ?_⟩
            unfold b1_hands_across
            simp -implicitDefEqProofs only [eq_self, r_thn, r_tk, r_tk0, r_ret, r_lift, r_lift0, r_var, r_vk, r_bin, r_un, r_nil, r_cons, r_tup, r_of, r_call, r_tst, r_kt, r_ikT, r_ikF, r_ite, r_if, r_ife, r_and, r_or, r_not, r_vand, r_vor, r_vnot, r_chain, r_hkT, r_hkF, r_part, r_ok, r_sl, r_seq, r_skN, r_skR, r_skF, r_skB, r_skC, r_next, r_retS, r_rk, r_retF, r_rfk, r_drop, r_dk, r_asg, r_gk, r_gk2, gNm, r_tp, r_gs, r_qk, r_gs0, r_froz, r_frk, r_cmk, r_setI, r_stk, r_stk2, r_sti, r_pl, r_stj, r_aug, r_aug1, r_aug2, r_aug3, r_opN, r_par, r_prk, r_callN, r_tupRg, and_self, ixN0, ixN1, ixN2, r_peek, r_pk, r_pkI, r_pkB, r_pkS, r_pkN, r_tpeek, r_bk1, r_bk2, r_frz, r_fzk, r_own, owk, r_frkK, r_ownK, r_ixEd, r_ixEt, r_ixEl, r_inK, r_ninK, r_mk4, r_mk3, r_met, r_mk2, r_callM, r_mk2b, r_callM1, r_lenIs, r_callF, r_mat, r_mtk, r_mEnd, r_mCase, r_for, r_lk, r_items, r_itL, r_itT, r_rng, r_enum, r_zipM, zipM_ok, r_star, starL_ok, starT_ok, enumL_ok, enumT_ok, for_nil, r_lc, r_lck2, lc_nil, r_outM, r_outMn, r_outM1, r_outM1n, r_outD, r_outDf, r_outDn, r_outF, ixL0, ixL1, ixL2, ixT0, ixT1, ixT2, addI_ok, subI_ok, gtI_ok, geI_ok, leI_ok, ltI_ok, lenL_ok, lenT_ok, abs_ok, intB_ok, List.getElem?_cons_zero, List.getElem?_cons_succ, List.length_cons, List.length_nil, List.set_cons_zero, List.set_cons_succ, List.map_cons, List.map_nil, List.cons_append, List.nil_append, List.replicate_succ, List.replicate_zero, Nat.reduceAdd, Nat.reduceSub, Nat.reduceLT, Nat.reduceEqDiff, Option.bind_some, Option.bind_none, Option.map_some, Option.map_none, if_true, if_false, ite_true, ite_false, ↓reduceIte, Bool.not_true, Bool.not_false, q1, n12, i1, ge_num ha, c1, lt_num ha (show numV (.int (M : Int)) = some (M : Int) from rfl), c2, p1, ap, add_num ha]
            rfl
          · rw [if_neg fun z => h2 z.2]
            refine ⟨fun B' E' l' h => (by cases h), fun _ => fin ?_⟩
            have c2 : decide (i < (M : Int)) = false := decide_eq_false h2
            unfold b1_hands_across
            simp -implicitDefEqProofs only [eq_self, r_thn, r_tk, r_tk0, r_ret, r_lift, r_lift0, r_var, r_vk, r_bin, r_un, r_nil, r_cons, r_tup, r_of, r_call, r_tst, r_kt, r_ikT, r_ikF, r_ite, r_if, r_ife, r_and, r_or, r_not, r_vand, r_vor, r_vnot, r_chain, r_hkT, r_hkF, r_part, r_ok, r_sl, r_seq, r_skN, r_skR, r_skF, r_skB, r_skC, r_next, r_retS, r_rk, r_retF, r_rfk, r_drop, r_dk, r_asg, r_gk, r_gk2, gNm, r_tp, r_gs, r_qk, r_gs0, r_froz, r_frk, r_cmk, r_setI, r_stk, r_stk2, r_sti, r_pl, r_stj, r_aug, r_aug1, r_aug2, r_aug3, r_opN, r_par, r_prk, r_callN, r_tupRg, and_self, ixN0, ixN1, ixN2, r_peek, r_pk, r_pkI, r_pkB, r_pkS, r_pkN, r_tpeek, r_bk1, r_bk2, r_frz, r_fzk, r_own, owk, r_frkK, r_ownK, r_ixEd, r_ixEt, r_ixEl, r_inK, r_ninK, r_mk4, r_mk3, r_met, r_mk2, r_callM, r_mk2b, r_callM1, r_lenIs, r_callF, r_mat, r_mtk, r_mEnd, r_mCase, r_for, r_lk, r_items, r_itL, r_itT, r_rng, r_enum, r_zipM, zipM_ok, r_star, starL_ok, starT_ok, enumL_ok, enumT_ok, for_nil, r_lc, r_lck2, lc_nil, r_outM, r_outMn, r_outM1, r_outM1n, r_outD, r_outDf, r_outDn, r_outF, ixL0, ixL1, ixL2, ixT0, ixT1, ixT2, addI_ok, subI_ok, gtI_ok, geI_ok, leI_ok, ltI_ok, lenL_ok, lenT_ok, abs_ok, intB_ok, List.getElem?_cons_zero, List.getElem?_cons_succ, List.length_cons, List.length_nil, List.set_cons_zero, List.set_cons_succ, List.map_cons, List.map_nil, List.cons_append, List.nil_append, List.replicate_succ, List.replicate_zero, Nat.reduceAdd, Nat.reduceSub, Nat.reduceLT, Nat.reduceEqDiff, Option.bind_some, Option.bind_none, Option.map_some, Option.map_none, if_true, if_false, ite_true, ite_false, ↓reduceIte, Bool.not_true, Bool.not_false, q1, n12, i1, ge_num ha, c1, lt_num ha (show numV (.int (M : Int)) = some (M : Int) from rfl), c2]
        · rw [if_neg fun z => h1 z.1]
          refine ⟨fun B' E' l' h => (by cases h), fun _ => fin ?_⟩
          have c1 : decide ((l : Int) ≤ i) = false := decide_eq_false h1
          unfold b1_hands_across
          simp -implicitDefEqProofs only [eq_self, r_thn, r_tk, r_tk0, r_ret, r_lift, r_lift0, r_var, r_vk, r_bin, r_un, r_nil, r_cons, r_tup, r_of, r_call, r_tst, r_kt, r_ikT, r_ikF, r_ite, r_if, r_ife, r_and, r_or, r_not, r_vand, r_vor, r_vnot, r_chain, r_hkT, r_hkF, r_part, r_ok, r_sl, r_seq, r_skN, r_skR, r_skF, r_skB, r_skC, r_next, r_retS, r_rk, r_retF, r_rfk, r_drop, r_dk, r_asg, r_gk, r_gk2, gNm, r_tp, r_gs, r_qk, r_gs0, r_froz, r_frk, r_cmk, r_setI, r_stk, r_stk2, r_sti, r_pl, r_stj, r_aug, r_aug1, r_aug2, r_aug3, r_opN, r_par, r_prk, r_callN, r_tupRg, and_self, ixN0, ixN1, ixN2, r_peek, r_pk, r_pkI, r_pkB, r_pkS, r_pkN, r_tpeek, r_bk1, r_bk2, r_frz, r_fzk, r_own, owk, r_frkK, r_ownK, r_ixEd, r_ixEt, r_ixEl, r_inK, r_ninK, r_mk4, r_mk3, r_met, r_mk2, r_callM, r_mk2b, r_callM1, r_lenIs, r_callF, r_mat, r_mtk, r_mEnd, r_mCase, r_for, r_lk, r_items, r_itL, r_itT, r_rng, r_enum, r_zipM, zipM_ok, r_star, starL_ok, starT_ok, enumL_ok, enumT_ok, for_nil, r_lc, r_lck2, lc_nil, r_outM, r_outMn, r_outM1, r_outM1n, r_outD, r_outDf, r_outDn, r_outF, ixL0, ixL1, ixL2, ixT0, ixT1, ixT2, addI_ok, subI_ok, gtI_ok, geI_ok, leI_ok, ltI_ok, lenL_ok, lenT_ok, abs_ok, intB_ok, List.getElem?_cons_zero, List.getElem?_cons_succ, List.length_cons, List.length_nil, List.set_cons_zero, List.set_cons_succ, List.map_cons, List.map_nil, List.cons_append, List.nil_append, List.replicate_succ, List.replicate_zero, Nat.reduceAdd, Nat.reduceSub, Nat.reduceLT, Nat.reduceEqDiff, Option.bind_some, Option.bind_none, Option.map_some, Option.map_none, if_true, if_false, ite_true, ite_false, ↓reduceIte, Bool.not_true, Bool.not_false, q1, n12, i1, ge_num ha, c1]
    | [a, b], q1 =>
      have sw : stepW M B E l (.tuple [a, b]) = (numV a).bind fun i => (numV b).bind fun j => if (l : Int) ≤ i ∧ i < j ∧ j < (M : Int) then some ((B.set i.toNat b).set j.toNat a, E, i.toNat + 1) else none := rfl
      have fin : ∀ {x : Option Out}, x = some (.rt .none [t, .d (.int (M : Int)), .m (.l B), .m (.l E), .d (.int (l : Int)), .d (.tuple [a, b]), s6, s7, s8, .d a, .d b]) → ∃ ρ, x = some (.rt .none ρ) := fun h => ⟨_, h⟩
      have nM : numV (.int (M : Int)) = some (M : Int) := rfl
      cases ha : numV a with
      | none =>
        rw [sw, ha]
        refine ⟨fun B' E' l' h => (by cases h), fun _ => fin ?_⟩
        have i1 : isiD "int" a = some (.bool false) := by rw [isInt_num, ha]; rfl
        have c0 : decide (numV a = some (l : Int)) = false := decide_eq_false (by rw [ha]; exact fun z => nomatch z)
        unfold b1_hands_across
        simp -implicitDefEqProofs only [eq_self, r_thn, r_tk, r_tk0, r_ret, r_lift, r_lift0, r_var, r_vk, r_bin, r_un, r_nil, r_cons, r_tup, r_of, r_call, r_tst, r_kt, r_ikT, r_ikF, r_ite, r_if, r_ife, r_and, r_or, r_not, r_vand, r_vor, r_vnot, r_chain, r_hkT, r_hkF, r_part, r_ok, r_sl, r_seq, r_skN, r_skR, r_skF, r_skB, r_skC, r_next, r_retS, r_rk, r_retF, r_rfk, r_drop, r_dk, r_asg, r_gk, r_gk2, gNm, r_tp, r_gs, r_qk, r_gs0, r_froz, r_frk, r_cmk, r_setI, r_stk, r_stk2, r_sti, r_pl, r_stj, r_aug, r_aug1, r_aug2, r_aug3, r_opN, r_par, r_prk, r_callN, r_tupRg, and_self, ixN0, ixN1, ixN2, r_peek, r_pk, r_pkI, r_pkB, r_pkS, r_pkN, r_tpeek, r_bk1, r_bk2, r_frz, r_fzk, r_own, owk, r_frkK, r_ownK, r_ixEd, r_ixEt, r_ixEl, r_inK, r_ninK, r_mk4, r_mk3, r_met, r_mk2, r_callM, r_mk2b, r_callM1, r_lenIs, r_callF, r_mat, r_mtk, r_mEnd, r_mCase, r_for, r_lk, r_items, r_itL, r_itT, r_rng, r_enum, r_zipM, zipM_ok, r_star, starL_ok, starT_ok, enumL_ok, enumT_ok, for_nil, r_lc, r_lck2, lc_nil, r_outM, r_outMn, r_outM1, r_outM1n, r_outD, r_outDf, r_outDn, r_outF, ixL0, ixL1, ixL2, ixT0, ixT1, ixT2, addI_ok, subI_ok, gtI_ok, geI_ok, leI_ok, ltI_ok, lenL_ok, lenT_ok, abs_ok, intB_ok, List.getElem?_cons_zero, List.getElem?_cons_succ, List.length_cons, List.length_nil, List.set_cons_zero, List.set_cons_succ, List.map_cons, List.map_nil, List.cons_append, List.nil_append, List.replicate_succ, List.replicate_zero, Nat.reduceAdd, Nat.reduceSub, Nat.reduceLT, Nat.reduceEqDiff, Option.bind_some, Option.bind_none, Option.map_some, Option.map_none, if_true, if_false, ite_true, ite_false, ↓reduceIte, Bool.not_true, Bool.not_false, q1, eq_num, c0, i1]
      | some i =>
        have i1 : isiD "int" a = some (.bool true) := by rw [isInt_num, ha]; rfl
        rw [sw, ha, Option.bind_some]
        by_cases h1 : (l : Int) ≤ i
        · have one : ∀ {γ : Type} {f g : Rho → Option γ}, ik (ik (kt (liftO (eqD a (.int (l : Int))) [t, .d (.int (M : Int)), .m (.l B), .m (.l E), .d (.int (l : Int)), .d (.tuple [a, b]), s6, s7, s8, .d a, .d b])) (Tw.ret true) (tdAnd (fTst (fUn (isiD "int") (fVar 9))) (fTst (fBin gtI (fVar 9) (fVar 4))))) f g =
              f [t, .d (.int (M : Int)), .m (.l B), .m (.l E), .d (.int (l : Int)), .d (.tuple [a, b]), s6, s7, s8, .d a, .d b] := fun {γ f g} => by
            by_cases h0 : i = (l : Int)
            · have c0 : decide (numV a = some (l : Int)) = true := decide_eq_true (by rw [ha, h0])
              simp -implicitDefEqProofs only [eq_self, r_thn, r_tk, r_tk0, r_ret, r_lift, r_lift0, r_var, r_vk, r_bin, r_un, r_nil, r_cons, r_tup, r_of, r_call, r_tst, r_kt, r_ikT, r_ikF, r_ite, r_if, r_ife, r_and, r_or, r_not, r_vand, r_vor, r_vnot, r_chain, r_hkT, r_hkF, r_part, r_ok, r_sl, r_seq, r_skN, r_skR, r_skF, r_skB, r_skC, r_next, r_retS, r_rk, r_retF, r_rfk, r_drop, r_dk, r_asg, r_gk, r_gk2, gNm, r_tp, r_gs, r_qk, r_gs0, r_froz, r_frk, r_cmk, r_setI, r_stk, r_stk2, r_sti, r_pl, r_stj, r_aug, r_aug1, r_aug2, r_aug3, r_opN, r_par, r_prk, r_callN, r_tupRg, and_self, ixN0, ixN1, ixN2, r_peek, r_pk, r_pkI, r_pkB, r_pkS, r_pkN, r_tpeek, r_bk1, r_bk2, r_frz, r_fzk, r_own, owk, r_frkK, r_ownK, r_ixEd, r_ixEt, r_ixEl, r_inK, r_ninK, r_mk4, r_mk3, r_met, r_mk2, r_callM, r_mk2b, r_callM1, r_lenIs, r_callF, r_mat, r_mtk, r_mEnd, r_mCase, r_for, r_lk, r_items, r_itL, r_itT, r_rng, r_enum, r_zipM, zipM_ok, r_star, starL_ok, starT_ok, enumL_ok, enumT_ok, for_nil, r_lc, r_lck2, lc_nil, r_outM, r_outMn, r_outM1, r_outM1n, r_outD, r_outDf, r_outDn, r_outF, ixL0, ixL1, ixL2, ixT0, ixT1, ixT2, addI_ok, subI_ok, gtI_ok, geI_ok, leI_ok, ltI_ok, lenL_ok, lenT_ok, abs_ok, intB_ok, List.getElem?_cons_zero, List.getElem?_cons_succ, List.length_cons, List.length_nil, List.set_cons_zero, List.set_cons_succ, List.map_cons, List.map_nil, List.cons_append, List.nil_append, List.replicate_succ, List.replicate_zero, Nat.reduceAdd, Nat.reduceSub, Nat.reduceLT, Nat.reduceEqDiff, Option.bind_some, Option.bind_none, Option.map_some, Option.map_none, if_true, if_false, ite_true, ite_false, ↓reduceIte, Bool.not_true, Bool.not_false, eq_num, c0]
            · have c0 : decide (numV a = some (l : Int)) = false := decide_eq_false (by rw [ha]; exact fun z => h0 (Option.some.inj z))
              have c1 : decide ((l : Int) < i) = true := decide_eq_true (by omega)
              simp -implicitDefEqProofs only [eq_self, r_thn, r_tk, r_tk0, r_ret, r_lift, r_lift0, r_var, r_vk, r_bin, r_un, r_nil, r_cons, r_tup, r_of, r_call, r_tst, r_kt, r_ikT, r_ikF, r_ite, r_if, r_ife, r_and, r_or, r_not, r_vand, r_vor, r_vnot, r_chain, r_hkT, r_hkF, r_part, r_ok, r_sl, r_seq, r_skN, r_skR, r_skF, r_skB, r_skC, r_next, r_retS, r_rk, r_retF, r_rfk, r_drop, r_dk, r_asg, r_gk, r_gk2, gNm, r_tp, r_gs, r_qk, r_gs0, r_froz, r_frk, r_cmk, r_setI, r_stk, r_stk2, r_sti, r_pl, r_stj, r_aug, r_aug1, r_aug2, r_aug3, r_opN, r_par, r_prk, r_callN, r_tupRg, and_self, ixN0, ixN1, ixN2, r_peek, r_pk, r_pkI, r_pkB, r_pkS, r_pkN, r_tpeek, r_bk1, r_bk2, r_frz, r_fzk, r_own, owk, r_frkK, r_ownK, r_ixEd, r_ixEt, r_ixEl, r_inK, r_ninK, r_mk4, r_mk3, r_met, r_mk2, r_callM, r_mk2b, r_callM1, r_lenIs, r_callF, r_mat, r_mtk, r_mEnd, r_mCase, r_for, r_lk, r_items, r_itL, r_itT, r_rng, r_enum, r_zipM, zipM_ok, r_star, starL_ok, starT_ok, enumL_ok, enumT_ok, for_nil, r_lc, r_lck2, lc_nil, r_outM, r_outMn, r_outM1, r_outM1n, r_outD, r_outDf, r_outDn, r_outF, ixL0, ixL1, ixL2, ixT0, ixT1, ixT2, addI_ok, subI_ok, gtI_ok, geI_ok, leI_ok, ltI_ok, lenL_ok, lenT_ok, abs_ok, intB_ok, List.getElem?_cons_zero, List.getElem?_cons_succ, List.length_cons, List.length_nil, List.set_cons_zero, List.set_cons_succ, List.map_cons, List.map_nil, List.cons_append, List.nil_append, List.replicate_succ, List.replicate_zero, Nat.reduceAdd, Nat.reduceSub, Nat.reduceLT, Nat.reduceEqDiff, Option.bind_some, Option.bind_none, Option.map_some, Option.map_none, if_true, if_false, ite_true, ite_false, ↓reduceIte, Bool.not_true, Bool.not_false, eq_num, c0, i1, gt_num ha, c1]
          cases hb : numV b with
          | none =>
            refine ⟨fun B' E' l' h => (by cases h), fun _ => fin ?_⟩
            have i2 : isiD "int" b = some (.bool false) := by rw [isInt_num, hb]; rfl
            unfold b1_hands_across
            simp -implicitDefEqProofs only [eq_self, r_thn, r_tk, r_tk0, r_ret, r_lift, r_lift0, r_var, r_vk, r_bin, r_un, r_nil, r_cons, r_tup, r_of, r_call, r_tst, r_kt, r_ikT, r_ikF, r_ite, r_if, r_ife, r_and, r_or, r_not, r_vand, r_vor, r_vnot, r_chain, r_hkT, r_hkF, r_part, r_ok, r_sl, r_seq, r_skN, r_skR, r_skF, r_skB, r_skC, r_next, r_retS, r_rk, r_retF, r_rfk, r_drop, r_dk, r_asg, r_gk, r_gk2, gNm, r_tp, r_gs, r_qk, r_gs0, r_froz, r_frk, r_cmk, r_setI, r_stk, r_stk2, r_sti, r_pl, r_stj, r_aug, r_aug1, r_aug2, r_aug3, r_opN, r_par, r_prk, r_callN, r_tupRg, and_self, ixN0, ixN1, ixN2, r_peek, r_pk, r_pkI, r_pkB, r_pkS, r_pkN, r_tpeek, r_bk1, r_bk2, r_frz, r_fzk, r_own, owk, r_frkK, r_ownK, r_ixEd, r_ixEt, r_ixEl, r_inK, r_ninK, r_mk4, r_mk3, r_met, r_mk2, r_callM, r_mk2b, r_callM1, r_lenIs, r_callF, r_mat, r_mtk, r_mEnd, r_mCase, r_for, r_lk, r_items, r_itL, r_itT, r_rng, r_enum, r_zipM, zipM_ok, r_star, starL_ok, starT_ok, enumL_ok, enumT_ok, for_nil, r_lc, r_lck2, lc_nil, r_outM, r_outMn, r_outM1, r_outM1n, r_outD, r_outDf, r_outDn, r_outF, ixL0, ixL1, ixL2, ixT0, ixT1, ixT2, addI_ok, subI_ok, gtI_ok, geI_ok, leI_ok, ltI_ok, lenL_ok, lenT_ok, abs_ok, intB_ok, List.getElem?_cons_zero, List.getElem?_cons_succ, List.length_cons, List.length_nil, List.set_cons_zero, List.set_cons_succ, List.map_cons, List.map_nil, List.cons_append, List.nil_append, List.replicate_succ, List.replicate_zero, Nat.reduceAdd, Nat.reduceSub, Nat.reduceLT, Nat.reduceEqDiff, Option.bind_some, Option.bind_none, Option.map_some, Option.map_none, if_true, if_false, ite_true, ite_false, ↓reduceIte, Bool.not_true, Bool.not_false, q1, one, i2]
          | some j =>
            have i2 : isiD "int" b = some (.bool true) := by rw [isInt_num, hb]; rfl
            rw [Option.bind_some]
            by_cases h2 : i < j
            · have c2 : decide (i < j) = true := decide_eq_true h2
              by_cases h3 : j < (M : Int)
              · have c3 : decide (j < (M : Int)) = true := decide_eq_true h3
                rw [if_pos ⟨h1, h2, h3⟩]
                refine ⟨fun B' E' l' h => ?_, fun h => by cases h⟩
                cases h
                obtain ⟨n, rfl⟩ : ∃ n : Nat, i = (n : Int) := ⟨i.toNat, by omega⟩
                obtain ⟨m, rfl⟩ : ∃ m : Nat, j = (m : Int) := ⟨j.toNat, by omega⟩
                have p1 : plI B.length a = some n := pl_num ha (by omega)
                have p2 : plI B.length b = some m := pl_num hb (by omega)
                refine ⟨.d a, .d b, ?_⟩
                unfold b1_hands_across
                simp -implicitDefEqProofs only [eq_self, r_thn, r_tk, r_tk0, r_ret, r_lift, r_lift0, r_var, r_vk, r_bin, r_un, r_nil, r_cons, r_tup, r_of, r_call, r_tst, r_kt, r_ikT, r_ikF, r_ite, r_if, r_ife, r_and, r_or, r_not, r_vand, r_vor, r_vnot, r_chain, r_hkT, r_hkF, r_part, r_ok, r_sl, r_seq, r_skN, r_skR, r_skF, r_skB, r_skC, r_next, r_retS, r_rk, r_retF, r_rfk, r_drop, r_dk, r_asg, r_gk, r_gk2, gNm, r_tp, r_gs, r_qk, r_gs0, r_froz, r_frk, r_cmk, r_setI, r_stk, r_stk2, r_sti, r_pl, r_stj, r_aug, r_aug1, r_aug2, r_aug3, r_opN, r_par, r_prk, r_callN, r_tupRg, and_self, ixN0, ixN1, ixN2, r_peek, r_pk, r_pkI, r_pkB, r_pkS, r_pkN, r_tpeek, r_bk1, r_bk2, r_frz, r_fzk, r_own, owk, r_frkK, r_ownK, r_ixEd, r_ixEt, r_ixEl, r_inK, r_ninK, r_mk4, r_mk3, r_met, r_mk2, r_callM, r_mk2b, r_callM1, r_lenIs, r_callF, r_mat, r_mtk, r_mEnd, r_mCase, r_for, r_lk, r_items, r_itL, r_itT, r_rng, r_enum, r_zipM, zipM_ok, r_star, starL_ok, starT_ok, enumL_ok, enumT_ok, for_nil, r_lc, r_lck2, lc_nil, r_outM, r_outMn, r_outM1, r_outM1n, r_outD, r_outDf, r_outDn, r_outF, ixL0, ixL1, ixL2, ixT0, ixT1, ixT2, addI_ok, subI_ok, gtI_ok, geI_ok, leI_ok, ltI_ok, lenL_ok, lenT_ok, abs_ok, intB_ok, List.getElem?_cons_zero, List.getElem?_cons_succ, List.length_cons, List.length_nil, List.set_cons_zero, List.set_cons_succ, List.map_cons, List.map_nil, List.cons_append, List.nil_append, List.replicate_succ, List.replicate_zero, Nat.reduceAdd, Nat.reduceSub, Nat.reduceLT, Nat.reduceEqDiff, Option.bind_some, Option.bind_none, Option.map_some, Option.map_none, if_true, if_false, ite_true, ite_false, ↓reduceIte, Bool.not_true, Bool.not_false, q1, one, i2, lt_num ha hb, c2, lt_num hb nM, c3, p1, List.length_set, p2, add_num ha]
                rfl
              · rw [if_neg fun z => h3 z.2.2]
                refine ⟨fun B' E' l' h => (by cases h), fun _ => fin ?_⟩
                have c3 : decide (j < (M : Int)) = false := decide_eq_false h3
                unfold b1_hands_across
                simp -implicitDefEqProofs only [eq_self, r_thn, r_tk, r_tk0, r_ret, r_lift, r_lift0, r_var, r_vk, r_bin, r_un, r_nil, r_cons, r_tup, r_of, r_call, r_tst, r_kt, r_ikT, r_ikF, r_ite, r_if, r_ife, r_and, r_or, r_not, r_vand, r_vor, r_vnot, r_chain, r_hkT, r_hkF, r_part, r_ok, r_sl, r_seq, r_skN, r_skR, r_skF, r_skB, r_skC, r_next, r_retS, r_rk, r_retF, r_rfk, r_drop, r_dk, r_asg, r_gk, r_gk2, gNm, r_tp, r_gs, r_qk, r_gs0, r_froz, r_frk, r_cmk, r_setI, r_stk, r_stk2, r_sti, r_pl, r_stj, r_aug, r_aug1, r_aug2, r_aug3, r_opN, r_par, r_prk, r_callN, r_tupRg, and_self, ixN0, ixN1, ixN2, r_peek, r_pk, r_pkI, r_pkB, r_pkS, r_pkN, r_tpeek, r_bk1, r_bk2, r_frz, r_fzk, r_own, owk, r_frkK, r_ownK, r_ixEd, r_ixEt, r_ixEl, r_inK, r_ninK, r_mk4, r_mk3, r_met, r_mk2, r_callM, r_mk2b, r_callM1, r_lenIs, r_callF, r_mat, r_mtk, r_mEnd, r_mCase, r_for, r_lk, r_items, r_itL, r_itT, r_rng, r_enum, r_zipM, zipM_ok, r_star, starL_ok, starT_ok, enumL_ok, enumT_ok, for_nil, r_lc, r_lck2, lc_nil, r_outM, r_outMn, r_outM1, r_outM1n, r_outD, r_outDf, r_outDn, r_outF, ixL0, ixL1, ixL2, ixT0, ixT1, ixT2, addI_ok, subI_ok, gtI_ok, geI_ok, leI_ok, ltI_ok, lenL_ok, lenT_ok, abs_ok, intB_ok, List.getElem?_cons_zero, List.getElem?_cons_succ, List.length_cons, List.length_nil, List.set_cons_zero, List.set_cons_succ, List.map_cons, List.map_nil, List.cons_append, List.nil_append, List.replicate_succ, List.replicate_zero, Nat.reduceAdd, Nat.reduceSub, Nat.reduceLT, Nat.reduceEqDiff, Option.bind_some, Option.bind_none, Option.map_some, Option.map_none, if_true, if_false, ite_true, ite_false, ↓reduceIte, Bool.not_true, Bool.not_false, q1, one, i2, lt_num ha hb, c2, lt_num hb nM, c3]
            · rw [if_neg fun z => h2 z.2.1]
              refine ⟨fun B' E' l' h => (by cases h), fun _ => fin ?_⟩
              have c2 : decide (i < j) = false := decide_eq_false h2
              unfold b1_hands_across
              simp -implicitDefEqProofs only [eq_self, r_thn, r_tk, r_tk0, r_ret, r_lift, r_lift0, r_var, r_vk, r_bin, r_un, r_nil, r_cons, r_tup, r_of, r_call, r_tst, r_kt, r_ikT, r_ikF, r_ite, r_if, r_ife, r_and, r_or, r_not, r_vand, r_vor, r_vnot, r_chain, r_hkT, r_hkF, r_part, r_ok, r_sl, r_seq, r_skN, r_skR, r_skF, r_skB, r_skC, r_next, r_retS, r_rk, r_retF, r_rfk, r_drop, r_dk, r_asg, r_gk, r_gk2, gNm, r_tp, r_gs, r_qk, r_gs0, r_froz, r_frk, r_cmk, r_setI, r_stk, r_stk2, r_sti, r_pl, r_stj, r_aug, r_aug1, r_aug2, r_aug3, r_opN, r_par, r_prk, r_callN, r_tupRg, and_self, ixN0, ixN1, ixN2, r_peek, r_pk, r_pkI, r_pkB, r_pkS, r_pkN, r_tpeek, r_bk1, r_bk2, r_frz, r_fzk, r_own, owk, r_frkK, r_ownK, r_ixEd, r_ixEt, r_ixEl, r_inK, r_ninK, r_mk4, r_mk3, r_met, r_mk2, r_callM, r_mk2b, r_callM1, r_lenIs, r_callF, r_mat, r_mtk, r_mEnd, r_mCase, r_for, r_lk, r_items, r_itL, r_itT, r_rng, r_enum, r_zipM, zipM_ok, r_star, starL_ok, starT_ok, enumL_ok, enumT_ok, for_nil, r_lc, r_lck2, lc_nil, r_outM, r_outMn, r_outM1, r_outM1n, r_outD, r_outDf, r_outDn, r_outF, ixL0, ixL1, ixL2, ixT0, ixT1, ixT2, addI_ok, subI_ok, gtI_ok, geI_ok, leI_ok, ltI_ok, lenL_ok, lenT_ok, abs_ok, intB_ok, List.getElem?_cons_zero, List.getElem?_cons_succ, List.length_cons, List.length_nil, List.set_cons_zero, List.set_cons_succ, List.map_cons, List.map_nil, List.cons_append, List.nil_append, List.replicate_succ, List.replicate_zero, Nat.reduceAdd, Nat.reduceSub, Nat.reduceLT, Nat.reduceEqDiff, Option.bind_some, Option.bind_none, Option.map_some, Option.map_none, if_true, if_false, ite_true, ite_false, ↓reduceIte, Bool.not_true, Bool.not_false, q1, one, i2, lt_num ha hb, c2]
        · have c0 : decide (numV a = some (l : Int)) = false := decide_eq_false (by rw [ha]; exact fun z => h1 (by have := Option.some.inj z; omega))
          have c1 : decide ((l : Int) < i) = false := decide_eq_false (by omega)
          have nn : ((numV b).bind fun j => if (l : Int) ≤ i ∧ i < j ∧ j < (M : Int) then some ((B.set i.toNat b).set j.toNat a, E, i.toNat + 1) else none) = none := by
            cases numV b with
            | none => rfl
            | some j => exact if_neg fun z => h1 z.1
          rw [nn]
          refine ⟨fun B' E' l' h => (by cases h), fun _ => fin ?_⟩
          unfold b1_hands_across
          simp -implicitDefEqProofs only [eq_self, r_thn, r_tk, r_tk0, r_ret, r_lift, r_lift0, r_var, r_vk, r_bin, r_un, r_nil, r_cons, r_tup, r_of, r_call, r_tst, r_kt, r_ikT, r_ikF, r_ite, r_if, r_ife, r_and, r_or, r_not, r_vand, r_vor, r_vnot, r_chain, r_hkT, r_hkF, r_part, r_ok, r_sl, r_seq, r_skN, r_skR, r_skF, r_skB, r_skC, r_next, r_retS, r_rk, r_retF, r_rfk, r_drop, r_dk, r_asg, r_gk, r_gk2, gNm, r_tp, r_gs, r_qk, r_gs0, r_froz, r_frk, r_cmk, r_setI, r_stk, r_stk2, r_sti, r_pl, r_stj, r_aug, r_aug1, r_aug2, r_aug3, r_opN, r_par, r_prk, r_callN, r_tupRg, and_self, ixN0, ixN1, ixN2, r_peek, r_pk, r_pkI, r_pkB, r_pkS, r_pkN, r_tpeek, r_bk1, r_bk2, r_frz, r_fzk, r_own, owk, r_frkK, r_ownK, r_ixEd, r_ixEt, r_ixEl, r_inK, r_ninK, r_mk4, r_mk3, r_met, r_mk2, r_callM, r_mk2b, r_callM1, r_lenIs, r_callF, r_mat, r_mtk, r_mEnd, r_mCase, r_for, r_lk, r_items, r_itL, r_itT, r_rng, r_enum, r_zipM, zipM_ok, r_star, starL_ok, starT_ok, enumL_ok, enumT_ok, for_nil, r_lc, r_lck2, lc_nil, r_outM, r_outMn, r_outM1, r_outM1n, r_outD, r_outDf, r_outDn, r_outF, ixL0, ixL1, ixL2, ixT0, ixT1, ixT2, addI_ok, subI_ok, gtI_ok, geI_ok, leI_ok, ltI_ok, lenL_ok, lenT_ok, abs_ok, intB_ok, List.getElem?_cons_zero, List.getElem?_cons_succ, List.length_cons, List.length_nil, List.set_cons_zero, List.set_cons_succ, List.map_cons, List.map_nil, List.cons_append, List.nil_append, List.replicate_succ, List.replicate_zero, Nat.reduceAdd, Nat.reduceSub, Nat.reduceLT, Nat.reduceEqDiff, Option.bind_some, Option.bind_none, Option.map_some, Option.map_none, if_true, if_false, ite_true, ite_false, ↓reduceIte, Bool.not_true, Bool.not_false, q1, eq_num, c0, i1, gt_num ha, c1]
  | _ => exact ⟨fun _ _ _ h => (by cases h), fun _ => no rfl⟩
end Lw

set_option Elab.async false
set_option linter.all false
set_option maxRecDepth 100000
set_option maxHeartbeats 4000000
namespace Lw
open PySem PySem.Spec PyProof.Rows L2 Tw
theorem flatW_one (V : List (Int × Option Int)) (v : Int × Option Int) : flatW (V ++ [v]) = flatW V ++ (v.1 :: v.2.toList) := by
  rw [flatW_app]
  show _ ++ ((v.1 :: v.2.toList) ++ []) = _
  rw [List.append_nil]
theorem mem_flat2 {V : List (Int × Option Int)} {v : Int × Option Int} {g : Int} (h : v ∈ V) (e : v.2 = some g) : g ∈ flatW V := List.mem_flatMap.mpr ⟨v, h, by rw [e]; simp⟩
def handsT : PyData → List PyData
  | .tuple ds => ds
  | _ => []
def wayN : PyData → Option (Int × Option Int)
  | .tuple [a] => (numV a).map fun i => (i, none)
  | .tuple [a, b] => (numV a).bind fun i => (numV b).bind fun j => if i < j then some (i, some j) else none
  | _ => none
/-- what holds between two ways -/
structure HI (M : Nat) (W : List PyData) (V : List (Int × Option Int)) (B E : List PyData) (l : Nat) : Prop where
  nums : ∀ x ∈ B, x = .none ∨ ∃ i, numV x = some i
  len : B.length = M
  lM : l ≤ M
  lV : V.length ≤ l
  low : l = V.length → ∀ j : Nat, j < l → (j : Int) ∈ flatW V
  lst : ∀ x : Int, 0 ≤ x → (∀ v ∈ V, v.1 < x) → (l : Int) ≤ x
  met : ∀ j : Nat, j < M → ((j : Int) ∈ flatW V ↔ ∃ x, B[j]? = some x ∧ isN x = false)
  rng : ∀ x ∈ flatW V, 0 ≤ x ∧ x < (M : Int)
  ord : V.Pairwise fun v w => v.1 < w.1
  fst : ∀ v ∈ V, v.1 < (l : Int)
  inn : ordW V
  val : ∀ x ∈ B, ∀ i, numV x = some i → i ∈ flatW V
  tab : (flatW V).Nodup → ∀ v ∈ V, (∀ g, v.2 = some g → (∃ x, B[v.1.toNat]? = some x ∧ numV x = some g) ∧ ∃ x, B[g.toNat]? = some x ∧ numV x = some v.1) ∧ (v.2 = none → ∃ x, B[v.1.toNat]? = some x ∧ numV x = some v.1)
  hd : (flatW V).Nodup → ∀ a b i, .tuple [a, b] ∈ W → numV a = some i → B[i.toNat]? = some b
  wf : ∀ a b, .tuple [a, b] ∈ W → ∃ i, numV a = some i ∧ i ∈ flatW V
  ends : E.map numV = (V.filter fun v => v.2.isNone).map fun v => some v.1
  raw : ∀ x ∈ B, x = .none ∨ x ∈ W.flatMap handsT
section
variable {M : Nat} {W : List PyData} {V : List (Int × Option Int)} {B E : List PyData} {l k : Nat}
theorem HI.start (M : Nat) : HI M [] [] (List.replicate M .none) [] 0 where
  nums := fun x h => .inl (List.eq_of_mem_replicate h)
  len := List.length_replicate
  lM := Nat.zero_le _
  lV := Nat.le_refl _
  low := fun _ j h => absurd h (Nat.not_lt_zero _)
  lst := fun x h _ => h
  met := fun j h => by
    constructor
    · intro z; cases z
    · rintro ⟨x, hx, hn⟩
      rw [List.getElem?_replicate, if_pos h] at hx
      cases hx
      cases hn
  rng := fun x h => nomatch h
  ord := .nil
  fst := fun x h => nomatch h
  inn := fun x h => nomatch h
  val := fun x h i hi => by
    rw [List.eq_of_mem_replicate h] at hi
    cases hi
  tab := fun _ x h => nomatch h
  hd := fun _ a b i h => nomatch h
  wf := fun a b h => nomatch h
  ends := rfl
  raw := fun x h => .inl (List.eq_of_mem_replicate h)
theorem nat_ne {V : List (Int × Option Int)} {x y : Int} (hr : 0 ≤ x) (hr' : 0 ≤ y) (hx : x ∈ flatW V) (hu : y ∉ flatW V) : x.toNat ≠ y.toNat := fun e => hu (by
  have : x = y := by omega
  rw [← this]; exact hx)
theorem HI.step (I : HI M W V B E l) {w : PyData} {B' E' : List PyData} {l' : Nat} (hs : stepW M B E l w = some (B', E', l')) :
    ∃ v, wayN w = some v ∧ HI M (W ++ [w]) (V ++ [v]) B' E' l' := by
  have fl : ∀ v ∈ V, v.1 ∈ flatW V := fun v hv => mem_flat hv
  unfold stepW at hs
  split at hs
  · -- a pair
    rename_i a b
    obtain ⟨i, ha, hs⟩ := Option.bind_eq_some_iff.mp hs
    obtain ⟨j, hb, hs⟩ := Option.bind_eq_some_iff.mp hs
    obtain ⟨⟨c1, c2, c3⟩, e⟩ := ite_p hs
    obtain ⟨rfl, rfl, rfl⟩ : (B.set i.toNat b).set j.toNat a = B' ∧ E = E' ∧ i.toNat + 1 = l' := by
      cases e
      exact ⟨rfl, rfl, rfl⟩
    obtain ⟨n, rfl⟩ : ∃ n : Nat, i = (n : Int) := ⟨i.toNat, by omega⟩
    obtain ⟨m, rfl⟩ : ∃ n : Nat, j = (n : Int) := ⟨j.toNat, by omega⟩
    simp only [Int.toNat_natCast]
    have lB := I.len
    have Bo : ∀ k : Nat, k ≠ n → k ≠ m → ((B.set n b).set m a)[k]? = B[k]? := fun k q1 q2 => by
      rw [List.getElem?_set_ne (Ne.symm q2), List.getElem?_set_ne (Ne.symm q1)]
    have Bm : ((B.set n b).set m a)[m]? = some a := List.getElem?_set_self (by rw [List.length_set, lB]; omega)
    have Bn : ((B.set n b).set m a)[n]? = some b := by
      rw [List.getElem?_set_ne (by omega)]
      exact List.getElem?_set_self (by rw [lB]; omega)
    have mB : ∀ x, x ∈ (B.set n b).set m a → x ∈ B ∨ x = b ∨ x = a := fun x hx => by
      rcases List.mem_or_eq_of_mem_set hx with hx | rfl
      · rcases List.mem_or_eq_of_mem_set hx with hx | rfl
        · exact .inl hx
        · exact .inr (.inl rfl)
      · exact .inr (.inr rfl)
    have wn : wayN (.tuple [a, b]) = some ((n : Int), some (m : Int)) := by
      show (numV a).bind _ = _
      rw [ha, Option.bind_some, hb, Option.bind_some, if_pos c2]
    have fm : ∀ x : Int, x ∈ flatW (V ++ [((n : Int), some (m : Int))]) ↔ x ∈ flatW V ∨ x = n ∨ x = m := fun x => by
      rw [flatW_one]
      simp
    have nd : (flatW (V ++ [((n : Int), some (m : Int))])).Nodup → (flatW V).Nodup ∧ (n : Int) ∉ flatW V ∧ (m : Int) ∉ flatW V := fun h => by
      rw [flatW_one] at h
      obtain ⟨n1, n2, n3⟩ := List.nodup_append.mp h
      exact ⟨n1, fun z => n3 _ z _ (List.mem_cons_self ..) rfl, fun z => n3 _ z _ (List.mem_cons_of_mem _ (List.mem_cons_self ..)) rfl⟩
    have q0 := I.lV
    refine ⟨_, wn, ?_⟩
    refine { nums := fun x hx => ?_, len := by rw [List.length_set, List.length_set]; exact lB, lM := by omega, lV := by rw [List.length_append, List.length_singleton]; omega, low := fun h k hk => ?_, lst := fun x _ h => ?_, met := fun k hk => ?_, rng := fun x hx => ?_, ord := ?_, fst := fun v hv => ?_, inn := fun v hv g e => ?_, val := fun x hx i hi => ?_, tab := fun h v hv => ?_, hd := fun h a' b' i hm hi => ?_, wf := fun a' b' hm => ?_, ends := ?_, raw := fun x hx => ?_ }
    · rcases mB x hx with hx | rfl | rfl
      · exact I.nums x hx
      · exact .inr ⟨_, hb⟩
      · exact .inr ⟨_, ha⟩
    · rw [List.length_append, List.length_singleton] at h
      have hl : l = V.length := by omega
      rw [fm]
      by_cases hk' : k < l
      · exact .inl (I.low hl k hk')
      · exact .inr (.inl (by omega))
    · have := h _ (List.mem_append_right _ (List.mem_singleton.mpr rfl))
      have : (n : Int) < x := this
      omega
    · rw [fm]
      by_cases q1 : k = n
      · subst q1
        exact ⟨fun _ => ⟨b, Bn, notN_num hb⟩, fun _ => .inr (.inl rfl)⟩
      · by_cases q2 : k = m
        · subst q2
          exact ⟨fun _ => ⟨a, Bm, notN_num ha⟩, fun _ => .inr (.inr rfl)⟩
        · rw [Bo k q1 q2, ← I.met k hk]
          constructor
          · rintro (z | z | z)
            · exact z
            · exact absurd (by exact_mod_cast z) q1
            · exact absurd (by exact_mod_cast z) q2
          · exact .inl
    · rcases (fm x).mp hx with z | rfl | rfl
      · exact I.rng x z
      · omega
      · omega
    · refine List.pairwise_append.mpr ⟨I.ord, List.pairwise_singleton .., fun v hv y hy => ?_⟩
      rw [List.mem_singleton] at hy
      subst hy
      show v.1 < (n : Int)
      have q1 := I.fst v hv
      omega
    · rcases List.mem_append.mp hv with hv | hv
      · have := I.fst v hv
        omega
      · rw [List.mem_singleton] at hv
        subst hv
        show (n : Int) < ((n + 1 : Nat) : Int)
        omega
    · rcases List.mem_append.mp hv with hv | hv
      · exact I.inn v hv g e
      · rw [List.mem_singleton] at hv
        subst hv
        cases e
        exact c2
    · rw [fm]
      rcases mB x hx with hx | rfl | rfl
      · exact .inl (I.val x hx i hi)
      · rw [hb] at hi; cases hi; exact .inr (.inr rfl)
      · rw [ha] at hi; cases hi; exact .inr (.inl rfl)
    · obtain ⟨h1, h2, h3⟩ := nd h
      rcases List.mem_append.mp hv with hv | hv
      · have r1 := (I.rng _ (fl v hv)).1
        have a1 := nat_ne r1 (by omega) (fl v hv) h2
        have a2 := nat_ne r1 (by omega) (fl v hv) h3
        rw [Int.toNat_natCast] at a1 a2
        refine ⟨fun g e => ?_, fun e => ?_⟩
        · obtain ⟨h4, h5⟩ := (I.tab h1 v hv).1 g e
          have g1 := mem_flat2 hv e
          have r2 := (I.rng _ g1).1
          have b1 := nat_ne r2 (by omega) g1 h2
          have b2 := nat_ne r2 (by omega) g1 h3
          rw [Int.toNat_natCast] at b1 b2
          rw [Bo _ a1 a2, Bo _ b1 b2]
          exact ⟨h4, h5⟩
        · rw [Bo _ a1 a2]
          exact (I.tab h1 v hv).2 e
      · rw [List.mem_singleton] at hv
        subst hv
        refine ⟨fun g e => ?_, fun e => by cases e⟩
        cases e
        exact ⟨⟨b, by rw [Int.toNat_natCast]; exact Bn, hb⟩, ⟨a, by rw [Int.toNat_natCast]; exact Bm, ha⟩⟩
    · obtain ⟨h1, h2, h3⟩ := nd h
      rcases List.mem_append.mp hm with hm | hm
      · obtain ⟨i', hi', mi⟩ := I.wf a' b' hm
        rw [hi] at hi'; cases hi'
        have r1 := (I.rng _ mi).1
        have a1 := nat_ne r1 (by omega) mi h2
        have a2 := nat_ne r1 (by omega) mi h3
        rw [Int.toNat_natCast] at a1 a2
        rw [Bo _ a1 a2]
        exact I.hd h1 a' b' i hm hi
      · rw [List.mem_singleton] at hm
        cases hm
        rw [ha] at hi
        cases hi
        rw [Int.toNat_natCast]
        exact Bn
    · rcases List.mem_append.mp hm with hm | hm
      · obtain ⟨i', hi', mi⟩ := I.wf a' b' hm
        exact ⟨i', hi', (fm _).mpr (.inl mi)⟩
      · rw [List.mem_singleton] at hm
        cases hm
        exact ⟨_, ha, (fm _).mpr (.inr (.inl rfl))⟩
    · rw [I.ends, List.filter_append, List.map_append]
      show _ = _ ++ []
      rw [List.append_nil]
    · rw [List.flatMap_append]
      rcases mB x hx with hx | rfl | rfl
      · exact (I.raw x hx).imp id fun z => List.mem_append_left _ z
      · exact .inr (List.mem_append_right _ (by simp [handsT]))
      · exact .inr (List.mem_append_right _ (by simp [handsT]))
  · -- an end
    rename_i a
    obtain ⟨i, ha, hs⟩ := Option.bind_eq_some_iff.mp hs
    obtain ⟨⟨c1, c3⟩, e⟩ := ite_p hs
    obtain ⟨rfl, rfl, rfl⟩ : B.set i.toNat a = B' ∧ E ++ [a] = E' ∧ i.toNat + 1 = l' := by
      cases e
      exact ⟨rfl, rfl, rfl⟩
    obtain ⟨n, rfl⟩ : ∃ n : Nat, i = (n : Int) := ⟨i.toNat, by omega⟩
    simp only [Int.toNat_natCast]
    have lB := I.len
    have Bo : ∀ k : Nat, k ≠ n → (B.set n a)[k]? = B[k]? := fun k q1 => List.getElem?_set_ne (Ne.symm q1)
    have Bn : (B.set n a)[n]? = some a := List.getElem?_set_self (by rw [lB]; omega)
    have mB : ∀ x, x ∈ B.set n a → x ∈ B ∨ x = a := fun x hx => List.mem_or_eq_of_mem_set hx
    have wn : wayN (.tuple [a]) = some ((n : Int), none) := by
      show (numV a).map _ = _
      rw [ha, Option.map_some]
    have fm : ∀ x : Int, x ∈ flatW (V ++ [((n : Int), none)]) ↔ x ∈ flatW V ∨ x = n := fun x => by
      rw [flatW_one]
      simp
    have nd : (flatW (V ++ [((n : Int), none)])).Nodup → (flatW V).Nodup ∧ (n : Int) ∉ flatW V := fun h => by
      rw [flatW_one] at h
      obtain ⟨n1, n2, n3⟩ := List.nodup_append.mp h
      exact ⟨n1, fun z => n3 _ z _ (List.mem_cons_self ..) rfl⟩
    have q0 := I.lV
    refine ⟨_, wn, ?_⟩
    refine { nums := fun x hx => ?_, len := by rw [List.length_set]; exact lB, lM := by omega, lV := by rw [List.length_append, List.length_singleton]; omega, low := fun h k hk => ?_, lst := fun x _ h => ?_, met := fun k hk => ?_, rng := fun x hx => ?_, ord := ?_, fst := fun v hv => ?_, inn := fun v hv g e => ?_, val := fun x hx i hi => ?_, tab := fun h v hv => ?_, hd := fun h a' b' i hm hi => ?_, wf := fun a' b' hm => ?_, ends := ?_, raw := fun x hx => ?_ }
    · rcases mB x hx with hx | rfl
      · exact I.nums x hx
      · exact .inr ⟨_, ha⟩
    · rw [List.length_append, List.length_singleton] at h
      have hl : l = V.length := by omega
      rw [fm]
      by_cases hk' : k < l
      · exact .inl (I.low hl k hk')
      · exact .inr (by omega)
    · have := h _ (List.mem_append_right _ (List.mem_singleton.mpr rfl))
      have : (n : Int) < x := this
      omega
    · rw [fm]
      by_cases q1 : k = n
      · subst q1
        exact ⟨fun _ => ⟨a, Bn, notN_num ha⟩, fun _ => .inr rfl⟩
      · rw [Bo k q1, ← I.met k hk]
        constructor
        · rintro (z | z)
          · exact z
          · exact absurd (by exact_mod_cast z) q1
        · exact .inl
    · rcases (fm x).mp hx with z | rfl
      · exact I.rng x z
      · omega
    · refine List.pairwise_append.mpr ⟨I.ord, List.pairwise_singleton .., fun v hv y hy => ?_⟩
      rw [List.mem_singleton] at hy
      subst hy
      show v.1 < (n : Int)
      have q1 := I.fst v hv
      omega
    · rcases List.mem_append.mp hv with hv | hv
      · have := I.fst v hv
        omega
      · rw [List.mem_singleton] at hv
        subst hv
        show (n : Int) < ((n + 1 : Nat) : Int)
        omega
    · rcases List.mem_append.mp hv with hv | hv
      · exact I.inn v hv g e
      · rw [List.mem_singleton] at hv
        subst hv
        cases e
    · rw [fm]
      rcases mB x hx with hx | rfl
      · exact .inl (I.val x hx i hi)
      · rw [ha] at hi; cases hi; exact .inr rfl
    · obtain ⟨h1, h2⟩ := nd h
      rcases List.mem_append.mp hv with hv | hv
      · have r1 := (I.rng _ (fl v hv)).1
        have a1 := nat_ne r1 (by omega) (fl v hv) h2
        rw [Int.toNat_natCast] at a1
        refine ⟨fun g e => ?_, fun e => ?_⟩
        · obtain ⟨h4, h5⟩ := (I.tab h1 v hv).1 g e
          have g1 := mem_flat2 hv e
          have r2 := (I.rng _ g1).1
          have b1 := nat_ne r2 (by omega) g1 h2
          rw [Int.toNat_natCast] at b1
          rw [Bo _ a1, Bo _ b1]
          exact ⟨h4, h5⟩
        · rw [Bo _ a1]
          exact (I.tab h1 v hv).2 e
      · rw [List.mem_singleton] at hv
        subst hv
        exact ⟨(fun g e => by cases e), fun _ => ⟨a, by rw [Int.toNat_natCast]; exact Bn, ha⟩⟩
    · obtain ⟨h1, h2⟩ := nd h
      rcases List.mem_append.mp hm with hm | hm
      · obtain ⟨i', hi', mi⟩ := I.wf a' b' hm
        rw [hi] at hi'; cases hi'
        have r1 := (I.rng _ mi).1
        have a1 := nat_ne r1 (by omega) mi h2
        rw [Int.toNat_natCast] at a1
        rw [Bo _ a1]
        exact I.hd h1 a' b' i hm hi
      · rw [List.mem_singleton] at hm
        cases hm
    · rcases List.mem_append.mp hm with hm | hm
      · obtain ⟨i', hi', mi⟩ := I.wf a' b' hm
        exact ⟨i', hi', (fm _).mpr (.inl mi)⟩
      · rw [List.mem_singleton] at hm
        cases hm
    · rw [List.map_append, I.ends, List.filter_append, List.map_append]
      show _ ++ [numV a] = _ ++ [some (n : Int)]
      rw [ha]
    · rw [List.flatMap_append]
      rcases mB x hx with hx | rfl
      · exact (I.raw x hx).imp id fun z => List.mem_append_left _ z
      · exact .inr (List.mem_append_right _ (by simp [handsT]))
  · cases hs
end
end Lw

set_option Elab.async false
set_option linter.all false
set_option maxRecDepth 100000
set_option maxHeartbeats 4000000
namespace Lw
open PySem PySem.Spec PyProof.Rows L2 Tw
def waysN : List PyData → Option (List (Int × Option Int))
  | [] => some []
  | w :: ws => (wayN w).bind fun v => (waysN ws).map (v :: ·)
def rangeI (n : Nat) : List Int := (List.range n).map fun i : Nat => (i : Int)
/-- a whole web of so many hands -/
def whole (M : Nat) (W : List (Int × Option Int)) : Prop := (flatW W).Perm (rangeI M) ∧ (W.Pairwise fun v w => v.1 < w.1) ∧ ordW W
def endsN (U : List (Int × Option Int)) : Int := ((U.filter fun v => v.2.isNone).length : Nat)
theorem mem_rangeI {n : Nat} {x : Int} : x ∈ rangeI n ↔ 0 ≤ x ∧ x < (n : Int) := by
  unfold rangeI
  rw [List.mem_map]
  constructor
  · rintro ⟨i, hi, rfl⟩
    have := List.mem_range.mp hi
    omega
  · intro h
    exact ⟨x.toNat, List.mem_range.mpr (by omega), by omega⟩
theorem nodup_rangeI (n : Nat) : (rangeI n).Nodup := List.Pairwise.map (R := (· ≠ ·)) (fun i : Nat => (i : Int)) (fun a b h z => h (by exact_mod_cast z)) List.nodup_range
theorem wayN_inv {w : PyData} {v : Int × Option Int} (h : wayN w = some v) : (∃ a, w = .tuple [a] ∧ numV a = some v.1 ∧ v.2 = none) ∨ ∃ a b g, w = .tuple [a, b] ∧ numV a = some v.1 ∧ numV b = some g ∧ v.1 < g ∧ v.2 = some g := by
  unfold wayN at h
  split at h
  · obtain ⟨i, h1, rfl⟩ := Option.map_eq_some_iff.mp h
    exact .inl ⟨_, rfl, h1, rfl⟩
  · obtain ⟨i, h1, h2⟩ := Option.bind_eq_some_iff.mp h
    obtain ⟨j, h3, h4⟩ := Option.bind_eq_some_iff.mp h2
    obtain ⟨h5, rfl⟩ := ite_p h4
    exact .inr ⟨_, _, j, rfl, h1, h3, h5, rfl⟩
  · cases h
/-- in a whole web the next way is taken -/
theorem whole_step {M : Nat} {V S : List (Int × Option Int)} {v : Int × Option Int} {W B E : List PyData} {l : Nat} (I : HI M W V B E l)
    (hW : whole M (V ++ v :: S)) {w : PyData} (hw : wayN w = some v) : stepW M B E l w ≠ none := by
  obtain ⟨hp, ho, hi⟩ := hW
  have inR : ∀ x ∈ flatW (V ++ v :: S), 0 ≤ x ∧ x < (M : Int) := fun x hx => mem_rangeI.mp (hp.mem_iff.mp hx)
  have vA : v ∈ V ++ v :: S := List.mem_append_right _ (List.mem_cons_self ..)
  have v0 := inR _ (mem_flat vA)
  have l0 : (l : Int) ≤ v.1 := I.lst _ v0.1 fun u hu => (List.pairwise_append.mp ho).2.2 u hu v (List.mem_cons_self ..)
  rcases wayN_inv hw with ⟨a, rfl, ha, hn⟩ | ⟨a, b, g, rfl, ha, hb, hg, hs⟩
  · have : stepW M B E l (.tuple [a]) = some (B.set v.1.toNat a, E ++ [a], v.1.toNat + 1) := by
      show (numV a).bind _ = _
      rw [ha, Option.bind_some, if_pos ⟨l0, v0.2⟩]
    rw [this]
    exact fun z => nomatch z
  · have g0 := inR _ (mem_flat2 vA hs)
    have : stepW M B E l (.tuple [a, b]) = some ((B.set v.1.toNat b).set g.toNat a, E, v.1.toNat + 1) := by
      show (numV a).bind _ = _
      rw [ha, Option.bind_some, hb, Option.bind_some, if_pos ⟨l0, hg, g0.2⟩]
    rw [this]
    exact fun z => nomatch z
theorem stepE {M l l' : Nat} {B E B' E' : List PyData} {w : PyData} (h : stepW M B E l w = some (B', E', l')) : E'.length ≤ E.length + 1 := by
  unfold stepW at h
  split at h
  · obtain ⟨i, ha, h⟩ := Option.bind_eq_some_iff.mp h
    obtain ⟨j, hb, h⟩ := Option.bind_eq_some_iff.mp h
    obtain ⟨_, e⟩ := ite_p h
    cases e
    exact Nat.le_succ _
  · obtain ⟨i, ha, h⟩ := Option.bind_eq_some_iff.mp h
    obtain ⟨_, e⟩ := ite_p h
    cases e
    rw [List.length_append, List.length_singleton]
    exact Nat.le_refl _
  · cases h
theorem ways_run {t s6 s7 s8 : Sl} {M : Nat} : ∀ (ws W : List PyData) (V : List (Int × Option Int)) (B E : List PyData) (l : Nat) (s5 s9 s10 : Sl), HI M W V B E l → E.length + ws.length < 90000 →
    (∃ U B' E' l' s5' s9' s10', waysN ws = some U ∧ HI M (W ++ ws) (V ++ U) B' E' l' ∧ E'.length < 90000 ∧ forF (gNm 5) b1_hands_across ws [t, .d (.int (M : Int)), .m (.l B), .m (.l E), .d (.int (l : Int)), s5, s6, s7, s8, s9, s10] = some (.nx [t, .d (.int (M : Int)), .m (.l B'), .m (.l E'), .d (.int (l' : Int)), s5', s6, s7, s8, s9', s10'])) ∨
    ((∃ ρ, forF (gNm 5) b1_hands_across ws [t, .d (.int (M : Int)), .m (.l B), .m (.l E), .d (.int (l : Int)), s5, s6, s7, s8, s9, s10] = some (.rt .none ρ)) ∧ ¬ ∃ U, waysN ws = some U ∧ whole M (V ++ U))
  | [], W, V, B, E, l, s5, s9, s10, I, hE => .inl ⟨[], B, E, l, s5, s9, s10, rfl, by rw [List.append_nil, List.append_nil]; exact I, by rw [List.length_nil] at hE; omega, rfl⟩
  | w :: ws, W, V, B, E, l, s5, s9, s10, I, hE => by
    rw [List.length_cons] at hE
    obtain ⟨T1, T2⟩ := turn_ok (t := t) (s6 := s6) (s7 := s7) (s8 := s8) (s9 := s9) (s10 := s10) (E := E) (l := l) I.len (by omega) w
    have hg : gNm 5 w [t, .d (.int (M : Int)), .m (.l B), .m (.l E), .d (.int (l : Int)), s5, s6, s7, s8, s9, s10] = some [t, .d (.int (M : Int)), .m (.l B), .m (.l E), .d (.int (l : Int)), .d w, s6, s7, s8, s9, s10] := rfl
    cases hs : stepW M B E l w with
    | none =>
      obtain ⟨ρ, h⟩ := T2 hs
      refine .inr ⟨⟨ρ, for_rt hg h⟩, ?_⟩
      rintro ⟨U, hU, hW⟩
      obtain ⟨v, hv, h3⟩ := Option.bind_eq_some_iff.mp (show (wayN w).bind (fun v => (waysN ws).map (v :: ·)) = some U from hU)
      obtain ⟨S, hS, rfl⟩ := Option.map_eq_some_iff.mp h3
      exact whole_step I hW hv hs
    | some r =>
      obtain ⟨B', E', l'⟩ := r
      obtain ⟨s9', s10', h⟩ := T1 B' E' l' hs
      obtain ⟨v, hv, I'⟩ := I.step hs
      have hn : waysN (w :: ws) = (waysN ws).map (v :: ·) := by
        show (wayN w).bind _ = _
        rw [hv]
        rfl
      have e1 := stepE hs
      rw [for_ct hg h, hn]
      rcases ways_run (t := t) (s6 := s6) (s7 := s7) (s8 := s8) ws (W ++ [w]) (V ++ [v]) B' E' l' (.d w) s9' s10' I' (by omega) with ⟨U, B2, E2, l2, a5, a6, a7, u1, u2, u3, u4⟩ | ⟨⟨ρ, u1⟩, u2⟩
      · exact .inl ⟨v :: U, B2, E2, l2, a5, a6, a7, by rw [u1]; rfl, by rw [List.append_assoc, List.append_assoc] at u2; exact u2, u3, u4⟩
      · refine .inr ⟨⟨ρ, u1⟩, ?_⟩
        rintro ⟨U, hU, hW⟩
        obtain ⟨S, hS, rfl⟩ := Option.map_eq_some_iff.mp hU
        exact u2 ⟨S, hS, by rw [List.append_assoc]; exact hW⟩
end Lw

set_option Elab.async false
set_option linter.all false
set_option maxRecDepth 100000
set_option maxHeartbeats 4000000
namespace Lw
open PySem PySem.Spec PyProof.Rows L2 Tw
def wayI : PyData → Option (Int × Option Int)
  | .tuple [.int h] => some (h, none)
  | .tuple [.int h, .int g] => if h < g then some (h, some g) else none
  | _ => none
def waysI : List PyData → Option (List (Int × Option Int))
  | [] => some []
  | w :: ws => (wayI w).bind fun v => (waysI ws).map (v :: ·)
theorem wayI_N {w : PyData} {v : Int × Option Int} (h : wayI w = some v) : wayN w = some v ∧ ∀ x ∈ handsT w, ∃ i, x = .int i := by
  unfold wayI at h
  split at h
  · cases h
    exact ⟨rfl, fun x hx => ⟨_, List.mem_singleton.mp hx⟩⟩
  · obtain ⟨c, rfl⟩ := ite_p h
    refine ⟨if_pos c, fun x hx => ?_⟩
    rcases List.mem_cons.mp hx with rfl | hx
    · exact ⟨_, rfl⟩
    · exact ⟨_, List.mem_singleton.mp hx⟩
  · cases h
theorem waysI_N : ∀ {ws : List PyData} {U : List (Int × Option Int)}, waysI ws = some U → waysN ws = some U ∧ ∀ x ∈ ws.flatMap handsT, ∃ i, x = .int i
  | [], U, h => by
    cases h
    exact ⟨rfl, fun x hx => nomatch hx⟩
  | w :: ws, U, h => by
    obtain ⟨v, h1, h2⟩ := Option.bind_eq_some_iff.mp (show (wayI w).bind (fun v => (waysI ws).map (v :: ·)) = some U from h)
    obtain ⟨S, h3, rfl⟩ := Option.map_eq_some_iff.mp h2
    obtain ⟨a1, a2⟩ := wayI_N h1
    obtain ⟨b1, b2⟩ := waysI_N h3
    refine ⟨?_, fun x hx => ?_⟩
    · show (wayN w).bind _ = _
      rw [a1, Option.bind_some, b1]
      rfl
    · rw [List.flatMap_cons] at hx
      exact (List.mem_append.mp hx).elim (a2 x) (b2 x)
theorem num_int {a : PyData} {i : Int} (h : numV a = some i) (hb : isBo a = false) : a = .int i := by
  cases a <;> first | (cases h; rfl) | (cases hb; done) | (cases h; done)
theorem wayN_I {w : PyData} {v : Int × Option Int} (h : wayN w = some v) (hb : ∀ x ∈ handsT w, isBo x = false) : wayI w = some v := by
  obtain ⟨v1, v2⟩ := v
  rcases wayN_inv h with ⟨a, rfl, ha, hn⟩ | ⟨a, b, g, rfl, ha, hb', hg, hs⟩
  · dsimp only at ha hn
    subst hn
    rw [num_int ha (hb a (List.mem_cons_self ..))]
    rfl
  · dsimp only at ha hg hs
    subst hs
    rw [num_int ha (hb a (List.mem_cons_self ..)), num_int hb' (hb b (List.mem_cons_of_mem _ (List.mem_cons_self ..)))]
    exact if_pos hg
theorem waysN_I : ∀ {ws : List PyData} {U : List (Int × Option Int)}, waysN ws = some U → (∀ x ∈ ws.flatMap handsT, isBo x = false) → waysI ws = some U
  | [], U, h, _ => h
  | w :: ws, U, h, hb => by
    obtain ⟨v, h1, h2⟩ := Option.bind_eq_some_iff.mp (show (wayN w).bind (fun v => (waysN ws).map (v :: ·)) = some U from h)
    obtain ⟨S, h3, rfl⟩ := Option.map_eq_some_iff.mp h2
    show (wayI w).bind _ = _
    rw [wayN_I h1 fun x hx => hb x (by rw [List.flatMap_cons]; exact List.mem_append_left _ hx), Option.bind_some, waysN_I h3 fun x hx => hb x (by rw [List.flatMap_cons]; exact List.mem_append_right _ hx)]
    rfl
def isTupD (d : PyData) : Prop := ∃ xs, d = .tuple xs
theorem waysN_tup : ∀ {ws : List PyData} {U : List (Int × Option Int)}, waysN ws = some U → (∀ d ∈ ws, isTupD d) ∧ (∀ d ∈ ws, (handsT d).length ≤ 2) ∧ U.length = ws.length
  | [], U, h => by
    cases h
    exact ⟨(fun x hx => nomatch hx), (fun x hx => nomatch hx), rfl⟩
  | w :: ws, U, h => by
    obtain ⟨v, h1, h2⟩ := Option.bind_eq_some_iff.mp (show (wayN w).bind (fun v => (waysN ws).map (v :: ·)) = some U from h)
    obtain ⟨S, h3, rfl⟩ := Option.map_eq_some_iff.mp h2
    obtain ⟨a, b, c⟩ := waysN_tup h3
    have q : isTupD w ∧ (handsT w).length ≤ 2 := by
      rcases wayN_inv h1 with ⟨a, rfl, _⟩ | ⟨a, b, g, rfl, _⟩
      · exact ⟨⟨_, rfl⟩, (show 1 ≤ 2 by decide)⟩
      · exact ⟨⟨_, rfl⟩, (show 2 ≤ 2 by decide)⟩
    refine ⟨fun d hd => ?_, fun d hd => ?_, by rw [List.length_cons, List.length_cons, c]⟩
    · rcases List.mem_cons.mp hd with rfl | hd
      · exact q.1
      · exact a d hd
    · rcases List.mem_cons.mp hd with rfl | hd
      · exact q.2
      · exact b d hd
theorem flat_ends : ∀ U : List (Int × Option Int), ((flatW U).length : Int) = 2 * (U.length : Int) - endsN U
  | [] => rfl
  | (a, b) :: U => by
    have ih := flat_ends U
    have e : (flatW ((a, b) :: U)).length = (a :: b.toList).length + (flatW U).length := by
      show ((a :: b.toList) ++ flatW U).length = _
      rw [List.length_append]
    unfold endsN at ih ⊢
    rw [e, List.filter_cons]
    cases b with
    | none => simp; omega
    | some g => simp; omega
theorem first_ge {U : List (Int × Option Int)} (ho : U.Pairwise fun v w => v.1 < w.1) (h0 : ∀ v ∈ U, 0 ≤ v.1) : ∀ (p : Nat) (v : Int × Option Int), U[p]? = some v → (p : Int) ≤ v.1 := by
  induction U with
  | nil => intro p v h; simp at h
  | cons u U ih =>
    intro p v h
    obtain ⟨o1, o2⟩ := List.pairwise_cons.mp ho
    cases p with
    | zero =>
      cases h
      exact h0 _ (List.mem_cons_self ..)
    | succ p =>
      have hv : U[p]? = some v := h
      have q : ∀ (W : List (Int × Option Int)) (c : Int), (W.Pairwise fun v w => v.1 < w.1) → (∀ v ∈ W, c < v.1) → ∀ (p : Nat) (v : Int × Option Int), W[p]? = some v → c + 1 + (p : Int) ≤ v.1 := by
        intro W
        induction W with
        | nil => intro c _ _ p v h; simp at h
        | cons w W ihW =>
          intro c hw hc p v h
          obtain ⟨p1, p2⟩ := List.pairwise_cons.mp hw
          cases p with
          | zero =>
            cases h
            have := hc _ (List.mem_cons_self ..)
            omega
          | succ p =>
            have := ihW w.1 p2 p1 p v h
            have := hc w (List.mem_cons_self ..)
            omega
      have := q U u.1 o2 o1 p v hv
      have := h0 u (List.mem_cons_self ..)
      omega
theorem waysN_get : ∀ {ws : List PyData} {U : List (Int × Option Int)}, waysN ws = some U → ∀ (p : Nat) (w : PyData), ws[p]? = some w → ∃ v, U[p]? = some v ∧ wayN w = some v
  | [], U, h, p, w, hp => by simp at hp
  | x :: ws, U, h, p, w, hp => by
    obtain ⟨v, h1, h2⟩ := Option.bind_eq_some_iff.mp (show (wayN x).bind (fun v => (waysN ws).map (v :: ·)) = some U from h)
    obtain ⟨S, h3, rfl⟩ := Option.map_eq_some_iff.mp h2
    cases p with
    | zero =>
      cases hp
      exact ⟨v, rfl, h1⟩
    | succ p => exact waysN_get h3 p w hp
theorem perm_key : ∀ (A R : List Int), A.Nodup → (∀ x ∈ A, x ∈ R) → A.length = R.length → A.Perm R := by
  intro A
  induction A with
  | nil =>
    intro R _ _ h
    rw [List.length_eq_zero_iff.mp h.symm]
  | cons a A ih =>
    intro R hA hs h
    have ha : a ∈ R := hs a (List.mem_cons_self ..)
    obtain ⟨hA1, hA2⟩ := List.nodup_cons.mp hA
    have pr := List.perm_cons_erase ha
    refine (List.Perm.cons a (ih (R.erase a) hA2 (fun x hx => ?_) ?_)).trans pr.symm
    · have hxR := pr.mem_iff.mp (hs x (List.mem_cons_of_mem _ hx))
      rcases List.mem_cons.mp hxR with e | hxR
      · exact absurd (e ▸ hx) hA1
      · exact hxR
    · have := pr.length_eq
      rw [List.length_cons] at this h
      omega
theorem len_rangeI (M : Nat) : (rangeI M).length = M := by unfold rangeI; rw [List.length_map, List.length_range]
/-- a row of hands without a repeat, as many as there are, is all of them -/
theorem perm_of_nodup {M : Nat} {L : List Int} (hn : L.Nodup) (hr : ∀ x ∈ L, 0 ≤ x ∧ x < (M : Int)) (hl : L.length = M) : L.Perm (rangeI M) :=
  perm_key L (rangeI M) hn (fun x hx => mem_rangeI.mpr (hr x hx)) (by rw [hl, len_rangeI])
/-- .. and so is one in which each hand stands -/
theorem perm_of_cover {M : Nat} {L : List Int} (hc : ∀ j : Nat, j < M → (j : Int) ∈ L) (hl : L.length = M) : L.Perm (rangeI M) :=
  (perm_key (rangeI M) L (nodup_rangeI M) (fun x hx => by
    obtain ⟨h1, h2⟩ := mem_rangeI.mp hx
    have := hc x.toNat (by omega)
    rw [Int.toNat_of_nonneg h1] at this
    exact this) (by rw [hl, len_rangeI])).symm
end Lw

set_option Elab.async false
set_option linter.all false
set_option maxRecDepth 100000
set_option maxHeartbeats 4000000
namespace Lw
open PySem PySem.Spec PyProof.Rows L2 Tw
/-! ### whether all hands are met -/
theorem truthy_num {x : PyData} {i : Int} (h : numV x = some i) : x.truthy = !decide (i = 0) := by
  cases x with
  | int j =>
    obtain rfl : j = i := Option.some.inj h
    show (j != 0) = _
    rw [bne, Bool.beq_eq_decide_eq]
  | bool b => cases h; cases b <;> rfl
  | _ => cases h
theorem smpl_num {x : PyData} (h : x = .none ∨ ∃ i, numV x = some i) : smpl x = true := by
  rcases h with rfl | ⟨i, h⟩
  · rfl
  · cases x <;> first | rfl | (cases h; done)
theorem cut_from (B : List PyData) {l : Nat} (h : l ≤ B.length) : Tw.cutD B (some (l : Int)) none = B.drop l := by
  have e : HT.sIx B.length 0 (some (l : Int)) = l := by
    show (if (l : Int) < 0 then ((l : Int) + (B.length : Int)).toNat else min (l : Int).toNat B.length) = l
    rw [if_neg (by omega), Int.toNat_natCast, Nat.min_eq_left h]
  have e2 : HT.sIx B.length B.length none = B.length := rfl
  unfold Tw.cutD
  rw [e, e2]
  rw [List.take_of_length_le (by rw [List.length_drop]; exact Nat.le_refl _)]
theorem eqN (a b : Nat) : eqD (.int (a : Int)) (.int (b : Int)) = some (.bool (decide (a = b))) := by
  rw [eqI2]
  by_cases h : a = b
  · subst h; simp
  · rw [decide_eq_false h, beq_eq_false_iff_ne.mpr (by omega)]
/-- what the program's run comes to -/
theorem met_run {M l : Nat} {B ws : List PyData} {w0 w1 : List PyData} {a0 a1 x0 : PyData} (hM : 0 < M) (hl : B.length = M) (lM : l ≤ M) (nums : ∀ x ∈ B, x = .none ∨ ∃ i, numV x = some i) (hx : B[0]? = some x0) (h0 : ws[0]? = some (.tuple w0)) (h1 : ws[1]? = some (.tuple w1)) (g0 : w0[0]? = some a0) (g1 : w1[0]? = some a1)
    (rg : ∀ o, numV x0 = some o → 0 ≤ o ∧ o < (M : Int)) :
    ((isN x0 || isBo x0 || isBo a0 || isBo a1) = true → g_are_all_met B [.tuple ws, .int (l : Int)] = some (.bool false, B)) ∧
    ((isN x0 || isBo x0 || isBo a0 || isBo a1) = false → ∃ o : Nat, x0 = .int (o : Int) ∧ o < M ∧ g_are_all_met B [.tuple ws, .int (l : Int)] = some (.bool (if l = ws.length then ((B.set o (.int (M : Int))).drop l).all PyData.truthy else (B.set o (.int (M : Int))).all PyData.truthy), (B.set o (.int (M : Int))).set o (.int 0))) := by
  have ix0 : ixD (.list B) (.int 0) = some x0 := ixLn (k := 0) hx
  have iy0 : ixD (.tuple ws) (.int 0) = some (.tuple w0) := ixTn (k := 0) h0
  have iy1 : ixD (.tuple ws) (.int 1) = some (.tuple w1) := ixTn (k := 1) h1
  have iz0 : ixD (.tuple w0) (.int 0) = some a0 := ixTn (k := 0) g0
  have iz1 : ixD (.tuple w1) (.int 0) = some a1 := ixTn (k := 0) g1
  have at0 := atom_num (nums x0 (List.mem_of_getElem? hx))
  constructor
  · intro h
    unfold g_are_all_met runM f_are_all_met
    cases e1 : isN x0 with
    | true => simp -implicitDefEqProofs only [eq_self, r_thn, r_tk, r_tk0, r_ret, r_lift, r_lift0, r_var, r_vk, r_bin, r_un, r_nil, r_cons, r_tup, r_of, r_call, r_tst, r_kt, r_ikT, r_ikF, r_ite, r_if, r_ife, r_and, r_or, r_not, r_vand, r_vor, r_vnot, r_chain, r_hkT, r_hkF, r_part, r_ok, r_sl, r_seq, r_skN, r_skR, r_skF, r_skB, r_skC, r_next, r_retS, r_rk, r_retF, r_rfk, r_drop, r_dk, r_asg, r_gk, r_gk2, gNm, r_tp, r_gs, r_qk, r_gs0, r_froz, r_frk, r_cmk, r_setI, r_stk, r_stk2, r_sti, r_pl, r_stj, r_aug, r_aug1, r_aug2, r_aug3, r_opN, r_par, r_prk, r_callN, r_tupRg, and_self, ixN0, ixN1, ixN2, r_peek, r_pk, r_pkI, r_pkB, r_pkS, r_pkN, r_tpeek, r_bk1, r_bk2, r_frz, r_fzk, r_own, owk, r_frkK, r_ownK, r_ixEd, r_ixEt, r_ixEl, r_inK, r_ninK, r_mk4, r_mk3, r_met, r_mk2, r_callM, r_mk2b, r_callM1, r_lenIs, r_callF, r_mat, r_mtk, r_mEnd, r_mCase, r_for, r_lk, r_items, r_itL, r_itT, r_rng, r_enum, r_zipM, zipM_ok, r_star, starL_ok, starT_ok, enumL_ok, enumT_ok, for_nil, r_lc, r_lck2, lc_nil, r_outM, r_outMn, r_outM1, r_outM1n, r_outD, r_outDf, r_outDn, r_outF, ixL0, ixL1, ixL2, ixT0, ixT1, ixT2, addI_ok, subI_ok, gtI_ok, geI_ok, leI_ok, ltI_ok, lenL_ok, lenT_ok, abs_ok, intB_ok, List.getElem?_cons_zero, List.getElem?_cons_succ, List.length_cons, List.length_nil, List.set_cons_zero, List.set_cons_succ, List.map_cons, List.map_nil, List.cons_append, List.nil_append, List.replicate_succ, List.replicate_zero, Nat.reduceAdd, Nat.reduceSub, Nat.reduceLT, Nat.reduceEqDiff, Option.bind_some, Option.bind_none, Option.map_some, Option.map_none, if_true, if_false, ite_true, ite_false, ↓reduceIte, Bool.not_true, Bool.not_false, ix0, r_lift, pk2_atom at0, isNone_ok, e1]
    | false =>
      cases e2 : isBo x0 with
      | true => simp -implicitDefEqProofs only [eq_self, r_thn, r_tk, r_tk0, r_ret, r_lift, r_lift0, r_var, r_vk, r_bin, r_un, r_nil, r_cons, r_tup, r_of, r_call, r_tst, r_kt, r_ikT, r_ikF, r_ite, r_if, r_ife, r_and, r_or, r_not, r_vand, r_vor, r_vnot, r_chain, r_hkT, r_hkF, r_part, r_ok, r_sl, r_seq, r_skN, r_skR, r_skF, r_skB, r_skC, r_next, r_retS, r_rk, r_retF, r_rfk, r_drop, r_dk, r_asg, r_gk, r_gk2, gNm, r_tp, r_gs, r_qk, r_gs0, r_froz, r_frk, r_cmk, r_setI, r_stk, r_stk2, r_sti, r_pl, r_stj, r_aug, r_aug1, r_aug2, r_aug3, r_opN, r_par, r_prk, r_callN, r_tupRg, and_self, ixN0, ixN1, ixN2, r_peek, r_pk, r_pkI, r_pkB, r_pkS, r_pkN, r_tpeek, r_bk1, r_bk2, r_frz, r_fzk, r_own, owk, r_frkK, r_ownK, r_ixEd, r_ixEt, r_ixEl, r_inK, r_ninK, r_mk4, r_mk3, r_met, r_mk2, r_callM, r_mk2b, r_callM1, r_lenIs, r_callF, r_mat, r_mtk, r_mEnd, r_mCase, r_for, r_lk, r_items, r_itL, r_itT, r_rng, r_enum, r_zipM, zipM_ok, r_star, starL_ok, starT_ok, enumL_ok, enumT_ok, for_nil, r_lc, r_lck2, lc_nil, r_outM, r_outMn, r_outM1, r_outM1n, r_outD, r_outDf, r_outDn, r_outF, ixL0, ixL1, ixL2, ixT0, ixT1, ixT2, addI_ok, subI_ok, gtI_ok, geI_ok, leI_ok, ltI_ok, lenL_ok, lenT_ok, abs_ok, intB_ok, List.getElem?_cons_zero, List.getElem?_cons_succ, List.length_cons, List.length_nil, List.set_cons_zero, List.set_cons_succ, List.map_cons, List.map_nil, List.cons_append, List.nil_append, List.replicate_succ, List.replicate_zero, Nat.reduceAdd, Nat.reduceSub, Nat.reduceLT, Nat.reduceEqDiff, Option.bind_some, Option.bind_none, Option.map_some, Option.map_none, if_true, if_false, ite_true, ite_false, ↓reduceIte, Bool.not_true, Bool.not_false, ix0, r_lift, pk2_atom at0, isNone_ok, e1, isBo_ok, e2]
      | false =>
        cases e3 : isBo a0 with
        | true => simp -implicitDefEqProofs only [eq_self, r_thn, r_tk, r_tk0, r_ret, r_lift, r_lift0, r_var, r_vk, r_bin, r_un, r_nil, r_cons, r_tup, r_of, r_call, r_tst, r_kt, r_ikT, r_ikF, r_ite, r_if, r_ife, r_and, r_or, r_not, r_vand, r_vor, r_vnot, r_chain, r_hkT, r_hkF, r_part, r_ok, r_sl, r_seq, r_skN, r_skR, r_skF, r_skB, r_skC, r_next, r_retS, r_rk, r_retF, r_rfk, r_drop, r_dk, r_asg, r_gk, r_gk2, gNm, r_tp, r_gs, r_qk, r_gs0, r_froz, r_frk, r_cmk, r_setI, r_stk, r_stk2, r_sti, r_pl, r_stj, r_aug, r_aug1, r_aug2, r_aug3, r_opN, r_par, r_prk, r_callN, r_tupRg, and_self, ixN0, ixN1, ixN2, r_peek, r_pk, r_pkI, r_pkB, r_pkS, r_pkN, r_tpeek, r_bk1, r_bk2, r_frz, r_fzk, r_own, owk, r_frkK, r_ownK, r_ixEd, r_ixEt, r_ixEl, r_inK, r_ninK, r_mk4, r_mk3, r_met, r_mk2, r_callM, r_mk2b, r_callM1, r_lenIs, r_callF, r_mat, r_mtk, r_mEnd, r_mCase, r_for, r_lk, r_items, r_itL, r_itT, r_rng, r_enum, r_zipM, zipM_ok, r_star, starL_ok, starT_ok, enumL_ok, enumT_ok, for_nil, r_lc, r_lck2, lc_nil, r_outM, r_outMn, r_outM1, r_outM1n, r_outD, r_outDf, r_outDn, r_outF, ixL0, ixL1, ixL2, ixT0, ixT1, ixT2, addI_ok, subI_ok, gtI_ok, geI_ok, leI_ok, ltI_ok, lenL_ok, lenT_ok, abs_ok, intB_ok, List.getElem?_cons_zero, List.getElem?_cons_succ, List.length_cons, List.length_nil, List.set_cons_zero, List.set_cons_succ, List.map_cons, List.map_nil, List.cons_append, List.nil_append, List.replicate_succ, List.replicate_zero, Nat.reduceAdd, Nat.reduceSub, Nat.reduceLT, Nat.reduceEqDiff, Option.bind_some, Option.bind_none, Option.map_some, Option.map_none, if_true, if_false, ite_true, ite_false, ↓reduceIte, Bool.not_true, Bool.not_false, ix0, r_lift, pk2_atom at0, isNone_ok, e1, isBo_ok, e2, iy0, iz0, e3]
        | false =>
          have e4 : isBo a1 = true := by rw [e1, e2, e3] at h; exact h
          simp -implicitDefEqProofs only [eq_self, r_thn, r_tk, r_tk0, r_ret, r_lift, r_lift0, r_var, r_vk, r_bin, r_un, r_nil, r_cons, r_tup, r_of, r_call, r_tst, r_kt, r_ikT, r_ikF, r_ite, r_if, r_ife, r_and, r_or, r_not, r_vand, r_vor, r_vnot, r_chain, r_hkT, r_hkF, r_part, r_ok, r_sl, r_seq, r_skN, r_skR, r_skF, r_skB, r_skC, r_next, r_retS, r_rk, r_retF, r_rfk, r_drop, r_dk, r_asg, r_gk, r_gk2, gNm, r_tp, r_gs, r_qk, r_gs0, r_froz, r_frk, r_cmk, r_setI, r_stk, r_stk2, r_sti, r_pl, r_stj, r_aug, r_aug1, r_aug2, r_aug3, r_opN, r_par, r_prk, r_callN, r_tupRg, and_self, ixN0, ixN1, ixN2, r_peek, r_pk, r_pkI, r_pkB, r_pkS, r_pkN, r_tpeek, r_bk1, r_bk2, r_frz, r_fzk, r_own, owk, r_frkK, r_ownK, r_ixEd, r_ixEt, r_ixEl, r_inK, r_ninK, r_mk4, r_mk3, r_met, r_mk2, r_callM, r_mk2b, r_callM1, r_lenIs, r_callF, r_mat, r_mtk, r_mEnd, r_mCase, r_for, r_lk, r_items, r_itL, r_itT, r_rng, r_enum, r_zipM, zipM_ok, r_star, starL_ok, starT_ok, enumL_ok, enumT_ok, for_nil, r_lc, r_lck2, lc_nil, r_outM, r_outMn, r_outM1, r_outM1n, r_outD, r_outDf, r_outDn, r_outF, ixL0, ixL1, ixL2, ixT0, ixT1, ixT2, addI_ok, subI_ok, gtI_ok, geI_ok, leI_ok, ltI_ok, lenL_ok, lenT_ok, abs_ok, intB_ok, List.getElem?_cons_zero, List.getElem?_cons_succ, List.length_cons, List.length_nil, List.set_cons_zero, List.set_cons_succ, List.map_cons, List.map_nil, List.cons_append, List.nil_append, List.replicate_succ, List.replicate_zero, Nat.reduceAdd, Nat.reduceSub, Nat.reduceLT, Nat.reduceEqDiff, Option.bind_some, Option.bind_none, Option.map_some, Option.map_none, if_true, if_false, ite_true, ite_false, ↓reduceIte, Bool.not_true, Bool.not_false, ix0, r_lift, pk2_atom at0, isNone_ok, e1, isBo_ok, e2, iy0, iz0, e3, iy1, iz1, e4]
  · intro h
    obtain ⟨⟨⟨e1, e2⟩, e3⟩, e4⟩ : ((isN x0 = false ∧ isBo x0 = false) ∧ isBo a0 = false) ∧ isBo a1 = false := by
      simpa only [Bool.or_eq_false_iff] using h
    obtain ⟨i, rfl⟩ : ∃ i, x0 = .int i := by
      rcases nums x0 (List.mem_of_getElem? hx) with rfl | ⟨i, hi⟩
      · cases e1
      · cases x0 with
        | int i => exact ⟨_, rfl⟩
        | bool b => cases e2
        | _ => cases hi
    obtain ⟨r1, r2⟩ := rg i rfl
    obtain ⟨o, rfl⟩ : ∃ o : Nat, i = (o : Int) := ⟨i.toNat, by omega⟩
    have ho : o < M := by omega
    refine ⟨o, rfl, ho, ?_⟩
    have p1 : ixN B.length (o : Int) = some o := Evl.ixN_nat (by omega)
    have nm1 : ∀ x ∈ B.set o (.int (M : Int)), smpl x = true := fun x hx => by
      rcases List.mem_or_eq_of_mem_set hx with hx | rfl
      · exact smpl_num (nums x hx)
      · rfl
    have len1 : (B.set o (.int (M : Int))).length = M := by rw [List.length_set]; exact hl
    have p2 : ixN (B.set o (.int (M : Int))).length (o : Int) = some o := Evl.ixN_nat (by omega)
    have aw1 : allV [.list (B.set o (.int (M : Int)))] = some (.bool ((B.set o (.int (M : Int))).all PyData.truthy)) := if_pos (List.all_eq_true.mpr nm1)
    have aw2 : allV [.list ((B.set o (.int (M : Int))).drop l)] = some (.bool (((B.set o (.int (M : Int))).drop l).all PyData.truthy)) := if_pos (List.all_eq_true.mpr fun x hx => nm1 x (List.mem_of_mem_drop hx))
    have sl : slD (.list (B.set o (.int (M : Int)))) (some (l : Int)) none = some (.list ((B.set o (.int (M : Int))).drop l)) := by
      show some (PyData.list (Tw.cutD _ _ _)) = _
      rw [cut_from _ (by rw [len1]; exact lM)]
    have q2 : isiD "bool" (.int (o : Int)) = some (.bool false) := rfl
    have q1 : isNoneD (.int (o : Int)) .none = some (.bool false) := rfl
    subst hl
    unfold g_are_all_met runM f_are_all_met
    by_cases c : l = ws.length
    · rw [if_pos c]
      have c' : decide (l = ws.length) = true := decide_eq_true c
      simp -implicitDefEqProofs only [eq_self, r_thn, r_tk, r_tk0, r_ret, r_lift, r_lift0, r_var, r_vk, r_bin, r_un, r_nil, r_cons, r_tup, r_of, r_call, r_tst, r_kt, r_ikT, r_ikF, r_ite, r_if, r_ife, r_and, r_or, r_not, r_vand, r_vor, r_vnot, r_chain, r_hkT, r_hkF, r_part, r_ok, r_sl, r_seq, r_skN, r_skR, r_skF, r_skB, r_skC, r_next, r_retS, r_rk, r_retF, r_rfk, r_drop, r_dk, r_asg, r_gk, r_gk2, gNm, r_tp, r_gs, r_qk, r_gs0, r_froz, r_frk, r_cmk, r_setI, r_stk, r_stk2, r_sti, r_pl, r_stj, r_aug, r_aug1, r_aug2, r_aug3, r_opN, r_par, r_prk, r_callN, r_tupRg, and_self, ixN0, ixN1, ixN2, r_peek, r_pk, r_pkI, r_pkB, r_pkS, r_pkN, r_tpeek, r_bk1, r_bk2, r_frz, r_fzk, r_own, owk, r_frkK, r_ownK, r_ixEd, r_ixEt, r_ixEl, r_inK, r_ninK, r_mk4, r_mk3, r_met, r_mk2, r_callM, r_mk2b, r_callM1, r_lenIs, r_callF, r_mat, r_mtk, r_mEnd, r_mCase, r_for, r_lk, r_items, r_itL, r_itT, r_rng, r_enum, r_zipM, zipM_ok, r_star, starL_ok, starT_ok, enumL_ok, enumT_ok, for_nil, r_lc, r_lck2, lc_nil, r_outM, r_outMn, r_outM1, r_outM1n, r_outD, r_outDf, r_outDn, r_outF, ixL0, ixL1, ixL2, ixT0, ixT1, ixT2, addI_ok, subI_ok, gtI_ok, geI_ok, leI_ok, ltI_ok, lenL_ok, lenT_ok, abs_ok, intB_ok, List.getElem?_cons_zero, List.getElem?_cons_succ, List.length_cons, List.length_nil, List.set_cons_zero, List.set_cons_succ, List.map_cons, List.map_nil, List.cons_append, List.nil_append, List.replicate_succ, List.replicate_zero, Nat.reduceAdd, Nat.reduceSub, Nat.reduceLT, Nat.reduceEqDiff, Option.bind_some, Option.bind_none, Option.map_some, Option.map_none, if_true, if_false, ite_true, ite_false, ↓reduceIte, Bool.not_true, Bool.not_false, ix0, q1, q2, isBo_ok, e2, iy0, iz0, e3, iy1, iz1, e4, p1, eqN, c', sl, aw2, p2]
    · rw [if_neg c]
      have c' : decide (l = ws.length) = false := decide_eq_false c
      simp -implicitDefEqProofs only [eq_self, r_thn, r_tk, r_tk0, r_ret, r_lift, r_lift0, r_var, r_vk, r_bin, r_un, r_nil, r_cons, r_tup, r_of, r_call, r_tst, r_kt, r_ikT, r_ikF, r_ite, r_if, r_ife, r_and, r_or, r_not, r_vand, r_vor, r_vnot, r_chain, r_hkT, r_hkF, r_part, r_ok, r_sl, r_seq, r_skN, r_skR, r_skF, r_skB, r_skC, r_next, r_retS, r_rk, r_retF, r_rfk, r_drop, r_dk, r_asg, r_gk, r_gk2, gNm, r_tp, r_gs, r_qk, r_gs0, r_froz, r_frk, r_cmk, r_setI, r_stk, r_stk2, r_sti, r_pl, r_stj, r_aug, r_aug1, r_aug2, r_aug3, r_opN, r_par, r_prk, r_callN, r_tupRg, and_self, ixN0, ixN1, ixN2, r_peek, r_pk, r_pkI, r_pkB, r_pkS, r_pkN, r_tpeek, r_bk1, r_bk2, r_frz, r_fzk, r_own, owk, r_frkK, r_ownK, r_ixEd, r_ixEt, r_ixEl, r_inK, r_ninK, r_mk4, r_mk3, r_met, r_mk2, r_callM, r_mk2b, r_callM1, r_lenIs, r_callF, r_mat, r_mtk, r_mEnd, r_mCase, r_for, r_lk, r_items, r_itL, r_itT, r_rng, r_enum, r_zipM, zipM_ok, r_star, starL_ok, starT_ok, enumL_ok, enumT_ok, for_nil, r_lc, r_lck2, lc_nil, r_outM, r_outMn, r_outM1, r_outM1n, r_outD, r_outDf, r_outDn, r_outF, ixL0, ixL1, ixL2, ixT0, ixT1, ixT2, addI_ok, subI_ok, gtI_ok, geI_ok, leI_ok, ltI_ok, lenL_ok, lenT_ok, abs_ok, intB_ok, List.getElem?_cons_zero, List.getElem?_cons_succ, List.length_cons, List.length_nil, List.set_cons_zero, List.set_cons_succ, List.map_cons, List.map_nil, List.cons_append, List.nil_append, List.replicate_succ, List.replicate_zero, Nat.reduceAdd, Nat.reduceSub, Nat.reduceLT, Nat.reduceEqDiff, Option.bind_some, Option.bind_none, Option.map_some, Option.map_none, if_true, if_false, ite_true, ite_false, ↓reduceIte, Bool.not_true, Bool.not_false, ix0, q1, q2, isBo_ok, e2, iy0, iz0, e3, iy1, iz1, e4, p1, eqN, c', aw1, p2]
end Lw

set_option Elab.async false
set_option linter.all false
set_option maxRecDepth 100000
set_option maxHeartbeats 4000000
namespace Lw
open PySem PySem.Spec PyProof.Rows L2 Tw
/-- the table of the hands across -/
structure Tab (M : Nat) (U : List (Int × Option Int)) (B : List PyData) : Prop where
  len : B.length = M
  two : ∀ v ∈ U, ∀ g, v.2 = some g → B[v.1.toNat]? = some (.int g) ∧ B[g.toNat]? = some (.int v.1)
  one : ∀ v ∈ U, v.2 = none → B[v.1.toNat]? = some .none
theorem way_first {w : PyData} {v : Int × Option Int} (h : wayN w = some v) : ∃ ds a, w = .tuple ds ∧ ds[0]? = some a ∧ numV a = some v.1 := by
  rcases wayN_inv h with ⟨a, rfl, ha, _⟩ | ⟨a, b, g, rfl, ha, _⟩
  · exact ⟨_, a, rfl, rfl, ha⟩
  · exact ⟨_, a, rfl, rfl, ha⟩
theorem mem_flat_inv {V : List (Int × Option Int)} {x : Int} (h : x ∈ flatW V) : ∃ v ∈ V, x = v.1 ∨ v.2 = some x := by
  obtain ⟨v, hv, hm⟩ := List.mem_flatMap.mp h
  refine ⟨v, hv, ?_⟩
  rcases List.mem_cons.mp hm with e | hm
  · exact .inl e
  · refine .inr ?_
    cases h : v.2 with
    | none => rw [h] at hm; cases hm
    | some g => rw [h] at hm; rw [List.mem_singleton.mp (show x ∈ [g] from hm)]
section
variable {M l : Nat} {ws B E : List PyData} {U : List (Int × Option Int)}
/-- where the hand 0 stands across -/
theorem zero_only (I : HI M ws U B E l) (nd : (flatW U).Nodup) {x0 x : PyData} {j : Nat} {o : Int} (hM : 0 < M) (h0 : B[0]? = some x0) (ho : numV x0 = some o) (hx : B[j]? = some x) (hz : numV x = some 0) (hj : j < M) : (j : Int) = o := by
  have hm : (j : Int) ∈ flatW U := (I.met j hj).mpr ⟨x, hx, notN_num hz⟩
  have uniq : ∀ {k : Nat} {y z : PyData}, B[k]? = some y → B[k]? = some z → y = z := fun a b => by rw [a] at b; exact Option.some.inj b
  obtain ⟨v, hv, e | e⟩ := mem_flat_inv hm
  · have v0 := (I.rng _ (mem_flat hv)).1
    have ej : v.1.toNat = j := by omega
    cases h2 : v.2 with
    | none =>
      obtain ⟨y, h3, h4⟩ := (I.tab nd v hv).2 h2
      rw [ej] at h3
      rw [← uniq hx h3, hz] at h4
      have := Option.some.inj h4
      have j0 : j = 0 := by omega
      subst j0
      rw [uniq hx h0, ho] at hz
      have := Option.some.inj hz
      omega
    | some g =>
      obtain ⟨y, h3, h4⟩ := ((I.tab nd v hv).1 g h2).1
      rw [ej] at h3
      rw [← uniq hx h3, hz] at h4
      have := Option.some.inj h4
      have := I.inn v hv g h2
      omega
  · obtain ⟨⟨y, h3, h4⟩, z, h5, h6⟩ := (I.tab nd v hv).1 _ e
    rw [Int.toNat_natCast] at h5
    rw [← uniq hx h5, hz] at h6
    have e0 := Option.some.inj h6
    rw [← e0] at h3
    rw [← uniq h0 (show B[0]? = some y from h3), ho] at h4
    exact (Option.some.inj h4).symm
theorem met_ok (I : HI M ws U B E l) (hU : waysN ws = some U) (hM : 3 < M) (hl : (flatW U).length = M) :
    ∃ c B', g_are_all_met B [.tuple ws, .int (l : Int)] = some (.bool c, B') ∧ (c = true → waysI ws = some U ∧ whole M U ∧ B' = B ∧ ∀ x ∈ B, ∃ i, x = .int i) ∧ (c = false → ¬ ∃ U', waysI ws = some U' ∧ whole M U') := by
  obtain ⟨w1, w2, w3⟩ := waysN_tup hU
  have fe := flat_ends U
  have e0 : 0 ≤ endsN U := by unfold endsN; omega
  have uI : ∀ U', waysI ws = some U' → U' = U ∧ ∀ x ∈ ws.flatMap handsT, ∃ i, x = .int i := fun U' h => by
    obtain ⟨a, b⟩ := waysI_N h
    rw [hU] at a
    exact ⟨(Option.some.inj a).symm, b⟩
  have h2 : 2 ≤ ws.length := by omega
  obtain ⟨d0, hd0⟩ : ∃ d, ws[0]? = some d := ⟨_, List.getElem?_eq_getElem (by omega)⟩
  obtain ⟨d1, hd1⟩ : ∃ d, ws[1]? = some d := ⟨_, List.getElem?_eq_getElem (by omega)⟩
  obtain ⟨x0, hx0⟩ : ∃ x, B[0]? = some x := ⟨_, List.getElem?_eq_getElem (by rw [I.len]; omega)⟩
  obtain ⟨v0, hv0, n0⟩ := waysN_get hU 0 d0 hd0
  obtain ⟨v1, hv1, n1⟩ := waysN_get hU 1 d1 hd1
  obtain ⟨r0, a0, rfl, g0, m0⟩ := way_first n0
  obtain ⟨r1, a1, rfl, g1, m1⟩ := way_first n1
  have rg : ∀ o, numV x0 = some o → 0 ≤ o ∧ o < (M : Int) := fun o h => I.rng _ (I.val x0 (List.mem_of_getElem? hx0) o h)
  have inH : ∀ {p : Nat} {r : List PyData} {a : PyData}, ws[p]? = some (.tuple r) → a ∈ r → a ∈ ws.flatMap handsT := fun h m => List.mem_flatMap.mpr ⟨_, List.mem_of_getElem? h, m⟩
  obtain ⟨R1, R2⟩ := met_run (by omega : 0 < M) I.len I.lM I.nums hx0 hd0 hd1 g0 g1 rg
  have noB : ∀ {a : PyData}, (∃ i, a = .int i) → isBo a = false := fun ⟨i, e⟩ => by rw [e]; rfl
  cases hc : isN x0 || isBo x0 || isBo a0 || isBo a1 with
  | true =>
    refine ⟨false, B, R1 hc, (fun z => nomatch z), fun _ => ?_⟩
    rintro ⟨U', h1, h2⟩
    obtain ⟨rfl, hi⟩ := uI U' h1
    have z0 : isN x0 = false := by
      have m : ((0 : Nat) : Int) ∈ flatW U' := h2.1.mem_iff.mpr (mem_rangeI.mpr (by omega))
      obtain ⟨y, h3, h4⟩ := (I.met 0 (by omega)).mp m
      rw [hx0] at h3
      cases h3
      exact h4
    have z1 : isBo x0 = false := by
      rcases I.raw x0 (List.mem_of_getElem? hx0) with rfl | h
      · rfl
      · exact noB (hi _ h)
    rw [z0, z1, noB (hi _ (inH hd0 (List.mem_of_getElem? g0))), noB (hi _ (inH hd1 (List.mem_of_getElem? g1)))] at hc
    cases hc
  | false =>
    obtain ⟨o, rfl, ho, run⟩ := R2 hc
    obtain ⟨⟨⟨_, _⟩, b0⟩, b1⟩ : ((isN (.int (o : Int)) = false ∧ isBo (.int (o : Int)) = false) ∧ isBo a0 = false) ∧ isBo a1 = false := by
      simpa only [Bool.or_eq_false_iff] using hc
    have lB := I.len
    have tr : ∀ (j : Nat) (x : PyData), (B.set o (.int (M : Int)))[j]? = some x → x.truthy = true → j < M → (j : Int) ∈ flatW U := fun j x h ht hj => by
      by_cases e : j = o
      · subst e
        exact I.val _ (List.mem_of_getElem? hx0) _ rfl
      · rw [List.getElem?_set_ne (Ne.symm e)] at h
        refine (I.met j hj).mpr ⟨x, h, ?_⟩
        cases hn : isN x with
        | false => rfl
        | true => rw [isN_eq hn] at ht; cases ht
    have len1 : (B.set o (.int (M : Int))).length = M := by rw [List.length_set]; exact lB
    refine ⟨_, _, run, fun hc => ?_, fun hc => ?_⟩
    · have cover : ∀ j : Nat, j < M → (j : Int) ∈ flatW U := fun j hj => by
        obtain ⟨x, hx⟩ : ∃ x, (B.set o (.int (M : Int)))[j]? = some x := ⟨_, List.getElem?_eq_getElem (by omega)⟩
        by_cases c : l = ws.length
        · rw [if_pos c] at hc
          by_cases hjl : j < l
          · exact I.low (by omega) j hjl
          · refine tr j x hx (List.all_eq_true.mp hc x ?_) hj
            refine List.mem_of_getElem? (i := j - l) ?_
            rw [List.getElem?_drop, show l + (j - l) = j by omega]
            exact hx
        · rw [if_neg c] at hc
          exact tr j x hx (List.all_eq_true.mp hc x (List.mem_of_getElem? hx)) hj
      have pm := perm_of_cover cover hl
      have nd : (flatW U).Nodup := pm.nodup_iff.mpr (nodup_rangeI M)
      have z0 : v0.1 = 0 := by
        obtain ⟨v, hv, e | e⟩ := mem_flat_inv (cover 0 (by omega))
        · obtain ⟨p, hp, ep⟩ := List.mem_iff_getElem.mp hv
          have hp' : U[p]? = some v := by rw [List.getElem?_eq_getElem hp, ep]
          have := first_ge I.ord (fun v hv => (I.rng _ (mem_flat hv)).1) p v hp'
          have p0 : p = 0 := by omega
          subst p0
          rw [hv0] at hp'
          cases hp'
          omega
        · have := I.inn v hv _ e
          have := (I.rng _ (mem_flat hv)).1
          omega
      have big : ∀ (y : PyData) (i : Int), numV y = some i → 2 ≤ i → isBo y = false := fun y i hy hi => by
        cases y with
        | bool b =>
          have : bI b = i := Option.some.inj hy
          cases b
          · have : (0 : Int) = i := this
            omega
          · have : (1 : Int) = i := this
            omega
        | _ => rfl
      have nb : ∀ x ∈ ws.flatMap handsT, isBo x = false := fun x hx => by
        obtain ⟨w, hw, hxw⟩ := List.mem_flatMap.mp hx
        obtain ⟨p, hp, e⟩ := List.mem_iff_getElem.mp hw
        have hp' : ws[p]? = some w := by rw [List.getElem?_eq_getElem hp, e]
        obtain ⟨v, hv, hn⟩ := waysN_get hU p w hp'
        have ge := first_ge I.ord (fun v hv => (I.rng _ (mem_flat hv)).1) p v hv
        have fst : ∀ {r : List PyData} {a : PyData}, w = .tuple (a :: r) → numV a = some v.1 → isBo a = false := fun {r a} e ha => by
          subst e
          match p, hp', ge with
          | 0, hp', _ => rw [hd0] at hp'; cases hp'; cases g0; exact b0
          | 1, hp', _ => rw [hd1] at hp'; cases hp'; cases g1; exact b1
          | p + 2, _, ge => exact big a _ ha (by omega)
        rcases wayN_inv hn with ⟨a, rfl, ha, _⟩ | ⟨a, b, g, rfl, ha, hb, hg, _⟩
        · rw [List.mem_singleton.mp (show x ∈ [a] from hxw)]
          exact fst rfl ha
        · rcases List.mem_cons.mp (show x ∈ [a, b] from hxw) with rfl | hxw
          · exact fst rfl ha
          · rw [List.mem_singleton.mp hxw]
            match p, hp', hv, ge with
            | 0, hp', hv, _ =>
              rw [hv0] at hv
              cases hv
              have := I.hd nd a b _ (List.mem_of_getElem? hp') ha
              rw [z0] at this
              have this : B[0]? = some b := this
              rw [hx0] at this
              cases this
              rfl
            | p + 1, _, _, ge => exact big b _ hb (by omega)
      have rawI : ∀ (x : PyData) (i : Int), x ∈ B → numV x = some i → x = .int i := fun x i hx hi => by
        refine num_int hi ?_
        rcases I.raw x hx with rfl | h
        · rfl
        · exact nb x h
      have bo : B[o]? = some (.int 0) := by
        cases h2 : v0.2 with
        | none =>
          obtain ⟨y, h3, h4⟩ := (I.tab nd v0 (List.mem_of_getElem? hv0)).2 h2
          rw [z0] at h3 h4
          rw [show B[(0 : Int).toNat]? = B[0]? from rfl, hx0] at h3
          cases h3
          have := Option.some.inj h4
          have o0 : o = 0 := by omega
          subst o0
          exact hx0
        | some g =>
          obtain ⟨⟨y, h3, h4⟩, z, h5, h6⟩ := (I.tab nd v0 (List.mem_of_getElem? hv0)).1 g h2
          rw [z0] at h3 h6
          rw [show B[(0 : Int).toNat]? = B[0]? from rfl, hx0] at h3
          cases h3
          have := Option.some.inj h4
          subst this
          rw [Int.toNat_natCast] at h5
          rw [h5, rawI z 0 (List.mem_of_getElem? h5) h6]
      refine ⟨waysN_I hU nb, ⟨pm, I.ord, I.inn⟩, ?_, fun x hx => ?_⟩
      · rw [List.set_set]
        refine List.ext_getElem? fun k => ?_
        by_cases e : k = o
        · subst e
          rw [List.getElem?_set_self (by omega), bo]
        · exact List.getElem?_set_ne (Ne.symm e)
      · obtain ⟨p, hp, e⟩ := List.mem_iff_getElem.mp hx
        have hp' : B[p]? = some x := by rw [List.getElem?_eq_getElem hp, e]
        obtain ⟨y, h3, h4⟩ := (I.met p (by omega)).mp (cover p (by omega))
        rw [hp'] at h3
        cases h3
        rcases I.nums x hx with rfl | ⟨i, hi⟩
        · cases h4
        · exact ⟨i, rawI x i hx hi⟩
    · rintro ⟨U', h1, h2⟩
      obtain ⟨rfl, hi⟩ := uI U' h1
      have nd : (flatW U').Nodup := h2.1.nodup_iff.mpr (nodup_rangeI M)
      have all : ∀ x ∈ B.set o (.int (M : Int)), x.truthy = true := fun x hx => by
        obtain ⟨p, hp, e⟩ := List.mem_iff_getElem.mp hx
        have hp' : (B.set o (.int (M : Int)))[p]? = some x := by rw [List.getElem?_eq_getElem hp, e]
        by_cases ep : p = o
        · subst ep
          rw [List.getElem?_set_self (by omega)] at hp'
          cases hp'
          rw [truthy_num (show numV (.int (M : Int)) = some (M : Int) from rfl), decide_eq_false (by omega)]
          rfl
        · rw [List.getElem?_set_ne (Ne.symm ep)] at hp'
          have hpM : p < M := by omega
          obtain ⟨y, h3, h4⟩ := (I.met p hpM).mp (h2.1.mem_iff.mpr (mem_rangeI.mpr (by omega)))
          rw [hp'] at h3
          cases h3
          rcases I.nums x (List.mem_of_getElem? hp') with rfl | ⟨i, hi⟩
          · cases h4
          · rw [truthy_num hi, Bool.not_eq_true', decide_eq_false_iff_not]
            intro z
            subst z
            have := zero_only I nd (by omega) hx0 rfl hp' hi hpM
            omega
      by_cases c : l = ws.length
      · rw [if_pos c] at hc
        rw [List.all_eq_true.mpr fun x hx => all x (List.mem_of_mem_drop hx)] at hc
        cases hc
      · rw [if_neg c, List.all_eq_true.mpr all] at hc
        cases hc
end
/-- ends have none across -/
theorem ends_run {t s1 s3 s4 s5 s7 s8 s9 s10 : Sl} : ∀ (E : List PyData) (ks : List Nat) (B : List PyData) (s6 : Sl), E.map numV = ks.map (fun k : Nat => some (k : Int)) → (∀ k ∈ ks, k < B.length) →
    ∃ s6', forF (gNm 6) b2_hands_across E [t, s1, .m (.l B), s3, s4, s5, s6, s7, s8, s9, s10] = some (.nx [t, s1, .m (.l (ks.foldl (fun B k => B.set k .none) B)), s3, s4, s5, s6', s7, s8, s9, s10])
  | [], ks, B, s6, h, _ => by
    have : ks = [] := by cases ks with
      | nil => rfl
      | cons k ks => cases h
    subst this
    exact ⟨s6, rfl⟩
  | e :: E, ks, B, s6, h, hk => by
    match ks, h, hk with
    | k :: ks, h, hk =>
      rw [List.map_cons, List.map_cons] at h
      obtain ⟨h1, h2⟩ := List.cons.inj h
      have p := pl_num h1 (hk k (List.mem_cons_self ..))
      obtain ⟨s6', ih⟩ := ends_run (t := t) (s1 := s1) (s3 := s3) (s4 := s4) (s5 := s5) (s7 := s7) (s8 := s8) (s9 := s9) (s10 := s10) E ks (B.set k .none) (.d e) h2 fun j hj => by rw [List.length_set]; exact hk j (List.mem_cons_of_mem _ hj)
      have hg : gNm 6 e [t, s1, .m (.l B), s3, s4, s5, s6, s7, s8, s9, s10] = some [t, s1, .m (.l B), s3, s4, s5, .d e, s7, s8, s9, s10] := rfl
      have hb : b2_hands_across [t, s1, .m (.l B), s3, s4, s5, .d e, s7, s8, s9, s10] = some (.nx [t, s1, .m (.l (B.set k .none)), s3, s4, s5, .d e, s7, s8, s9, s10]) := by
        unfold b2_hands_across
        simp -implicitDefEqProofs only [eq_self, r_thn, r_tk, r_tk0, r_ret, r_lift, r_lift0, r_var, r_vk, r_bin, r_un, r_nil, r_cons, r_tup, r_of, r_call, r_tst, r_kt, r_ikT, r_ikF, r_ite, r_if, r_ife, r_and, r_or, r_not, r_vand, r_vor, r_vnot, r_chain, r_hkT, r_hkF, r_part, r_ok, r_sl, r_seq, r_skN, r_skR, r_skF, r_skB, r_skC, r_next, r_retS, r_rk, r_retF, r_rfk, r_drop, r_dk, r_asg, r_gk, r_gk2, gNm, r_tp, r_gs, r_qk, r_gs0, r_froz, r_frk, r_cmk, r_setI, r_stk, r_stk2, r_sti, r_pl, r_stj, r_aug, r_aug1, r_aug2, r_aug3, r_opN, r_par, r_prk, r_callN, r_tupRg, and_self, ixN0, ixN1, ixN2, r_peek, r_pk, r_pkI, r_pkB, r_pkS, r_pkN, r_tpeek, r_bk1, r_bk2, r_frz, r_fzk, r_own, owk, r_frkK, r_ownK, r_ixEd, r_ixEt, r_ixEl, r_inK, r_ninK, r_mk4, r_mk3, r_met, r_mk2, r_callM, r_mk2b, r_callM1, r_lenIs, r_callF, r_mat, r_mtk, r_mEnd, r_mCase, r_for, r_lk, r_items, r_itL, r_itT, r_rng, r_enum, r_zipM, zipM_ok, r_star, starL_ok, starT_ok, enumL_ok, enumT_ok, for_nil, r_lc, r_lck2, lc_nil, r_outM, r_outMn, r_outM1, r_outM1n, r_outD, r_outDf, r_outDn, r_outF, ixL0, ixL1, ixL2, ixT0, ixT1, ixT2, addI_ok, subI_ok, gtI_ok, geI_ok, leI_ok, ltI_ok, lenL_ok, lenT_ok, abs_ok, intB_ok, List.getElem?_cons_zero, List.getElem?_cons_succ, List.length_cons, List.length_nil, List.set_cons_zero, List.set_cons_succ, List.map_cons, List.map_nil, List.cons_append, List.nil_append, List.replicate_succ, List.replicate_zero, Nat.reduceAdd, Nat.reduceSub, Nat.reduceLT, Nat.reduceEqDiff, Option.bind_some, Option.bind_none, Option.map_some, Option.map_none, if_true, if_false, ite_true, ite_false, ↓reduceIte, Bool.not_true, Bool.not_false, p]
      exact ⟨s6', by rw [for_nx hg hb, ih, List.foldl_cons]⟩
theorem fold_get (ks : List Nat) : ∀ (B : List PyData) (j : Nat), (ks.foldl (fun B k => B.set k PyData.none) B).length = B.length ∧ (ks.foldl (fun B k => B.set k PyData.none) B)[j]? = if j ∈ ks ∧ j < B.length then some .none else B[j]? := by
  induction ks with
  | nil => exact fun B j => ⟨rfl, by rw [if_neg fun z => nomatch z.1]; rfl⟩
  | cons k ks ih =>
    intro B j
    obtain ⟨h1, h2⟩ := ih (B.set k .none) j
    rw [List.foldl_cons]
    refine ⟨h1.trans List.length_set, ?_⟩
    rw [h2, List.length_set]
    by_cases hj : j < B.length
    · by_cases e : j ∈ ks
      · rw [if_pos ⟨e, hj⟩, if_pos ⟨List.mem_cons_of_mem _ e, hj⟩]
      · rw [if_neg fun z => e z.1]
        by_cases ek : j = k
        · subst ek
          rw [if_pos ⟨List.mem_cons_self .., hj⟩, List.getElem?_set_self hj]
        · rw [List.getElem?_set_ne (Ne.symm ek), if_neg]
          rintro ⟨z, _⟩
          rcases List.mem_cons.mp z with z | z
          · exact ek z
          · exact e z
    · rw [if_neg fun z => hj z.2, if_neg fun z => hj z.2]
      rw [List.getElem?_eq_none_iff.mpr (by rw [List.length_set]; omega), List.getElem?_eq_none_iff.mpr (by omega)]
theorem ha_row {n : Nat} {ws : List PyData} (h1 : n ≤ 60) (hz : ws.length ≤ 30000) :
    (∃ U B, waysI ws = some U ∧ whole (4 * n) U ∧ g_hands_across [.tuple [.int (n : Int), .tuple ws]] = some (.list B) ∧ Tab (4 * n) U B) ∨
    (g_hands_across [.tuple [.int (n : Int), .tuple ws]] = some .none ∧ ¬ ∃ U, waysI ws = some U ∧ whole (4 * n) U) := by
  have m4 : mulI (.int 4) (.int (n : Int)) = some (.int ((4 * n : Nat) : Int)) := mul_ok 3 7 (by decide) (by decide) (by decide) (by decide) (by omega) (by omega) (by decide)
  have m2 : mulI (.int 2) (.int ((ws.length : Nat) : Int)) = some (.int (2 * (ws.length : Int))) := mul_ok 2 15 (by decide) (by decide) (by decide) (by decide) (by omega) (by omega) (by decide)
  have l2 : eqD (.int ((2 : Nat) : Int)) (.int 2) = some (.bool true) := rfl
  have n2 : neD (.int ((2 : Nat) : Int)) (.int 2) = some (.bool false) := rfl
  have tup : ∀ d : List PyData, isiD "tuple" (.tuple d) = some (.bool true) := fun _ => rfl
  have ii : isiD "int" (.int (n : Int)) = some (.bool true) := rfl
  have ib : isiD "bool" (.int (n : Int)) = some (.bool false) := rfl
  have c0 : decide ((0 : Int) ≤ (n : Int)) = true := decide_eq_true (by omega)
  have c1 : decide ((n : Int) ≤ 60) = true := decide_eq_true (by omega)
  have s1 : Tw.sizeOk 1 = true := rfl
  have s0 : Tw.sizeOk 0 = true := rfl
  have rp : repN (.list [.none]) (.int ((4 * n : Nat) : Int)) = some (List.replicate (4 * n) .none) := by
    have f : ∀ k : Nat, (List.replicate k [PyData.none]).flatten = List.replicate k .none := fun k => by
      induction k with
      | zero => rfl
      | succ k ih => rw [List.replicate_succ, List.flatten_cons, ih, List.replicate_succ]; rfl
    unfold repN
    dsimp only
    rw [Int.toNat_natCast, f, if_pos ⟨by omega, by omega, by rw [List.length_singleton]; omega⟩]
  have R := ways_run (t := .d (.tuple [.int (n : Int), .tuple ws])) (s6 := .un) (s7 := .d (.int (n : Int))) (s8 := .d (.tuple ws)) (M := 4 * n) ws [] [] _ _ 0 .un .un .un (HI.start (4 * n)) (by rw [List.length_nil]; omega)
  rw [show (((0 : Nat) : Int)) = 0 from rfl] at R
  generalize List.replicate (4 * n) PyData.none = R0 at rp R
  rcases R with ⟨U, B, E, l, s5, s9, s10, u1, I, uE, u3⟩ | ⟨⟨ρ, u1⟩, u2⟩
  · rw [List.nil_append, List.nil_append] at I
    obtain ⟨w1, w2, w3⟩ := waysN_tup u1
    have fe := flat_ends U
    have Ee : (E.length : Int) = endsN U := by
      have := congrArg List.length I.ends
      rw [List.length_map, List.length_map] at this
      unfold endsN
      omega
    have lE : (2 * (ws.length : Int) - ((4 * n : Nat) : Int) = (E.length : Int)) ↔ (flatW U).length = 4 * n := by omega
    have uI : ∀ U', waysI ws = some U' → U' = U := fun U' h => by
      have := (waysI_N h).1
      rw [u1] at this
      exact (Option.some.inj this).symm
    have notW : (flatW U).length ≠ 4 * n → ¬ ∃ U', waysI ws = some U' ∧ whole (4 * n) U' := fun hl => by
      rintro ⟨U', h, hW⟩
      rw [uI U' h] at hW
      have := hW.1.length_eq
      rw [len_rangeI] at this
      exact hl this
    by_cases hl : (flatW U).length = 4 * n
    · have ne0 : neD (.int (E.length : Int)) (.int (2 * (ws.length : Int) - ((4 * n : Nat) : Int))) = some (.bool false) := by
        rw [ne_num, lE.mpr hl]
        rw [decide_eq_true (show numV (.int (E.length : Int)) = some (E.length : Int) from rfl)]
        rfl
      -- the last steps
      obtain ⟨ks, hks⟩ : ∃ ks : List Nat, ks = ((U.filter fun v => v.2.isNone).map fun v => v.1.toNat) := ⟨_, rfl⟩
      have ek : E.map numV = ks.map (fun k : Nat => some (k : Int)) := by
        rw [I.ends, hks, List.map_map]
        refine List.map_congr_left fun v hv => ?_
        have := (I.rng _ (mem_flat (List.mem_filter.mp hv).1)).1
        show some v.1 = some ((v.1.toNat : Nat) : Int)
        rw [Int.toNat_of_nonneg this]
      have kl : ∀ k ∈ ks, k < B.length := fun k hk => by
        rw [hks] at hk
        obtain ⟨v, hv, rfl⟩ := List.mem_map.mp hk
        have := I.rng _ (mem_flat (List.mem_filter.mp hv).1)
        rw [I.len]
        omega
      obtain ⟨s6', er⟩ := ends_run (t := .d (.tuple [.int (n : Int), .tuple ws])) (s1 := .d (.int ((4 * n : Nat) : Int))) (s3 := .d (.list E)) (s4 := .d (.int (l : Int))) (s5 := s5) (s7 := .d (.int (n : Int))) (s8 := .d (.tuple ws)) (s9 := s9) (s10 := s10) E ks B .un ek kl
      have tab : waysI ws = some U → whole (4 * n) U → (∀ x ∈ B, ∃ i, x = .int i) → Tab (4 * n) U (ks.foldl (fun B k => B.set k PyData.none) B) := fun hI hW aI => by
        have nd : (flatW U).Nodup := hW.1.nodup_iff.mpr (nodup_rangeI _)
        have lB := I.len
        have exact' : ∀ {k : Nat} {x : PyData} {i : Int}, B[k]? = some x → numV x = some i → B[k]? = some (.int i) := fun {k x i} hx hi => by
          obtain ⟨j, rfl⟩ := aI x (List.mem_of_getElem? hx)
          cases hi
          exact hx
        have inK : ∀ {v : Int × Option Int} {j : Nat}, v ∈ U → v.2 = none → v.1.toNat = j → j ∈ ks := fun {v j} hv h2 e => by
          rw [hks]
          exact List.mem_map.mpr ⟨v, List.mem_filter.mpr ⟨hv, by rw [h2]; rfl⟩, e⟩
        have offK : ∀ {j : Nat} {i : Int}, B[j]? = some (.int i) → i ≠ (j : Int) → j ∉ ks := fun {j i} hj ne hk => by
          rw [hks] at hk
          obtain ⟨v, hv, e⟩ := List.mem_map.mp hk
          obtain ⟨hv, h2⟩ := List.mem_filter.mp hv
          have h2' : v.2 = none := by
            cases h : v.2 with
            | none => rfl
            | some g => rw [h] at h2; cases h2
          obtain ⟨y, h3, h4⟩ := (I.tab nd v hv).2 h2'
          have := (I.rng _ (mem_flat hv)).1
          rw [e, hj] at h3
          cases h3
          have := Option.some.inj h4
          omega
        refine ⟨(fold_get ks B 0).1.trans lB, fun v hv g e => ?_, fun v hv e => ?_⟩
        · obtain ⟨⟨x, a1, a2⟩, y, a3, a4⟩ := (I.tab nd v hv).1 g e
          have b1 := exact' a1 a2
          have b2 := exact' a3 a4
          have r1 := I.rng _ (mem_flat hv)
          have r2 := I.rng _ (mem_flat2 hv e)
          have lt := I.inn v hv g e
          refine ⟨?_, ?_⟩
          · rw [(fold_get ks B _).2, if_neg fun z => offK b1 (by omega) z.1]
            exact b1
          · rw [(fold_get ks B _).2, if_neg fun z => offK b2 (by omega) z.1]
            exact b2
        · have r1 := I.rng _ (mem_flat hv)
          rw [(fold_get ks B _).2, if_pos ⟨inK hv e rfl, by rw [lB]; omega⟩]
      by_cases hn : n = 0
      · subst hn
        have p0 : decide ((0 : Int) < ((0 : Nat) : Int)) = false := rfl
        have fl : flatW U = [] := List.length_eq_zero_iff.mp hl
        have U0 : U = [] := by
          cases hU : U with
          | nil => rfl
          | cons v V => rw [hU] at fl; cases fl
        have ws0 : ws = [] := List.length_eq_zero_iff.mp (by rw [← w3, U0]; rfl)
        have hI : waysI ws = some U := by rw [ws0, U0]; rfl
        have hW : whole (4 * 0) U := by rw [U0]; exact ⟨List.Perm.refl _, .nil, fun v hv => nomatch hv⟩
        refine .inl ⟨U, _, hI, hW, ?_, tab hI hW fun x hx => ?_⟩
        · unfold g_hands_across runP f_hands_across
          simp -implicitDefEqProofs only [eq_self, r_thn, r_tk, r_tk0, r_ret, r_lift, r_lift0, r_var, r_vk, r_bin, r_un, r_nil, r_cons, r_tup, r_of, r_call, r_tst, r_kt, r_ikT, r_ikF, r_ite, r_if, r_ife, r_and, r_or, r_not, r_vand, r_vor, r_vnot, r_chain, r_hkT, r_hkF, r_part, r_ok, r_sl, r_seq, r_skN, r_skR, r_skF, r_skB, r_skC, r_next, r_retS, r_rk, r_retF, r_rfk, r_drop, r_dk, r_asg, r_gk, r_gk2, gNm, r_tp, r_gs, r_qk, r_gs0, r_froz, r_frk, r_cmk, r_setI, r_stk, r_stk2, r_sti, r_pl, r_stj, r_aug, r_aug1, r_aug2, r_aug3, r_opN, r_par, r_prk, r_callN, r_tupRg, and_self, ixN0, ixN1, ixN2, r_peek, r_pk, r_pkI, r_pkB, r_pkS, r_pkN, r_tpeek, r_bk1, r_bk2, r_frz, r_fzk, r_own, owk, r_frkK, r_ownK, r_ixEd, r_ixEt, r_ixEl, r_inK, r_ninK, r_mk4, r_mk3, r_met, r_mk2, r_callM, r_mk2b, r_callM1, r_lenIs, r_callF, r_mat, r_mtk, r_mEnd, r_mCase, r_for, r_lk, r_items, r_itL, r_itT, r_rng, r_enum, r_zipM, zipM_ok, r_star, starL_ok, starT_ok, enumL_ok, enumT_ok, for_nil, r_lc, r_lck2, lc_nil, r_outM, r_outMn, r_outM1, r_outM1n, r_outD, r_outDf, r_outDn, r_outF, ixL0, ixL1, ixL2, ixT0, ixT1, ixT2, addI_ok, subI_ok, gtI_ok, geI_ok, leI_ok, ltI_ok, lenL_ok, lenT_ok, abs_ok, intB_ok, List.getElem?_cons_zero, List.getElem?_cons_succ, List.length_cons, List.length_nil, List.set_cons_zero, List.set_cons_succ, List.map_cons, List.map_nil, List.cons_append, List.nil_append, List.replicate_succ, List.replicate_zero, Nat.reduceAdd, Nat.reduceSub, Nat.reduceLT, Nat.reduceEqDiff, Option.bind_some, Option.bind_none, Option.map_some, Option.map_none, if_true, if_false, ite_true, ite_false, ↓reduceIte, Bool.not_true, Bool.not_false, tup, n2, ii, ib, c0, c1, m4, s1, s0, rp, u3, m2, ne0, p0, er]
        · have : B = [] := List.length_eq_zero_iff.mp I.len
          rw [this] at hx
          cases hx
      · have p0 : decide ((0 : Int) < (n : Int)) = true := decide_eq_true (by omega)
        obtain ⟨c, B', g1, g2, g3⟩ := met_ok I u1 (by omega) hl
        cases c with
        | true =>
          obtain ⟨hI, hW, e, aI⟩ := g2 rfl
          subst e
          refine .inl ⟨U, _, hI, hW, ?_, tab hI hW aI⟩
          unfold g_hands_across runP f_hands_across
          simp -implicitDefEqProofs only [eq_self, r_thn, r_tk, r_tk0, r_ret, r_lift, r_lift0, r_var, r_vk, r_bin, r_un, r_nil, r_cons, r_tup, r_of, r_call, r_tst, r_kt, r_ikT, r_ikF, r_ite, r_if, r_ife, r_and, r_or, r_not, r_vand, r_vor, r_vnot, r_chain, r_hkT, r_hkF, r_part, r_ok, r_sl, r_seq, r_skN, r_skR, r_skF, r_skB, r_skC, r_next, r_retS, r_rk, r_retF, r_rfk, r_drop, r_dk, r_asg, r_gk, r_gk2, gNm, r_tp, r_gs, r_qk, r_gs0, r_froz, r_frk, r_cmk, r_setI, r_stk, r_stk2, r_sti, r_pl, r_stj, r_aug, r_aug1, r_aug2, r_aug3, r_opN, r_par, r_prk, r_callN, r_tupRg, and_self, ixN0, ixN1, ixN2, r_peek, r_pk, r_pkI, r_pkB, r_pkS, r_pkN, r_tpeek, r_bk1, r_bk2, r_frz, r_fzk, r_own, owk, r_frkK, r_ownK, r_ixEd, r_ixEt, r_ixEl, r_inK, r_ninK, r_mk4, r_mk3, r_met, r_mk2, r_callM, r_mk2b, r_callM1, r_lenIs, r_callF, r_mat, r_mtk, r_mEnd, r_mCase, r_for, r_lk, r_items, r_itL, r_itT, r_rng, r_enum, r_zipM, zipM_ok, r_star, starL_ok, starT_ok, enumL_ok, enumT_ok, for_nil, r_lc, r_lck2, lc_nil, r_outM, r_outMn, r_outM1, r_outM1n, r_outD, r_outDf, r_outDn, r_outF, ixL0, ixL1, ixL2, ixT0, ixT1, ixT2, addI_ok, subI_ok, gtI_ok, geI_ok, leI_ok, ltI_ok, lenL_ok, lenT_ok, abs_ok, intB_ok, List.getElem?_cons_zero, List.getElem?_cons_succ, List.length_cons, List.length_nil, List.set_cons_zero, List.set_cons_succ, List.map_cons, List.map_nil, List.cons_append, List.nil_append, List.replicate_succ, List.replicate_zero, Nat.reduceAdd, Nat.reduceSub, Nat.reduceLT, Nat.reduceEqDiff, Option.bind_some, Option.bind_none, Option.map_some, Option.map_none, if_true, if_false, ite_true, ite_false, ↓reduceIte, Bool.not_true, Bool.not_false, tup, n2, ii, ib, c0, c1, m4, s1, s0, rp, u3, m2, ne0, p0, g1, er]
        | false =>
          refine .inr ⟨?_, g3 rfl⟩
          unfold g_hands_across runP f_hands_across
          simp -implicitDefEqProofs only [eq_self, r_thn, r_tk, r_tk0, r_ret, r_lift, r_lift0, r_var, r_vk, r_bin, r_un, r_nil, r_cons, r_tup, r_of, r_call, r_tst, r_kt, r_ikT, r_ikF, r_ite, r_if, r_ife, r_and, r_or, r_not, r_vand, r_vor, r_vnot, r_chain, r_hkT, r_hkF, r_part, r_ok, r_sl, r_seq, r_skN, r_skR, r_skF, r_skB, r_skC, r_next, r_retS, r_rk, r_retF, r_rfk, r_drop, r_dk, r_asg, r_gk, r_gk2, gNm, r_tp, r_gs, r_qk, r_gs0, r_froz, r_frk, r_cmk, r_setI, r_stk, r_stk2, r_sti, r_pl, r_stj, r_aug, r_aug1, r_aug2, r_aug3, r_opN, r_par, r_prk, r_callN, r_tupRg, and_self, ixN0, ixN1, ixN2, r_peek, r_pk, r_pkI, r_pkB, r_pkS, r_pkN, r_tpeek, r_bk1, r_bk2, r_frz, r_fzk, r_own, owk, r_frkK, r_ownK, r_ixEd, r_ixEt, r_ixEl, r_inK, r_ninK, r_mk4, r_mk3, r_met, r_mk2, r_callM, r_mk2b, r_callM1, r_lenIs, r_callF, r_mat, r_mtk, r_mEnd, r_mCase, r_for, r_lk, r_items, r_itL, r_itT, r_rng, r_enum, r_zipM, zipM_ok, r_star, starL_ok, starT_ok, enumL_ok, enumT_ok, for_nil, r_lc, r_lck2, lc_nil, r_outM, r_outMn, r_outM1, r_outM1n, r_outD, r_outDf, r_outDn, r_outF, ixL0, ixL1, ixL2, ixT0, ixT1, ixT2, addI_ok, subI_ok, gtI_ok, geI_ok, leI_ok, ltI_ok, lenL_ok, lenT_ok, abs_ok, intB_ok, List.getElem?_cons_zero, List.getElem?_cons_succ, List.length_cons, List.length_nil, List.set_cons_zero, List.set_cons_succ, List.map_cons, List.map_nil, List.cons_append, List.nil_append, List.replicate_succ, List.replicate_zero, Nat.reduceAdd, Nat.reduceSub, Nat.reduceLT, Nat.reduceEqDiff, Option.bind_some, Option.bind_none, Option.map_some, Option.map_none, if_true, if_false, ite_true, ite_false, ↓reduceIte, Bool.not_true, Bool.not_false, tup, n2, ii, ib, c0, c1, m4, s1, s0, rp, u3, m2, ne0, p0, g1]
    · have ne0 : neD (.int (E.length : Int)) (.int (2 * (ws.length : Int) - ((4 * n : Nat) : Int))) = some (.bool true) := by
        rw [ne_num, decide_eq_false (show ¬ numV (.int (E.length : Int)) = some (2 * (ws.length : Int) - ((4 * n : Nat) : Int)) from fun z => hl (lE.mp (Option.some.inj z).symm))]
        rfl
      refine .inr ⟨?_, notW hl⟩
      unfold g_hands_across runP f_hands_across
      simp -implicitDefEqProofs only [eq_self, r_thn, r_tk, r_tk0, r_ret, r_lift, r_lift0, r_var, r_vk, r_bin, r_un, r_nil, r_cons, r_tup, r_of, r_call, r_tst, r_kt, r_ikT, r_ikF, r_ite, r_if, r_ife, r_and, r_or, r_not, r_vand, r_vor, r_vnot, r_chain, r_hkT, r_hkF, r_part, r_ok, r_sl, r_seq, r_skN, r_skR, r_skF, r_skB, r_skC, r_next, r_retS, r_rk, r_retF, r_rfk, r_drop, r_dk, r_asg, r_gk, r_gk2, gNm, r_tp, r_gs, r_qk, r_gs0, r_froz, r_frk, r_cmk, r_setI, r_stk, r_stk2, r_sti, r_pl, r_stj, r_aug, r_aug1, r_aug2, r_aug3, r_opN, r_par, r_prk, r_callN, r_tupRg, and_self, ixN0, ixN1, ixN2, r_peek, r_pk, r_pkI, r_pkB, r_pkS, r_pkN, r_tpeek, r_bk1, r_bk2, r_frz, r_fzk, r_own, owk, r_frkK, r_ownK, r_ixEd, r_ixEt, r_ixEl, r_inK, r_ninK, r_mk4, r_mk3, r_met, r_mk2, r_callM, r_mk2b, r_callM1, r_lenIs, r_callF, r_mat, r_mtk, r_mEnd, r_mCase, r_for, r_lk, r_items, r_itL, r_itT, r_rng, r_enum, r_zipM, zipM_ok, r_star, starL_ok, starT_ok, enumL_ok, enumT_ok, for_nil, r_lc, r_lck2, lc_nil, r_outM, r_outMn, r_outM1, r_outM1n, r_outD, r_outDf, r_outDn, r_outF, ixL0, ixL1, ixL2, ixT0, ixT1, ixT2, addI_ok, subI_ok, gtI_ok, geI_ok, leI_ok, ltI_ok, lenL_ok, lenT_ok, abs_ok, intB_ok, List.getElem?_cons_zero, List.getElem?_cons_succ, List.length_cons, List.length_nil, List.set_cons_zero, List.set_cons_succ, List.map_cons, List.map_nil, List.cons_append, List.nil_append, List.replicate_succ, List.replicate_zero, Nat.reduceAdd, Nat.reduceSub, Nat.reduceLT, Nat.reduceEqDiff, Option.bind_some, Option.bind_none, Option.map_some, Option.map_none, if_true, if_false, ite_true, ite_false, ↓reduceIte, Bool.not_true, Bool.not_false, tup, n2, ii, ib, c0, c1, m4, s1, s0, rp, u3, m2, ne0]
  · refine .inr ⟨?_, ?_⟩
    · unfold g_hands_across runP f_hands_across
      simp -implicitDefEqProofs only [eq_self, r_thn, r_tk, r_tk0, r_ret, r_lift, r_lift0, r_var, r_vk, r_bin, r_un, r_nil, r_cons, r_tup, r_of, r_call, r_tst, r_kt, r_ikT, r_ikF, r_ite, r_if, r_ife, r_and, r_or, r_not, r_vand, r_vor, r_vnot, r_chain, r_hkT, r_hkF, r_part, r_ok, r_sl, r_seq, r_skN, r_skR, r_skF, r_skB, r_skC, r_next, r_retS, r_rk, r_retF, r_rfk, r_drop, r_dk, r_asg, r_gk, r_gk2, gNm, r_tp, r_gs, r_qk, r_gs0, r_froz, r_frk, r_cmk, r_setI, r_stk, r_stk2, r_sti, r_pl, r_stj, r_aug, r_aug1, r_aug2, r_aug3, r_opN, r_par, r_prk, r_callN, r_tupRg, and_self, ixN0, ixN1, ixN2, r_peek, r_pk, r_pkI, r_pkB, r_pkS, r_pkN, r_tpeek, r_bk1, r_bk2, r_frz, r_fzk, r_own, owk, r_frkK, r_ownK, r_ixEd, r_ixEt, r_ixEl, r_inK, r_ninK, r_mk4, r_mk3, r_met, r_mk2, r_callM, r_mk2b, r_callM1, r_lenIs, r_callF, r_mat, r_mtk, r_mEnd, r_mCase, r_for, r_lk, r_items, r_itL, r_itT, r_rng, r_enum, r_zipM, zipM_ok, r_star, starL_ok, starT_ok, enumL_ok, enumT_ok, for_nil, r_lc, r_lck2, lc_nil, r_outM, r_outMn, r_outM1, r_outM1n, r_outD, r_outDf, r_outDn, r_outF, ixL0, ixL1, ixL2, ixT0, ixT1, ixT2, addI_ok, subI_ok, gtI_ok, geI_ok, leI_ok, ltI_ok, lenL_ok, lenT_ok, abs_ok, intB_ok, List.getElem?_cons_zero, List.getElem?_cons_succ, List.length_cons, List.length_nil, List.set_cons_zero, List.set_cons_succ, List.map_cons, List.map_nil, List.cons_append, List.nil_append, List.replicate_succ, List.replicate_zero, Nat.reduceAdd, Nat.reduceSub, Nat.reduceLT, Nat.reduceEqDiff, Option.bind_some, Option.bind_none, Option.map_some, Option.map_none, if_true, if_false, ite_true, ite_false, ↓reduceIte, Bool.not_true, Bool.not_false, tup, n2, ii, ib, c0, c1, m4, s1, s0, rp, u1]
    · rintro ⟨U, h, hW⟩
      exact u2 ⟨U, (waysI_N h).1, hW⟩
/-- anything else -/
theorem ha_odd {x : PyData} (h : ∀ (n : Nat) ws, x = .tuple [.int (n : Int), .tuple ws] → ¬ n ≤ 60) : g_hands_across [x] = some .none := by
  have no : isiD "tuple" x = some (.bool false) → g_hands_across [x] = some .none := fun q => by
    unfold g_hands_across runP f_hands_across
    simp -implicitDefEqProofs only [eq_self, r_thn, r_tk, r_tk0, r_ret, r_lift, r_lift0, r_var, r_vk, r_bin, r_un, r_nil, r_cons, r_tup, r_of, r_call, r_tst, r_kt, r_ikT, r_ikF, r_ite, r_if, r_ife, r_and, r_or, r_not, r_vand, r_vor, r_vnot, r_chain, r_hkT, r_hkF, r_part, r_ok, r_sl, r_seq, r_skN, r_skR, r_skF, r_skB, r_skC, r_next, r_retS, r_rk, r_retF, r_rfk, r_drop, r_dk, r_asg, r_gk, r_gk2, gNm, r_tp, r_gs, r_qk, r_gs0, r_froz, r_frk, r_cmk, r_setI, r_stk, r_stk2, r_sti, r_pl, r_stj, r_aug, r_aug1, r_aug2, r_aug3, r_opN, r_par, r_prk, r_callN, r_tupRg, and_self, ixN0, ixN1, ixN2, r_peek, r_pk, r_pkI, r_pkB, r_pkS, r_pkN, r_tpeek, r_bk1, r_bk2, r_frz, r_fzk, r_own, owk, r_frkK, r_ownK, r_ixEd, r_ixEt, r_ixEl, r_inK, r_ninK, r_mk4, r_mk3, r_met, r_mk2, r_callM, r_mk2b, r_callM1, r_lenIs, r_callF, r_mat, r_mtk, r_mEnd, r_mCase, r_for, r_lk, r_items, r_itL, r_itT, r_rng, r_enum, r_zipM, zipM_ok, r_star, starL_ok, starT_ok, enumL_ok, enumT_ok, for_nil, r_lc, r_lck2, lc_nil, r_outM, r_outMn, r_outM1, r_outM1n, r_outD, r_outDf, r_outDn, r_outF, ixL0, ixL1, ixL2, ixT0, ixT1, ixT2, addI_ok, subI_ok, gtI_ok, geI_ok, leI_ok, ltI_ok, lenL_ok, lenT_ok, abs_ok, intB_ok, List.getElem?_cons_zero, List.getElem?_cons_succ, List.length_cons, List.length_nil, List.set_cons_zero, List.set_cons_succ, List.map_cons, List.map_nil, List.cons_append, List.nil_append, List.replicate_succ, List.replicate_zero, Nat.reduceAdd, Nat.reduceSub, Nat.reduceLT, Nat.reduceEqDiff, Option.bind_some, Option.bind_none, Option.map_some, Option.map_none, if_true, if_false, ite_true, ite_false, ↓reduceIte, Bool.not_true, Bool.not_false, q]
  cases x with
  | tuple ds =>
    have tup : ∀ d : List PyData, isiD "tuple" (.tuple d) = some (.bool true) := fun _ => rfl
    have ln : ds.length ≠ 2 → g_hands_across [.tuple ds] = some .none := fun hl => by
      have q : neD (.int (ds.length : Int)) (.int 2) = some (.bool true) := by
        rw [ne_num, decide_eq_false (fun z => hl (by have := Option.some.inj z; omega))]
        rfl
      unfold g_hands_across runP f_hands_across
      simp -implicitDefEqProofs only [eq_self, r_thn, r_tk, r_tk0, r_ret, r_lift, r_lift0, r_var, r_vk, r_bin, r_un, r_nil, r_cons, r_tup, r_of, r_call, r_tst, r_kt, r_ikT, r_ikF, r_ite, r_if, r_ife, r_and, r_or, r_not, r_vand, r_vor, r_vnot, r_chain, r_hkT, r_hkF, r_part, r_ok, r_sl, r_seq, r_skN, r_skR, r_skF, r_skB, r_skC, r_next, r_retS, r_rk, r_retF, r_rfk, r_drop, r_dk, r_asg, r_gk, r_gk2, gNm, r_tp, r_gs, r_qk, r_gs0, r_froz, r_frk, r_cmk, r_setI, r_stk, r_stk2, r_sti, r_pl, r_stj, r_aug, r_aug1, r_aug2, r_aug3, r_opN, r_par, r_prk, r_callN, r_tupRg, and_self, ixN0, ixN1, ixN2, r_peek, r_pk, r_pkI, r_pkB, r_pkS, r_pkN, r_tpeek, r_bk1, r_bk2, r_frz, r_fzk, r_own, owk, r_frkK, r_ownK, r_ixEd, r_ixEt, r_ixEl, r_inK, r_ninK, r_mk4, r_mk3, r_met, r_mk2, r_callM, r_mk2b, r_callM1, r_lenIs, r_callF, r_mat, r_mtk, r_mEnd, r_mCase, r_for, r_lk, r_items, r_itL, r_itT, r_rng, r_enum, r_zipM, zipM_ok, r_star, starL_ok, starT_ok, enumL_ok, enumT_ok, for_nil, r_lc, r_lck2, lc_nil, r_outM, r_outMn, r_outM1, r_outM1n, r_outD, r_outDf, r_outDn, r_outF, ixL0, ixL1, ixL2, ixT0, ixT1, ixT2, addI_ok, subI_ok, gtI_ok, geI_ok, leI_ok, ltI_ok, lenL_ok, lenT_ok, abs_ok, intB_ok, List.getElem?_cons_zero, List.getElem?_cons_succ, List.length_cons, List.length_nil, List.set_cons_zero, List.set_cons_succ, List.map_cons, List.map_nil, List.cons_append, List.nil_append, List.replicate_succ, List.replicate_zero, Nat.reduceAdd, Nat.reduceSub, Nat.reduceLT, Nat.reduceEqDiff, Option.bind_some, Option.bind_none, Option.map_some, Option.map_none, if_true, if_false, ite_true, ite_false, ↓reduceIte, Bool.not_true, Bool.not_false, tup, q]
    match ds, ln with
    | [], ln => exact ln (by decide)
    | [a], ln => exact ln (by simp)
    | a :: b :: c :: r, ln => exact ln (by simp)
    | [a, b], _ =>
      have n2 : neD (.int ((2 : Nat) : Int)) (.int 2) = some (.bool false) := rfl
      by_cases hi : ∃ i, a = .int i
      · obtain ⟨i, rfl⟩ := hi
        have ii : isiD "int" (.int i) = some (.bool true) := rfl
        have ib : isiD "bool" (.int i) = some (.bool false) := rfl
        by_cases h0 : 0 ≤ i
        · have c0 : decide ((0 : Int) ≤ i) = true := decide_eq_true h0
          by_cases h6 : i ≤ 60
          · have c1 : decide (i ≤ 60) = true := decide_eq_true h6
            have nt : isiD "tuple" b = some (.bool false) → g_hands_across [.tuple [.int i, b]] = some .none := fun qb => by
              unfold g_hands_across runP f_hands_across
              simp -implicitDefEqProofs only [eq_self, r_thn, r_tk, r_tk0, r_ret, r_lift, r_lift0, r_var, r_vk, r_bin, r_un, r_nil, r_cons, r_tup, r_of, r_call, r_tst, r_kt, r_ikT, r_ikF, r_ite, r_if, r_ife, r_and, r_or, r_not, r_vand, r_vor, r_vnot, r_chain, r_hkT, r_hkF, r_part, r_ok, r_sl, r_seq, r_skN, r_skR, r_skF, r_skB, r_skC, r_next, r_retS, r_rk, r_retF, r_rfk, r_drop, r_dk, r_asg, r_gk, r_gk2, gNm, r_tp, r_gs, r_qk, r_gs0, r_froz, r_frk, r_cmk, r_setI, r_stk, r_stk2, r_sti, r_pl, r_stj, r_aug, r_aug1, r_aug2, r_aug3, r_opN, r_par, r_prk, r_callN, r_tupRg, and_self, ixN0, ixN1, ixN2, r_peek, r_pk, r_pkI, r_pkB, r_pkS, r_pkN, r_tpeek, r_bk1, r_bk2, r_frz, r_fzk, r_own, owk, r_frkK, r_ownK, r_ixEd, r_ixEt, r_ixEl, r_inK, r_ninK, r_mk4, r_mk3, r_met, r_mk2, r_callM, r_mk2b, r_callM1, r_lenIs, r_callF, r_mat, r_mtk, r_mEnd, r_mCase, r_for, r_lk, r_items, r_itL, r_itT, r_rng, r_enum, r_zipM, zipM_ok, r_star, starL_ok, starT_ok, enumL_ok, enumT_ok, for_nil, r_lc, r_lck2, lc_nil, r_outM, r_outMn, r_outM1, r_outM1n, r_outD, r_outDf, r_outDn, r_outF, ixL0, ixL1, ixL2, ixT0, ixT1, ixT2, addI_ok, subI_ok, gtI_ok, geI_ok, leI_ok, ltI_ok, lenL_ok, lenT_ok, abs_ok, intB_ok, List.getElem?_cons_zero, List.getElem?_cons_succ, List.length_cons, List.length_nil, List.set_cons_zero, List.set_cons_succ, List.map_cons, List.map_nil, List.cons_append, List.nil_append, List.replicate_succ, List.replicate_zero, Nat.reduceAdd, Nat.reduceSub, Nat.reduceLT, Nat.reduceEqDiff, Option.bind_some, Option.bind_none, Option.map_some, Option.map_none, if_true, if_false, ite_true, ite_false, ↓reduceIte, Bool.not_true, Bool.not_false, tup, n2, ii, ib, c0, c1, qb]
            cases b with
            | tuple ws =>
              exfalso
              refine h i.toNat ws ?_ (by omega)
              rw [Int.toNat_of_nonneg h0]
            | _ => exact nt rfl
          · have c1 : decide (i ≤ 60) = false := decide_eq_false h6
            unfold g_hands_across runP f_hands_across
            simp -implicitDefEqProofs only [eq_self, r_thn, r_tk, r_tk0, r_ret, r_lift, r_lift0, r_var, r_vk, r_bin, r_un, r_nil, r_cons, r_tup, r_of, r_call, r_tst, r_kt, r_ikT, r_ikF, r_ite, r_if, r_ife, r_and, r_or, r_not, r_vand, r_vor, r_vnot, r_chain, r_hkT, r_hkF, r_part, r_ok, r_sl, r_seq, r_skN, r_skR, r_skF, r_skB, r_skC, r_next, r_retS, r_rk, r_retF, r_rfk, r_drop, r_dk, r_asg, r_gk, r_gk2, gNm, r_tp, r_gs, r_qk, r_gs0, r_froz, r_frk, r_cmk, r_setI, r_stk, r_stk2, r_sti, r_pl, r_stj, r_aug, r_aug1, r_aug2, r_aug3, r_opN, r_par, r_prk, r_callN, r_tupRg, and_self, ixN0, ixN1, ixN2, r_peek, r_pk, r_pkI, r_pkB, r_pkS, r_pkN, r_tpeek, r_bk1, r_bk2, r_frz, r_fzk, r_own, owk, r_frkK, r_ownK, r_ixEd, r_ixEt, r_ixEl, r_inK, r_ninK, r_mk4, r_mk3, r_met, r_mk2, r_callM, r_mk2b, r_callM1, r_lenIs, r_callF, r_mat, r_mtk, r_mEnd, r_mCase, r_for, r_lk, r_items, r_itL, r_itT, r_rng, r_enum, r_zipM, zipM_ok, r_star, starL_ok, starT_ok, enumL_ok, enumT_ok, for_nil, r_lc, r_lck2, lc_nil, r_outM, r_outMn, r_outM1, r_outM1n, r_outD, r_outDf, r_outDn, r_outF, ixL0, ixL1, ixL2, ixT0, ixT1, ixT2, addI_ok, subI_ok, gtI_ok, geI_ok, leI_ok, ltI_ok, lenL_ok, lenT_ok, abs_ok, intB_ok, List.getElem?_cons_zero, List.getElem?_cons_succ, List.length_cons, List.length_nil, List.set_cons_zero, List.set_cons_succ, List.map_cons, List.map_nil, List.cons_append, List.nil_append, List.replicate_succ, List.replicate_zero, Nat.reduceAdd, Nat.reduceSub, Nat.reduceLT, Nat.reduceEqDiff, Option.bind_some, Option.bind_none, Option.map_some, Option.map_none, if_true, if_false, ite_true, ite_false, ↓reduceIte, Bool.not_true, Bool.not_false, tup, n2, ii, ib, c0, c1]
        · have c0 : decide ((0 : Int) ≤ i) = false := decide_eq_false h0
          unfold g_hands_across runP f_hands_across
          simp -implicitDefEqProofs only [eq_self, r_thn, r_tk, r_tk0, r_ret, r_lift, r_lift0, r_var, r_vk, r_bin, r_un, r_nil, r_cons, r_tup, r_of, r_call, r_tst, r_kt, r_ikT, r_ikF, r_ite, r_if, r_ife, r_and, r_or, r_not, r_vand, r_vor, r_vnot, r_chain, r_hkT, r_hkF, r_part, r_ok, r_sl, r_seq, r_skN, r_skR, r_skF, r_skB, r_skC, r_next, r_retS, r_rk, r_retF, r_rfk, r_drop, r_dk, r_asg, r_gk, r_gk2, gNm, r_tp, r_gs, r_qk, r_gs0, r_froz, r_frk, r_cmk, r_setI, r_stk, r_stk2, r_sti, r_pl, r_stj, r_aug, r_aug1, r_aug2, r_aug3, r_opN, r_par, r_prk, r_callN, r_tupRg, and_self, ixN0, ixN1, ixN2, r_peek, r_pk, r_pkI, r_pkB, r_pkS, r_pkN, r_tpeek, r_bk1, r_bk2, r_frz, r_fzk, r_own, owk, r_frkK, r_ownK, r_ixEd, r_ixEt, r_ixEl, r_inK, r_ninK, r_mk4, r_mk3, r_met, r_mk2, r_callM, r_mk2b, r_callM1, r_lenIs, r_callF, r_mat, r_mtk, r_mEnd, r_mCase, r_for, r_lk, r_items, r_itL, r_itT, r_rng, r_enum, r_zipM, zipM_ok, r_star, starL_ok, starT_ok, enumL_ok, enumT_ok, for_nil, r_lc, r_lck2, lc_nil, r_outM, r_outMn, r_outM1, r_outM1n, r_outD, r_outDf, r_outDn, r_outF, ixL0, ixL1, ixL2, ixT0, ixT1, ixT2, addI_ok, subI_ok, gtI_ok, geI_ok, leI_ok, ltI_ok, lenL_ok, lenT_ok, abs_ok, intB_ok, List.getElem?_cons_zero, List.getElem?_cons_succ, List.length_cons, List.length_nil, List.set_cons_zero, List.set_cons_succ, List.map_cons, List.map_nil, List.cons_append, List.nil_append, List.replicate_succ, List.replicate_zero, Nat.reduceAdd, Nat.reduceSub, Nat.reduceLT, Nat.reduceEqDiff, Option.bind_some, Option.bind_none, Option.map_some, Option.map_none, if_true, if_false, ite_true, ite_false, ↓reduceIte, Bool.not_true, Bool.not_false, tup, n2, ii, ib, c0]
      · have st : isiD "int" a = some (.bool false) ∨ (isiD "int" a = some (.bool true) ∧ isiD "bool" a = some (.bool true)) := by
          cases a with
          | int i => exact absurd ⟨i, rfl⟩ hi
          | bool b => exact .inr ⟨rfl, rfl⟩
          | _ => exact .inl rfl
        rcases st with q | ⟨q, q2⟩
        · unfold g_hands_across runP f_hands_across
          simp -implicitDefEqProofs only [eq_self, r_thn, r_tk, r_tk0, r_ret, r_lift, r_lift0, r_var, r_vk, r_bin, r_un, r_nil, r_cons, r_tup, r_of, r_call, r_tst, r_kt, r_ikT, r_ikF, r_ite, r_if, r_ife, r_and, r_or, r_not, r_vand, r_vor, r_vnot, r_chain, r_hkT, r_hkF, r_part, r_ok, r_sl, r_seq, r_skN, r_skR, r_skF, r_skB, r_skC, r_next, r_retS, r_rk, r_retF, r_rfk, r_drop, r_dk, r_asg, r_gk, r_gk2, gNm, r_tp, r_gs, r_qk, r_gs0, r_froz, r_frk, r_cmk, r_setI, r_stk, r_stk2, r_sti, r_pl, r_stj, r_aug, r_aug1, r_aug2, r_aug3, r_opN, r_par, r_prk, r_callN, r_tupRg, and_self, ixN0, ixN1, ixN2, r_peek, r_pk, r_pkI, r_pkB, r_pkS, r_pkN, r_tpeek, r_bk1, r_bk2, r_frz, r_fzk, r_own, owk, r_frkK, r_ownK, r_ixEd, r_ixEt, r_ixEl, r_inK, r_ninK, r_mk4, r_mk3, r_met, r_mk2, r_callM, r_mk2b, r_callM1, r_lenIs, r_callF, r_mat, r_mtk, r_mEnd, r_mCase, r_for, r_lk, r_items, r_itL, r_itT, r_rng, r_enum, r_zipM, zipM_ok, r_star, starL_ok, starT_ok, enumL_ok, enumT_ok, for_nil, r_lc, r_lck2, lc_nil, r_outM, r_outMn, r_outM1, r_outM1n, r_outD, r_outDf, r_outDn, r_outF, ixL0, ixL1, ixL2, ixT0, ixT1, ixT2, addI_ok, subI_ok, gtI_ok, geI_ok, leI_ok, ltI_ok, lenL_ok, lenT_ok, abs_ok, intB_ok, List.getElem?_cons_zero, List.getElem?_cons_succ, List.length_cons, List.length_nil, List.set_cons_zero, List.set_cons_succ, List.map_cons, List.map_nil, List.cons_append, List.nil_append, List.replicate_succ, List.replicate_zero, Nat.reduceAdd, Nat.reduceSub, Nat.reduceLT, Nat.reduceEqDiff, Option.bind_some, Option.bind_none, Option.map_some, Option.map_none, if_true, if_false, ite_true, ite_false, ↓reduceIte, Bool.not_true, Bool.not_false, tup, n2, q]
        · unfold g_hands_across runP f_hands_across
          simp -implicitDefEqProofs only [eq_self, r_thn, r_tk, r_tk0, r_ret, r_lift, r_lift0, r_var, r_vk, r_bin, r_un, r_nil, r_cons, r_tup, r_of, r_call, r_tst, r_kt, r_ikT, r_ikF, r_ite, r_if, r_ife, r_and, r_or, r_not, r_vand, r_vor, r_vnot, r_chain, r_hkT, r_hkF, r_part, r_ok, r_sl, r_seq, r_skN, r_skR, r_skF, r_skB, r_skC, r_next, r_retS, r_rk, r_retF, r_rfk, r_drop, r_dk, r_asg, r_gk, r_gk2, gNm, r_tp, r_gs, r_qk, r_gs0, r_froz, r_frk, r_cmk, r_setI, r_stk, r_stk2, r_sti, r_pl, r_stj, r_aug, r_aug1, r_aug2, r_aug3, r_opN, r_par, r_prk, r_callN, r_tupRg, and_self, ixN0, ixN1, ixN2, r_peek, r_pk, r_pkI, r_pkB, r_pkS, r_pkN, r_tpeek, r_bk1, r_bk2, r_frz, r_fzk, r_own, owk, r_frkK, r_ownK, r_ixEd, r_ixEt, r_ixEl, r_inK, r_ninK, r_mk4, r_mk3, r_met, r_mk2, r_callM, r_mk2b, r_callM1, r_lenIs, r_callF, r_mat, r_mtk, r_mEnd, r_mCase, r_for, r_lk, r_items, r_itL, r_itT, r_rng, r_enum, r_zipM, zipM_ok, r_star, starL_ok, starT_ok, enumL_ok, enumT_ok, for_nil, r_lc, r_lck2, lc_nil, r_outM, r_outMn, r_outM1, r_outM1n, r_outD, r_outDf, r_outDn, r_outF, ixL0, ixL1, ixL2, ixT0, ixT1, ixT2, addI_ok, subI_ok, gtI_ok, geI_ok, leI_ok, ltI_ok, lenL_ok, lenT_ok, abs_ok, intB_ok, List.getElem?_cons_zero, List.getElem?_cons_succ, List.length_cons, List.length_nil, List.set_cons_zero, List.set_cons_succ, List.map_cons, List.map_nil, List.cons_append, List.nil_append, List.replicate_succ, List.replicate_zero, Nat.reduceAdd, Nat.reduceSub, Nat.reduceLT, Nat.reduceEqDiff, Option.bind_some, Option.bind_none, Option.map_some, Option.map_none, if_true, if_false, ite_true, ite_false, ↓reduceIte, Bool.not_true, Bool.not_false, tup, n2, q, q2]
  | _ => exact no rfl
end Lw

set_option Elab.async false
set_option linter.all false
set_option maxRecDepth 100000
set_option maxHeartbeats 4000000
namespace Lw
open PySem PySem.Spec PyProof.Rows L2 Tw
theorem below_ok {i n : Int} : g_is_below [.int i, .int n] = some (.bool (decide (0 ≤ i ∧ i < n))) := by
  unfold g_is_below runP f_is_below
  by_cases h0 : 0 ≤ i
  · by_cases h1 : i < n
    · simp -implicitDefEqProofs only [eq_self, r_thn, r_tk, r_tk0, r_ret, r_lift, r_lift0, r_var, r_vk, r_bin, r_un, r_nil, r_cons, r_tup, r_of, r_call, r_tst, r_kt, r_ikT, r_ikF, r_ite, r_if, r_ife, r_and, r_or, r_not, r_vand, r_vor, r_vnot, r_chain, r_hkT, r_hkF, r_part, r_ok, r_sl, r_seq, r_skN, r_skR, r_skF, r_skB, r_skC, r_next, r_retS, r_rk, r_retF, r_rfk, r_drop, r_dk, r_asg, r_gk, r_gk2, gNm, r_tp, r_gs, r_qk, r_gs0, r_froz, r_frk, r_cmk, r_setI, r_stk, r_stk2, r_sti, r_pl, r_stj, r_aug, r_aug1, r_aug2, r_aug3, r_opN, r_par, r_prk, r_callN, r_tupRg, and_self, ixN0, ixN1, ixN2, r_peek, r_pk, r_pkI, r_pkB, r_pkS, r_pkN, r_tpeek, r_bk1, r_bk2, r_frz, r_fzk, r_own, owk, r_frkK, r_ownK, r_ixEd, r_ixEt, r_ixEl, r_inK, r_ninK, r_mk4, r_mk3, r_met, r_mk2, r_callM, r_mk2b, r_callM1, r_lenIs, r_callF, r_mat, r_mtk, r_mEnd, r_mCase, r_for, r_lk, r_items, r_itL, r_itT, r_rng, r_enum, r_zipM, zipM_ok, r_star, starL_ok, starT_ok, enumL_ok, enumT_ok, for_nil, r_lc, r_lck2, lc_nil, r_outM, r_outMn, r_outM1, r_outM1n, r_outD, r_outDf, r_outDn, r_outF, ixL0, ixL1, ixL2, ixT0, ixT1, ixT2, addI_ok, subI_ok, gtI_ok, geI_ok, leI_ok, ltI_ok, lenL_ok, lenT_ok, abs_ok, intB_ok, List.getElem?_cons_zero, List.getElem?_cons_succ, List.length_cons, List.length_nil, List.set_cons_zero, List.set_cons_succ, List.map_cons, List.map_nil, List.cons_append, List.nil_append, List.replicate_succ, List.replicate_zero, Nat.reduceAdd, Nat.reduceSub, Nat.reduceLT, Nat.reduceEqDiff, Option.bind_some, Option.bind_none, Option.map_some, Option.map_none, if_true, if_false, ite_true, ite_false, ↓reduceIte, Bool.not_true, Bool.not_false, show isiD "int" (.int i) = some (.bool true) from rfl, show isiD "bool" (.int i) = some (.bool false) from rfl, decide_eq_true h0, decide_eq_true h1, decide_eq_true (show 0 ≤ i ∧ i < n from ⟨h0, h1⟩)]
    · simp -implicitDefEqProofs only [eq_self, r_thn, r_tk, r_tk0, r_ret, r_lift, r_lift0, r_var, r_vk, r_bin, r_un, r_nil, r_cons, r_tup, r_of, r_call, r_tst, r_kt, r_ikT, r_ikF, r_ite, r_if, r_ife, r_and, r_or, r_not, r_vand, r_vor, r_vnot, r_chain, r_hkT, r_hkF, r_part, r_ok, r_sl, r_seq, r_skN, r_skR, r_skF, r_skB, r_skC, r_next, r_retS, r_rk, r_retF, r_rfk, r_drop, r_dk, r_asg, r_gk, r_gk2, gNm, r_tp, r_gs, r_qk, r_gs0, r_froz, r_frk, r_cmk, r_setI, r_stk, r_stk2, r_sti, r_pl, r_stj, r_aug, r_aug1, r_aug2, r_aug3, r_opN, r_par, r_prk, r_callN, r_tupRg, and_self, ixN0, ixN1, ixN2, r_peek, r_pk, r_pkI, r_pkB, r_pkS, r_pkN, r_tpeek, r_bk1, r_bk2, r_frz, r_fzk, r_own, owk, r_frkK, r_ownK, r_ixEd, r_ixEt, r_ixEl, r_inK, r_ninK, r_mk4, r_mk3, r_met, r_mk2, r_callM, r_mk2b, r_callM1, r_lenIs, r_callF, r_mat, r_mtk, r_mEnd, r_mCase, r_for, r_lk, r_items, r_itL, r_itT, r_rng, r_enum, r_zipM, zipM_ok, r_star, starL_ok, starT_ok, enumL_ok, enumT_ok, for_nil, r_lc, r_lck2, lc_nil, r_outM, r_outMn, r_outM1, r_outM1n, r_outD, r_outDf, r_outDn, r_outF, ixL0, ixL1, ixL2, ixT0, ixT1, ixT2, addI_ok, subI_ok, gtI_ok, geI_ok, leI_ok, ltI_ok, lenL_ok, lenT_ok, abs_ok, intB_ok, List.getElem?_cons_zero, List.getElem?_cons_succ, List.length_cons, List.length_nil, List.set_cons_zero, List.set_cons_succ, List.map_cons, List.map_nil, List.cons_append, List.nil_append, List.replicate_succ, List.replicate_zero, Nat.reduceAdd, Nat.reduceSub, Nat.reduceLT, Nat.reduceEqDiff, Option.bind_some, Option.bind_none, Option.map_some, Option.map_none, if_true, if_false, ite_true, ite_false, ↓reduceIte, Bool.not_true, Bool.not_false, show isiD "int" (.int i) = some (.bool true) from rfl, show isiD "bool" (.int i) = some (.bool false) from rfl, decide_eq_true h0, decide_eq_false h1, decide_eq_false (show ¬ (0 ≤ i ∧ i < n) from fun z => h1 z.2)]
  · simp -implicitDefEqProofs only [eq_self, r_thn, r_tk, r_tk0, r_ret, r_lift, r_lift0, r_var, r_vk, r_bin, r_un, r_nil, r_cons, r_tup, r_of, r_call, r_tst, r_kt, r_ikT, r_ikF, r_ite, r_if, r_ife, r_and, r_or, r_not, r_vand, r_vor, r_vnot, r_chain, r_hkT, r_hkF, r_part, r_ok, r_sl, r_seq, r_skN, r_skR, r_skF, r_skB, r_skC, r_next, r_retS, r_rk, r_retF, r_rfk, r_drop, r_dk, r_asg, r_gk, r_gk2, gNm, r_tp, r_gs, r_qk, r_gs0, r_froz, r_frk, r_cmk, r_setI, r_stk, r_stk2, r_sti, r_pl, r_stj, r_aug, r_aug1, r_aug2, r_aug3, r_opN, r_par, r_prk, r_callN, r_tupRg, and_self, ixN0, ixN1, ixN2, r_peek, r_pk, r_pkI, r_pkB, r_pkS, r_pkN, r_tpeek, r_bk1, r_bk2, r_frz, r_fzk, r_own, owk, r_frkK, r_ownK, r_ixEd, r_ixEt, r_ixEl, r_inK, r_ninK, r_mk4, r_mk3, r_met, r_mk2, r_callM, r_mk2b, r_callM1, r_lenIs, r_callF, r_mat, r_mtk, r_mEnd, r_mCase, r_for, r_lk, r_items, r_itL, r_itT, r_rng, r_enum, r_zipM, zipM_ok, r_star, starL_ok, starT_ok, enumL_ok, enumT_ok, for_nil, r_lc, r_lck2, lc_nil, r_outM, r_outMn, r_outM1, r_outM1n, r_outD, r_outDf, r_outDn, r_outF, ixL0, ixL1, ixL2, ixT0, ixT1, ixT2, addI_ok, subI_ok, gtI_ok, geI_ok, leI_ok, ltI_ok, lenL_ok, lenT_ok, abs_ok, intB_ok, List.getElem?_cons_zero, List.getElem?_cons_succ, List.length_cons, List.length_nil, List.set_cons_zero, List.set_cons_succ, List.map_cons, List.map_nil, List.cons_append, List.nil_append, List.replicate_succ, List.replicate_zero, Nat.reduceAdd, Nat.reduceSub, Nat.reduceLT, Nat.reduceEqDiff, Option.bind_some, Option.bind_none, Option.map_some, Option.map_none, if_true, if_false, ite_true, ite_false, ↓reduceIte, Bool.not_true, Bool.not_false, show isiD "int" (.int i) = some (.bool true) from rfl, show isiD "bool" (.int i) = some (.bool false) from rfl, decide_eq_false h0, decide_eq_false (show ¬ (0 ≤ i ∧ i < n) from fun z => h0 z.1)]
theorem below_no {d : PyData} {n : Int} (h : ∀ i, d ≠ .int i) : g_is_below [d, .int n] = some (.bool false) := by
  unfold g_is_below runP f_is_below
  cases d with
  | int i => exact absurd rfl (h i)
  | bool b => simp -implicitDefEqProofs only [eq_self, r_thn, r_tk, r_tk0, r_ret, r_lift, r_lift0, r_var, r_vk, r_bin, r_un, r_nil, r_cons, r_tup, r_of, r_call, r_tst, r_kt, r_ikT, r_ikF, r_ite, r_if, r_ife, r_and, r_or, r_not, r_vand, r_vor, r_vnot, r_chain, r_hkT, r_hkF, r_part, r_ok, r_sl, r_seq, r_skN, r_skR, r_skF, r_skB, r_skC, r_next, r_retS, r_rk, r_retF, r_rfk, r_drop, r_dk, r_asg, r_gk, r_gk2, gNm, r_tp, r_gs, r_qk, r_gs0, r_froz, r_frk, r_cmk, r_setI, r_stk, r_stk2, r_sti, r_pl, r_stj, r_aug, r_aug1, r_aug2, r_aug3, r_opN, r_par, r_prk, r_callN, r_tupRg, and_self, ixN0, ixN1, ixN2, r_peek, r_pk, r_pkI, r_pkB, r_pkS, r_pkN, r_tpeek, r_bk1, r_bk2, r_frz, r_fzk, r_own, owk, r_frkK, r_ownK, r_ixEd, r_ixEt, r_ixEl, r_inK, r_ninK, r_mk4, r_mk3, r_met, r_mk2, r_callM, r_mk2b, r_callM1, r_lenIs, r_callF, r_mat, r_mtk, r_mEnd, r_mCase, r_for, r_lk, r_items, r_itL, r_itT, r_rng, r_enum, r_zipM, zipM_ok, r_star, starL_ok, starT_ok, enumL_ok, enumT_ok, for_nil, r_lc, r_lck2, lc_nil, r_outM, r_outMn, r_outM1, r_outM1n, r_outD, r_outDf, r_outDn, r_outF, ixL0, ixL1, ixL2, ixT0, ixT1, ixT2, addI_ok, subI_ok, gtI_ok, geI_ok, leI_ok, ltI_ok, lenL_ok, lenT_ok, abs_ok, intB_ok, List.getElem?_cons_zero, List.getElem?_cons_succ, List.length_cons, List.length_nil, List.set_cons_zero, List.set_cons_succ, List.map_cons, List.map_nil, List.cons_append, List.nil_append, List.replicate_succ, List.replicate_zero, Nat.reduceAdd, Nat.reduceSub, Nat.reduceLT, Nat.reduceEqDiff, Option.bind_some, Option.bind_none, Option.map_some, Option.map_none, if_true, if_false, ite_true, ite_false, ↓reduceIte, Bool.not_true, Bool.not_false, show isiD "int" (.bool b) = some (.bool true) from rfl, show isiD "bool" (.bool b) = some (.bool true) from rfl]
  | none => simp -implicitDefEqProofs only [eq_self, r_thn, r_tk, r_tk0, r_ret, r_lift, r_lift0, r_var, r_vk, r_bin, r_un, r_nil, r_cons, r_tup, r_of, r_call, r_tst, r_kt, r_ikT, r_ikF, r_ite, r_if, r_ife, r_and, r_or, r_not, r_vand, r_vor, r_vnot, r_chain, r_hkT, r_hkF, r_part, r_ok, r_sl, r_seq, r_skN, r_skR, r_skF, r_skB, r_skC, r_next, r_retS, r_rk, r_retF, r_rfk, r_drop, r_dk, r_asg, r_gk, r_gk2, gNm, r_tp, r_gs, r_qk, r_gs0, r_froz, r_frk, r_cmk, r_setI, r_stk, r_stk2, r_sti, r_pl, r_stj, r_aug, r_aug1, r_aug2, r_aug3, r_opN, r_par, r_prk, r_callN, r_tupRg, and_self, ixN0, ixN1, ixN2, r_peek, r_pk, r_pkI, r_pkB, r_pkS, r_pkN, r_tpeek, r_bk1, r_bk2, r_frz, r_fzk, r_own, owk, r_frkK, r_ownK, r_ixEd, r_ixEt, r_ixEl, r_inK, r_ninK, r_mk4, r_mk3, r_met, r_mk2, r_callM, r_mk2b, r_callM1, r_lenIs, r_callF, r_mat, r_mtk, r_mEnd, r_mCase, r_for, r_lk, r_items, r_itL, r_itT, r_rng, r_enum, r_zipM, zipM_ok, r_star, starL_ok, starT_ok, enumL_ok, enumT_ok, for_nil, r_lc, r_lck2, lc_nil, r_outM, r_outMn, r_outM1, r_outM1n, r_outD, r_outDf, r_outDn, r_outF, ixL0, ixL1, ixL2, ixT0, ixT1, ixT2, addI_ok, subI_ok, gtI_ok, geI_ok, leI_ok, ltI_ok, lenL_ok, lenT_ok, abs_ok, intB_ok, List.getElem?_cons_zero, List.getElem?_cons_succ, List.length_cons, List.length_nil, List.set_cons_zero, List.set_cons_succ, List.map_cons, List.map_nil, List.cons_append, List.nil_append, List.replicate_succ, List.replicate_zero, Nat.reduceAdd, Nat.reduceSub, Nat.reduceLT, Nat.reduceEqDiff, Option.bind_some, Option.bind_none, Option.map_some, Option.map_none, if_true, if_false, ite_true, ite_false, ↓reduceIte, Bool.not_true, Bool.not_false, show isiD "int" .none = some (.bool false) from rfl]
  | str x => simp -implicitDefEqProofs only [eq_self, r_thn, r_tk, r_tk0, r_ret, r_lift, r_lift0, r_var, r_vk, r_bin, r_un, r_nil, r_cons, r_tup, r_of, r_call, r_tst, r_kt, r_ikT, r_ikF, r_ite, r_if, r_ife, r_and, r_or, r_not, r_vand, r_vor, r_vnot, r_chain, r_hkT, r_hkF, r_part, r_ok, r_sl, r_seq, r_skN, r_skR, r_skF, r_skB, r_skC, r_next, r_retS, r_rk, r_retF, r_rfk, r_drop, r_dk, r_asg, r_gk, r_gk2, gNm, r_tp, r_gs, r_qk, r_gs0, r_froz, r_frk, r_cmk, r_setI, r_stk, r_stk2, r_sti, r_pl, r_stj, r_aug, r_aug1, r_aug2, r_aug3, r_opN, r_par, r_prk, r_callN, r_tupRg, and_self, ixN0, ixN1, ixN2, r_peek, r_pk, r_pkI, r_pkB, r_pkS, r_pkN, r_tpeek, r_bk1, r_bk2, r_frz, r_fzk, r_own, owk, r_frkK, r_ownK, r_ixEd, r_ixEt, r_ixEl, r_inK, r_ninK, r_mk4, r_mk3, r_met, r_mk2, r_callM, r_mk2b, r_callM1, r_lenIs, r_callF, r_mat, r_mtk, r_mEnd, r_mCase, r_for, r_lk, r_items, r_itL, r_itT, r_rng, r_enum, r_zipM, zipM_ok, r_star, starL_ok, starT_ok, enumL_ok, enumT_ok, for_nil, r_lc, r_lck2, lc_nil, r_outM, r_outMn, r_outM1, r_outM1n, r_outD, r_outDf, r_outDn, r_outF, ixL0, ixL1, ixL2, ixT0, ixT1, ixT2, addI_ok, subI_ok, gtI_ok, geI_ok, leI_ok, ltI_ok, lenL_ok, lenT_ok, abs_ok, intB_ok, List.getElem?_cons_zero, List.getElem?_cons_succ, List.length_cons, List.length_nil, List.set_cons_zero, List.set_cons_succ, List.map_cons, List.map_nil, List.cons_append, List.nil_append, List.replicate_succ, List.replicate_zero, Nat.reduceAdd, Nat.reduceSub, Nat.reduceLT, Nat.reduceEqDiff, Option.bind_some, Option.bind_none, Option.map_some, Option.map_none, if_true, if_false, ite_true, ite_false, ↓reduceIte, Bool.not_true, Bool.not_false, show isiD "int" (.str x) = some (.bool false) from rfl]
  | list x => simp -implicitDefEqProofs only [eq_self, r_thn, r_tk, r_tk0, r_ret, r_lift, r_lift0, r_var, r_vk, r_bin, r_un, r_nil, r_cons, r_tup, r_of, r_call, r_tst, r_kt, r_ikT, r_ikF, r_ite, r_if, r_ife, r_and, r_or, r_not, r_vand, r_vor, r_vnot, r_chain, r_hkT, r_hkF, r_part, r_ok, r_sl, r_seq, r_skN, r_skR, r_skF, r_skB, r_skC, r_next, r_retS, r_rk, r_retF, r_rfk, r_drop, r_dk, r_asg, r_gk, r_gk2, gNm, r_tp, r_gs, r_qk, r_gs0, r_froz, r_frk, r_cmk, r_setI, r_stk, r_stk2, r_sti, r_pl, r_stj, r_aug, r_aug1, r_aug2, r_aug3, r_opN, r_par, r_prk, r_callN, r_tupRg, and_self, ixN0, ixN1, ixN2, r_peek, r_pk, r_pkI, r_pkB, r_pkS, r_pkN, r_tpeek, r_bk1, r_bk2, r_frz, r_fzk, r_own, owk, r_frkK, r_ownK, r_ixEd, r_ixEt, r_ixEl, r_inK, r_ninK, r_mk4, r_mk3, r_met, r_mk2, r_callM, r_mk2b, r_callM1, r_lenIs, r_callF, r_mat, r_mtk, r_mEnd, r_mCase, r_for, r_lk, r_items, r_itL, r_itT, r_rng, r_enum, r_zipM, zipM_ok, r_star, starL_ok, starT_ok, enumL_ok, enumT_ok, for_nil, r_lc, r_lck2, lc_nil, r_outM, r_outMn, r_outM1, r_outM1n, r_outD, r_outDf, r_outDn, r_outF, ixL0, ixL1, ixL2, ixT0, ixT1, ixT2, addI_ok, subI_ok, gtI_ok, geI_ok, leI_ok, ltI_ok, lenL_ok, lenT_ok, abs_ok, intB_ok, List.getElem?_cons_zero, List.getElem?_cons_succ, List.length_cons, List.length_nil, List.set_cons_zero, List.set_cons_succ, List.map_cons, List.map_nil, List.cons_append, List.nil_append, List.replicate_succ, List.replicate_zero, Nat.reduceAdd, Nat.reduceSub, Nat.reduceLT, Nat.reduceEqDiff, Option.bind_some, Option.bind_none, Option.map_some, Option.map_none, if_true, if_false, ite_true, ite_false, ↓reduceIte, Bool.not_true, Bool.not_false, show isiD "int" (.list x) = some (.bool false) from rfl]
  | tuple x => simp -implicitDefEqProofs only [eq_self, r_thn, r_tk, r_tk0, r_ret, r_lift, r_lift0, r_var, r_vk, r_bin, r_un, r_nil, r_cons, r_tup, r_of, r_call, r_tst, r_kt, r_ikT, r_ikF, r_ite, r_if, r_ife, r_and, r_or, r_not, r_vand, r_vor, r_vnot, r_chain, r_hkT, r_hkF, r_part, r_ok, r_sl, r_seq, r_skN, r_skR, r_skF, r_skB, r_skC, r_next, r_retS, r_rk, r_retF, r_rfk, r_drop, r_dk, r_asg, r_gk, r_gk2, gNm, r_tp, r_gs, r_qk, r_gs0, r_froz, r_frk, r_cmk, r_setI, r_stk, r_stk2, r_sti, r_pl, r_stj, r_aug, r_aug1, r_aug2, r_aug3, r_opN, r_par, r_prk, r_callN, r_tupRg, and_self, ixN0, ixN1, ixN2, r_peek, r_pk, r_pkI, r_pkB, r_pkS, r_pkN, r_tpeek, r_bk1, r_bk2, r_frz, r_fzk, r_own, owk, r_frkK, r_ownK, r_ixEd, r_ixEt, r_ixEl, r_inK, r_ninK, r_mk4, r_mk3, r_met, r_mk2, r_callM, r_mk2b, r_callM1, r_lenIs, r_callF, r_mat, r_mtk, r_mEnd, r_mCase, r_for, r_lk, r_items, r_itL, r_itT, r_rng, r_enum, r_zipM, zipM_ok, r_star, starL_ok, starT_ok, enumL_ok, enumT_ok, for_nil, r_lc, r_lck2, lc_nil, r_outM, r_outMn, r_outM1, r_outM1n, r_outD, r_outDf, r_outDn, r_outF, ixL0, ixL1, ixL2, ixT0, ixT1, ixT2, addI_ok, subI_ok, gtI_ok, geI_ok, leI_ok, ltI_ok, lenL_ok, lenT_ok, abs_ok, intB_ok, List.getElem?_cons_zero, List.getElem?_cons_succ, List.length_cons, List.length_nil, List.set_cons_zero, List.set_cons_succ, List.map_cons, List.map_nil, List.cons_append, List.nil_append, List.replicate_succ, List.replicate_zero, Nat.reduceAdd, Nat.reduceSub, Nat.reduceLT, Nat.reduceEqDiff, Option.bind_some, Option.bind_none, Option.map_some, Option.map_none, if_true, if_false, ite_true, ite_false, ↓reduceIte, Bool.not_true, Bool.not_false, show isiD "int" (.tuple x) = some (.bool false) from rfl]
  | dict x => simp -implicitDefEqProofs only [eq_self, r_thn, r_tk, r_tk0, r_ret, r_lift, r_lift0, r_var, r_vk, r_bin, r_un, r_nil, r_cons, r_tup, r_of, r_call, r_tst, r_kt, r_ikT, r_ikF, r_ite, r_if, r_ife, r_and, r_or, r_not, r_vand, r_vor, r_vnot, r_chain, r_hkT, r_hkF, r_part, r_ok, r_sl, r_seq, r_skN, r_skR, r_skF, r_skB, r_skC, r_next, r_retS, r_rk, r_retF, r_rfk, r_drop, r_dk, r_asg, r_gk, r_gk2, gNm, r_tp, r_gs, r_qk, r_gs0, r_froz, r_frk, r_cmk, r_setI, r_stk, r_stk2, r_sti, r_pl, r_stj, r_aug, r_aug1, r_aug2, r_aug3, r_opN, r_par, r_prk, r_callN, r_tupRg, and_self, ixN0, ixN1, ixN2, r_peek, r_pk, r_pkI, r_pkB, r_pkS, r_pkN, r_tpeek, r_bk1, r_bk2, r_frz, r_fzk, r_own, owk, r_frkK, r_ownK, r_ixEd, r_ixEt, r_ixEl, r_inK, r_ninK, r_mk4, r_mk3, r_met, r_mk2, r_callM, r_mk2b, r_callM1, r_lenIs, r_callF, r_mat, r_mtk, r_mEnd, r_mCase, r_for, r_lk, r_items, r_itL, r_itT, r_rng, r_enum, r_zipM, zipM_ok, r_star, starL_ok, starT_ok, enumL_ok, enumT_ok, for_nil, r_lc, r_lck2, lc_nil, r_outM, r_outMn, r_outM1, r_outM1n, r_outD, r_outDf, r_outDn, r_outF, ixL0, ixL1, ixL2, ixT0, ixT1, ixT2, addI_ok, subI_ok, gtI_ok, geI_ok, leI_ok, ltI_ok, lenL_ok, lenT_ok, abs_ok, intB_ok, List.getElem?_cons_zero, List.getElem?_cons_succ, List.length_cons, List.length_nil, List.set_cons_zero, List.set_cons_succ, List.map_cons, List.map_nil, List.cons_append, List.nil_append, List.replicate_succ, List.replicate_zero, Nat.reduceAdd, Nat.reduceSub, Nat.reduceLT, Nat.reduceEqDiff, Option.bind_some, Option.bind_none, Option.map_some, Option.map_none, if_true, if_false, ite_true, ite_false, ↓reduceIte, Bool.not_true, Bool.not_false, show isiD "int" (.dict x) = some (.bool false) from rfl]
end Lw

set_option Elab.async false
set_option linter.all false
set_option maxRecDepth 100000
set_option maxHeartbeats 4000000
namespace Lw
open PySem PySem.Spec PyProof.Rows L2 Tw
structure WebOk (m : Nat) (V : List (Int × Option Int)) : Prop where
  m : m ≤ 61
  len : V.length ≤ 130
  one : ∀ w ∈ V, 0 ≤ w.1 ∧ w.1 < 1000
  two : ∀ w ∈ V, ∀ g, w.2 = some g → 0 ≤ g ∧ g < 1000
def handsW (v : Int × Option Int) : List Int := v.1 :: v.2.toList
theorem flat_ge : ∀ V : List (Int × Option Int), V.length ≤ (flatW V).length
  | [] => Nat.le_refl _
  | v :: V => by
    have := flat_ge V
    show V.length + 1 ≤ (v.1 :: v.2.toList ++ flatW V).length
    rw [List.length_append, List.length_cons]
    omega
theorem Drawn.web {most m : Nat} {Bs : List (List Bool)} {S : List (Int × Option Int)} (D : Drawn most m Bs S) (h : most ≤ 30) : WebOk m S := by
  have hm := D.le
  have hp := D.perm
  have hl : (flatW S).length = 4 * m := by rw [hp.length_eq, List.length_map, List.length_range]
  have inr : ∀ x ∈ flatW S, 0 ≤ x ∧ x < 1000 := fun x hx => by
    obtain ⟨i, hi, rfl⟩ := List.mem_map.mp (hp.mem_iff.mp hx)
    have := List.mem_range.mp hi
    omega
  refine ⟨by omega, by have := flat_ge S; omega, fun w hw => inr _ (mem_flat hw), fun w hw g e => inr g (List.mem_flatMap.mpr ⟨w, hw, ?_⟩)⟩
  rw [e]
  simp
def Thing (d : PyData) : Prop := ∃ l c : Bool, (l && c) = false ∧ Fn l c 30000 60 d
theorem way_fn {l c : Bool} {w : Int × Option Int} (h1 : 0 ≤ w.1 ∧ w.1 < 1000) (h2 : ∀ g, w.2 = some g → 0 ≤ g ∧ g < 1000) : Fn l c 45 1 (wayD w) := by
  obtain ⟨a, b⟩ := w
  have h1 : 0 ≤ a ∧ a < 1000 := h1
  have fa : Fn l c 20 0 (.int a) := .sint (Nat.lt_of_lt_of_le (m := 1000) (by omega) (by decide)) (Nat.le_refl _)
  cases b with
  | none => exact Fn.tup ((FnL.cons fa (W2 := 0) .nil).wide (by decide) (Nat.le_refl _))
  | some g =>
    have h3 := h2 g rfl
    have fg : Fn l c 20 0 (.int g) := .sint (Nat.lt_of_lt_of_le (m := 1000) (by omega) (by decide)) (Nat.le_refl _)
    exact Fn.tup ((FnL.cons fa (FnL.cons fg (W2 := 0) .nil)).wide (by decide) (Nat.le_refl _))
theorem ways_fn {l c : Bool} {m : Nat} {V : List (Int × Option Int)} (h : WebOk m V) : FnL l c 6000 1 (V.map wayD) :=
  (FnL.all (W1 := 45) 130 (by rw [List.length_map]; exact h.len) fun d hd => by
    obtain ⟨w, hw, rfl⟩ := List.mem_map.mp hd
    exact way_fn (h.one w hw) (h.two w hw)).wide (by decide) (Nat.le_refl _)
theorem many_fn {l c : Bool} {i : Int} (h : -10 ≤ i ∧ i < 1000) : Fn l c 20 0 (.int i) := .sint (Nat.lt_of_lt_of_le (m := 1000) (by omega) (by decide)) (Nat.le_refl _)
theorem web_thing {m : Nat} {V : List (Int × Option Int)} (h : WebOk m V) : Thing (webD m V) := by
  have hm := h.m
  refine ⟨false, false, rfl, ?_⟩
  exact (Fn.tup (FnL.cons ((many_fn (by omega)).wide (Nat.le_refl _) (by decide : 0 ≤ 2)) (FnL.cons (Fn.tup (ways_fn h)) (W2 := 0) .nil))).wide (by decide) (by decide)
theorem pick {L : List PyData} {r : Int} (h0 : 0 ≤ r) (h1 : r < (L.length : Int)) : ∃ d, ixD (.list L) (.int r) = some d ∧ d ∈ L := by
  obtain ⟨j, rfl⟩ : ∃ j : Nat, r = (j : Int) := ⟨r.toNat, by omega⟩
  have hj : j < L.length := by omega
  exact ⟨L[j], ixLn (List.getElem?_eq_getElem hj), List.getElem_mem hj⟩
theorem addT_all {a b : List PyData} (h : a.length + b.length ≤ 100000) : addD (.tuple a) (.tuple b) = some (.tuple (a ++ b)) := if_pos (decide_eq_true h)
theorem cut_len (ds : List PyData) (lo hi : Option Int) : (Tw.cutD ds lo hi).length ≤ ds.length := by
  unfold Tw.cutD
  rw [List.length_take, List.length_drop]
  omega
theorem slT_ok {ds : List PyData} {lo hi : Option Int} : slD (.tuple ds) lo hi = some (.tuple (Tw.cutD ds lo hi)) := rfl
theorem max_ok {i j : Int} : maxD [.int i, .int j] = some (.int (if j > i then j else i)) := rfl
theorem pair_thing {l c : Bool} {a b : PyData} (hlc : (l && c) = false) (ha : Fn l c 1000 5 a) (hb : Fn l c 20000 40 b) : Thing (.tuple [a, b]) :=
  ⟨l, c, hlc, (Fn.tup (FnL.cons (ha.wide (Nat.le_refl _) (by decide : 5 ≤ 40)) (FnL.cons hb (W2 := 0) .nil))).wide (by decide) (by decide)⟩
theorem eqS_ok {x y : Str} : eqD (.str x) (.str y) = some (.bool (x == y)) := rfl
theorem repr_ok {d : PyData} (h : shownOk d = true) : reprD [d] = some (.str d.shown) := if_pos h
theorem thing_shown {d : PyData} (h : Thing d) : shownOk d = true := by
  obtain ⟨l, c, hlc, f⟩ := h
  exact (f.wide (W1 := 60000) (by decide) (Nat.le_refl _)).ok hlc
theorem Drawn.whole {most m : Nat} {Bs : List (List Bool)} {S : List (Int × Option Int)} (D : Drawn most m Bs S) : whole (4 * m) S := ⟨D.perm, D.rise, D.ord⟩
theorem waysI_map : ∀ {V : List (Int × Option Int)}, ordW V → waysI (V.map wayD) = some V
  | [], _ => rfl
  | v :: V, h => by
    have h1 : wayI (wayD v) = some v := by
      obtain ⟨a, b⟩ := v
      cases b with
      | none => rfl
      | some g => exact if_pos (h _ (List.mem_cons_self ..) g rfl)
    show (wayI (wayD v)).bind _ = _
    rw [h1, Option.bind_some, waysI_map fun w hw => h w (List.mem_cons_of_mem _ hw)]
    rfl
/-- the table of a web -/
theorem ha_web {m : Nat} {V : List (Int × Option Int)} (hm : m ≤ 60) (W : whole (4 * m) V) : ∃ B, g_hands_across [webD m V] = some (.list B) ∧ Tab (4 * m) V B := by
  have hl : V.length ≤ 240 := by
    have := flat_ge V
    have q := W.1.length_eq
    unfold rangeI at q
    rw [List.length_map, List.length_range] at q
    omega
  rcases ha_row (ws := V.map wayD) hm (by rw [List.length_map]; omega) with ⟨U, B, h1, _, h3, h4⟩ | ⟨_, h2⟩
  · rw [waysI_map W.2.2] at h1
    cases h1
    exact ⟨B, h3, h4⟩
  · exact absurd ⟨V, waysI_map W.2.2, W⟩ h2
end Lw

set_option linter.all false
namespace Lw
/-! ### walks by mates and ways -/
structure Net (n : Nat) (X : Int → Option Int) (T : Int → Int) : Prop where
  tin : ∀ h, 0 ≤ h ∧ h < (n : Int) → 0 ≤ T h ∧ T h < (n : Int)
  tt : ∀ h, 0 ≤ h ∧ h < (n : Int) → T (T h) = h
  tne : ∀ h, 0 ≤ h ∧ h < (n : Int) → T h ≠ h
  xin : ∀ h g, 0 ≤ h ∧ h < (n : Int) → X h = some g → 0 ≤ g ∧ g < (n : Int)
  xx : ∀ h g, 0 ≤ h ∧ h < (n : Int) → X h = some g → X g = some h
  xne : ∀ h, 0 ≤ h ∧ h < (n : Int) → X h ≠ some h
section
variable {n : Nat} {X : Int → Option Int} {T : Int → Int}
def Path (X : Int → Option Int) (T : Int → Int) (l : List Int) : Prop := ∀ (i : Nat) (a b : Int), l[i]? = some a → l[i + 1]? = some b → X (T a) = some b
def inH (n : Nat) (l : List Int) : Prop := ∀ x ∈ l, 0 ≤ x ∧ x < (n : Int)
theorem inH.at {l : List Int} (h : inH n l) {i : Nat} {a : Int} (e : l[i]? = some a) : 0 ≤ a ∧ a < (n : Int) := h a (List.mem_of_getElem? e)
theorem Path.back (N : Net n X T) {l : List Int} (P : Path X T l) (I : inH n l) {i : Nat} {a b : Int} (h1 : l[i]? = some a) (h2 : l[i + 1]? = some b) : X b = some (T a) := N.xx _ _ (N.tin _ (I.at h1)) (P i a b h1 h2)
/-- none is a mate of another one -/
theorem Path.apart (N : Net n X T) {l : List Int} (P : Path X T l) (I : inH n l) : ∀ (d i : Nat) (a b : Int), l[i]? = some a → l[i + d]? = some b → b ≠ T a
  | 0, i, a, b, h1, h2, e => by
    rw [Nat.add_zero, h1] at h2
    cases h2
    exact N.tne a (I.at h1) e.symm
  | 1, i, a, b, h1, h2, e => by
    have := P i a b h1 h2
    subst e
    exact N.xne _ (N.tin _ (I.at h1)) this
  | d + 2, i, a, b, h1, h2, e => by
    have hl : i + (d + 2) < l.length := (List.getElem?_eq_some_iff.mp h2).1
    have h3 : l[i + 1]? = some (l[i + 1]'(by omega)) := List.getElem?_eq_getElem (by omega)
    have h4 : l[i + 1 + d]? = some (l[i + 1 + d]'(by omega)) := List.getElem?_eq_getElem (by omega)
    have q1 := P i a _ h1 h3
    have q2 := Path.back N P I (i := i + 1 + d) h4 (by rw [show i + 1 + d + 1 = i + (d + 2) by omega]; exact h2)
    subst e
    rw [q1] at q2
    have q3 := Option.some.inj q2
    refine Path.apart N P I d (i + 1) _ _ h3 h4 ?_
    rw [q3, N.tt _ (I.at h4)]
structure Walk (n : Nat) (X : Int → Option Int) (T : Int → Int) (first : Int) (l : List Int) : Prop where
  hd : l[0]? = some first
  path : Path X T l
  inr : inH n l
  later : ∀ (i : Nat) (b : Int), l[i + 1]? = some b → b ≠ first
theorem Walk.inj (N : Net n X T) {first : Int} {l : List Int} (W : Walk n X T first l) : ∀ (i j : Nat) (a : Int), l[i]? = some a → l[j]? = some a → i = j
  | 0, 0, _, _, _ => rfl
  | 0, j + 1, a, h1, h2 => by
    rw [W.hd] at h1
    cases h1
    exact absurd rfl (W.later j _ h2)
  | i + 1, 0, a, h1, h2 => by
    rw [W.hd] at h2
    cases h2
    exact absurd rfl (W.later i _ h1)
  | i + 1, j + 1, a, h1, h2 => by
    have li : i + 1 < l.length := (List.getElem?_eq_some_iff.mp h1).1
    have lj : j + 1 < l.length := (List.getElem?_eq_some_iff.mp h2).1
    have e1 : l[i]? = some (l[i]'(by omega)) := List.getElem?_eq_getElem (by omega)
    have e2 : l[j]? = some (l[j]'(by omega)) := List.getElem?_eq_getElem (by omega)
    have b1 := Path.back N W.path W.inr e1 h1
    have b2 := Path.back N W.path W.inr e2 h2
    rw [b1] at b2
    have q := congrArg T (Option.some.inj b2)
    rw [N.tt _ (W.inr.at e1), N.tt _ (W.inr.at e2)] at q
    rw [← q] at e2
    rw [Walk.inj N W i j _ e1 e2]
theorem Walk.nd (N : Net n X T) {first : Int} {l : List Int} (W : Walk n X T first l) : l.Nodup := by
  refine List.pairwise_iff_getElem.mpr fun i j hi hj hij e => ?_
  have e1 : l[i]? = some l[i] := List.getElem?_eq_getElem hi
  have e2 : l[j]? = some l[j] := List.getElem?_eq_getElem hj
  rw [← e] at e2
  have := Walk.inj N W i j _ e1 e2
  omega
theorem in_len : ∀ (n : Nat) (l : List Int), l.Nodup → inH n l → l.length ≤ n := fun n l nd h => by
  have nr : ((List.range n).map fun i : Nat => (i : Int)).Nodup := List.Pairwise.map (R := (· ≠ ·)) (fun i : Nat => (i : Int)) (fun a b h z => h (by exact_mod_cast z)) List.nodup_range
  have p : l.Perm (((List.range n).map fun i : Nat => (i : Int)).filter fun r => decide (r ∈ l)) := by
    refine (List.perm_ext_iff_of_nodup nd (List.Nodup.sublist List.filter_sublist nr)).mpr fun a => ?_
    rw [List.mem_filter, decide_eq_true_eq]
    refine ⟨fun q => ⟨?_, q⟩, fun q => q.2⟩
    have := h a q
    exact List.mem_map.mpr ⟨a.toNat, List.mem_range.mpr (by omega), by omega⟩
  rw [p.length_eq]
  refine Nat.le_trans (List.length_filter_le _ _) ?_
  rw [List.length_map, List.length_range]
  exact Nat.le_refl _
def wk (X : Int → Option Int) (T : Int → Int) (first : Int) : Nat → Int → Option (List Int)
  | 0, _ => none
  | k + 1, a => match X (T a) with
    | none => some [a]
    | some g => if g = first then some [a] else (wk X T first k g).map (a :: ·)
/-- where it ends -/
def Ends (X : Int → Option Int) (T : Int → Int) (first : Int) (l : List Int) : Prop := ∃ z, l[l.length - 1]? = some z ∧ (X (T z) = none ∨ X (T z) = some first)
theorem wk_ok (N : Net n X T) {first : Int} : ∀ (k : Nat) (vs : List Int) (a : Int), Walk n X T first (vs ++ [a]) → n < vs.length + 1 + k → ∃ l, wk X T first k a = some l ∧ l[0]? = some a ∧ Walk n X T first (vs ++ l) ∧ Ends X T first (vs ++ l)
  | 0, vs, a, W, h => by
    have := in_len n _ (W.nd N) W.inr
    rw [List.length_append, List.length_singleton] at this
    omega
  | k + 1, vs, a, W, h => by
    have la : (vs ++ [a])[(vs ++ [a]).length - 1]? = some a := by
      rw [List.length_append, List.length_singleton, Nat.add_sub_cancel, List.getElem?_append_right (Nat.le_refl _), Nat.sub_self]
      rfl
    have ina := W.inr a (List.mem_append_right _ (List.mem_singleton.mpr rfl))
    cases hx : X (T a) with
    | none => exact ⟨[a], by unfold wk; rw [hx], rfl, W, a, la, .inl hx⟩
    | some g =>
      by_cases hg : g = first
      · exact ⟨[a], by unfold wk; rw [hx]; exact if_pos hg, rfl, W, a, la, .inr (by rw [hx, hg])⟩
      · have W2 : Walk n X T first ((vs ++ [a]) ++ [g]) := by
          have gl : ∀ {i : Nat} {b : Int}, ((vs ++ [a]) ++ [g])[i]? = some b → (i < (vs ++ [a]).length ∧ (vs ++ [a])[i]? = some b) ∨ (i = (vs ++ [a]).length ∧ b = g) := fun {i b} e => by
            by_cases c : i < (vs ++ [a]).length
            · rw [List.getElem?_append_left c] at e
              exact .inl ⟨c, e⟩
            · have : i < ((vs ++ [a]) ++ [g]).length := (List.getElem?_eq_some_iff.mp e).1
              rw [List.length_append, List.length_singleton] at this
              have ei : i = (vs ++ [a]).length := by omega
              rw [ei, List.getElem?_append_right (Nat.le_refl _), Nat.sub_self] at e
              cases e
              exact .inr ⟨ei, rfl⟩
          refine ⟨?_, fun i x y h1 h2 => ?_, fun x hx' => ?_, fun i b e => ?_⟩
          · rw [List.getElem?_append_left (by rw [List.length_append, List.length_singleton]; omega)]
            exact W.hd
          · rcases gl h2 with ⟨_, h2⟩ | ⟨ei, rfl⟩
            · rcases gl h1 with ⟨_, h1⟩ | ⟨e1, _⟩
              · exact W.path i x y h1 h2
              · have := (List.getElem?_eq_some_iff.mp h2).1
                omega
            · rcases gl h1 with ⟨_, h1⟩ | ⟨e1, _⟩
              · rw [show i = (vs ++ [a]).length - 1 by omega, la] at h1
                cases h1
                exact hx
              · omega
          · rcases List.mem_append.mp hx' with h | h
            · exact W.inr x h
            · rw [List.mem_singleton.mp h]
              exact N.xin _ _ (N.tin _ ina) hx
          · rcases gl e with ⟨_, e⟩ | ⟨_, rfl⟩
            · exact W.later i b e
            · exact hg
        obtain ⟨l, e1, e2, W3, E⟩ := wk_ok N k (vs ++ [a]) g W2 (by rw [List.length_append, List.length_singleton]; omega)
        refine ⟨a :: l, ?_, rfl, ?_, ?_⟩
        · unfold wk
          rw [hx]
          show (if g = first then _ else _) = _
          rw [if_neg hg, e1]
          rfl
        · rw [List.append_assoc] at W3
          exact W3
        · rw [List.append_assoc] at E
          exact E
/-- from any hand a walk comes to an end, or round -/
theorem wk_all (N : Net n X T) {first : Int} (h : 0 ≤ first ∧ first < (n : Int)) : ∃ l, wk X T first (n + 1) first = some l ∧ Walk n X T first l ∧ Ends X T first l := by
  have W : Walk n X T first ([] ++ [first]) := ⟨rfl, fun i a b h1 h2 => by
    have := (List.getElem?_eq_some_iff.mp h2).1
    simp at this, fun x hx => by rw [List.mem_singleton.mp hx]; exact h, fun i b e => by
    have := (List.getElem?_eq_some_iff.mp e).1
    simp at this⟩
  obtain ⟨l, e1, e2, W2, E⟩ := wk_ok N (n + 1) [] first W (by rw [List.length_nil]; omega)
  exact ⟨l, e1, W2, E⟩
end
end Lw

set_option linter.all false
namespace Lw
section
variable {n : Nat} {X : Int → Option Int} {T : Int → Int}
/-! ### rows of hands, one walk behind another -/
def rowL (T : Int → Int) (l : List Int) : List Int := l.flatMap fun a => [a, T a]
theorem mem_row {l : List Int} {h : Int} : h ∈ rowL T l ↔ ∃ a ∈ l, h = a ∨ h = T a := by
  unfold rowL
  rw [List.mem_flatMap]
  simp only [List.mem_cons, List.not_mem_nil, or_false]
/-- a set of hands that mates and ways do not leave -/
structure Clo (n : Nat) (X : Int → Option Int) (T : Int → Int) (F : List Int) : Prop where
  inr : inH n F
  t : ∀ h ∈ F, T h ∈ F
  x : ∀ h ∈ F, ∀ g, X h = some g → g ∈ F
theorem Clo.back (N : Net n X T) {F : List Int} (C : Clo n X T F) {first : Int} {l : List Int} (W : Walk n X T first l) : ∀ (i : Nat) (a : Int), l[i]? = some a → a ∈ F → first ∈ F
  | 0, a, e, h => by
    rw [W.hd] at e
    cases e
    exact h
  | i + 1, a, e, h => by
    have li : i + 1 < l.length := (List.getElem?_eq_some_iff.mp e).1
    have e1 : l[i]? = some (l[i]'(by omega)) := List.getElem?_eq_getElem (by omega)
    have b := Path.back N W.path W.inr e1 e
    have q := C.t _ (C.x a h _ b)
    rw [N.tt _ (W.inr.at e1)] at q
    exact Clo.back N C W i _ e1 q
theorem Clo.away (N : Net n X T) {F : List Int} (C : Clo n X T F) {first : Int} {l : List Int} (W : Walk n X T first l) (hf : first ∉ F) : ∀ h ∈ rowL T l, h ∉ F := fun h hh q => by
  obtain ⟨a, ha, e⟩ := mem_row.mp hh
  obtain ⟨i, hi⟩ := List.mem_iff_getElem?.mp ha
  rcases e with rfl | rfl
  · exact hf (C.back N W i _ hi q)
  · have := C.t _ q
    rw [N.tt _ (W.inr a ha)] at this
    exact hf (C.back N W i _ hi this)
theorem Walk.row_nd (N : Net n X T) {first : Int} {l : List Int} (W : Walk n X T first l) : (rowL T l).Nodup := by
  unfold rowL
  refine List.pairwise_flatMap.mpr ⟨fun a ha => ?_, ?_⟩
  · have := N.tne a (W.inr a ha)
    simp only [List.pairwise_cons, List.mem_singleton, forall_eq, List.not_mem_nil, false_implies, implies_true, List.Pairwise.nil, and_true]
    exact fun z => this z.symm
  · refine List.pairwise_iff_getElem.mpr fun i j hi hj hij => ?_
    have e1 : l[i]? = some l[i] := List.getElem?_eq_getElem hi
    have e2 : l[j]? = some l[j] := List.getElem?_eq_getElem hj
    have ap := Path.apart N W.path W.inr (j - i) i _ _ e1 (by rw [show i + (j - i) = j by omega]; exact e2)
    have ne : l[i] ≠ l[j] := fun e => by
      rw [← e] at e2
      have := Walk.inj N W i j _ e1 e2
      omega
    have t1 := N.tt _ (W.inr.at e1)
    have t2 := N.tt _ (W.inr.at e2)
    intro x hx y hy
    simp only [List.mem_cons, List.not_mem_nil, or_false] at hx hy
    rcases hx with rfl | rfl <;> rcases hy with rfl | rfl
    · exact ne
    · intro e
      exact ap (by rw [e, t2])
    · exact fun e => ap e.symm
    · intro e
      have := congrArg T e
      rw [t1, t2] at this
      exact ne this
/-- one more row -/
theorem Clo.more (N : Net n X T) {F : List Int} (C : Clo n X T F) {first : Int} {l : List Int} (W : Walk n X T first l) (E : Ends X T first l) (hf : first ∉ F) (he : X first = none ∨ ∀ h, 0 ≤ h ∧ h < (n : Int) → X h = none → h ∈ F) : Clo n X T (F ++ rowL T l) := by
  obtain ⟨z, hz, ez⟩ := E
  have iz := W.inr.at hz
  have rnd : X first = none ∨ X (T z) = some first := by
    rcases he with he | he
    · exact .inl he
    · rcases ez with ez | ez
      · have q := C.t _ (he _ (N.tin _ iz) ez)
        rw [N.tt _ iz] at q
        exact absurd (C.back N W _ _ hz q) hf
      · exact .inr ez
  have inrow : ∀ {i : Nat} {a : Int}, l[i]? = some a → a ∈ rowL T l ∧ T a ∈ rowL T l := fun {i a} e => ⟨mem_row.mpr ⟨a, List.mem_of_getElem? e, .inl rfl⟩, mem_row.mpr ⟨a, List.mem_of_getElem? e, .inr rfl⟩⟩
  refine ⟨fun x hx => ?_, fun h hh => ?_, fun h hh g e => ?_⟩
  · rcases List.mem_append.mp hx with hx | hx
    · exact C.inr x hx
    · obtain ⟨a, ha, rfl | rfl⟩ := mem_row.mp hx
      · exact W.inr _ ha
      · exact N.tin _ (W.inr _ ha)
  · rcases List.mem_append.mp hh with hh | hh
    · exact List.mem_append_left _ (C.t h hh)
    · refine List.mem_append_right _ ?_
      obtain ⟨a, ha, rfl | rfl⟩ := mem_row.mp hh
      · exact mem_row.mpr ⟨_, ha, .inr rfl⟩
      · rw [N.tt _ (W.inr _ ha)]
        exact mem_row.mpr ⟨_, ha, .inl rfl⟩
  · rcases List.mem_append.mp hh with hh | hh
    · exact List.mem_append_left _ (C.x h hh g e)
    · refine List.mem_append_right _ ?_
      obtain ⟨a, ha, q⟩ := mem_row.mp hh
      obtain ⟨i, hi⟩ := List.mem_iff_getElem?.mp ha
      rcases q with rfl | rfl
      · cases i with
        | zero =>
          rw [W.hd] at hi
          cases hi
          rcases rnd with r | r
          · rw [r] at e
            cases e
          · rw [N.xx _ _ (N.tin _ iz) r] at e
            cases e
            exact (inrow hz).2
        | succ i =>
          have li : i + 1 < l.length := (List.getElem?_eq_some_iff.mp hi).1
          have e1 : l[i]? = some (l[i]'(by omega)) := List.getElem?_eq_getElem (by omega)
          rw [Path.back N W.path W.inr e1 hi] at e
          cases e
          exact (inrow e1).2
      · by_cases c : i + 1 < l.length
        · have e1 : l[i + 1]? = some l[i + 1] := List.getElem?_eq_getElem c
          rw [W.path i a _ hi e1] at e
          cases e
          exact (inrow e1).1
        · have li : i < l.length := (List.getElem?_eq_some_iff.mp hi).1
          rw [show l.length - 1 = i by omega, hi] at hz
          cases hz
          rcases ez with r | r
          · rw [r] at e
            cases e
          · rw [r] at e
            cases e
            exact (inrow W.hd).1
/-- what is known of a row that is told -/
def IsRow (n : Nat) (X : Int → Option Int) (T : Int → Int) (r : List Int) : Prop := ∃ first l, r = rowL T l ∧ Walk n X T first l ∧ Ends X T first l ∧ wk X T first (n + 1) first = some l ∧ (0 ≤ first ∧ first < (n : Int)) ∧ (X first = none ∨ X first ≠ none)
def stepR (n : Nat) (X : Int → Option Int) (T : Int → Int) (rows : List (List Int)) (first : Int) : List (List Int) := if first ∈ rows.flatten then rows else rows ++ [rowL T ((wk X T first (n + 1) first).getD [])]
structure Fam (n : Nat) (X : Int → Option Int) (T : Int → Int) (rows : List (List Int)) : Prop where
  clo : Clo n X T rows.flatten
  nd : rows.flatten.Nodup
  row : ∀ r ∈ rows, IsRow n X T r
theorem Fam.nil : Fam n X T [] := ⟨⟨fun x hx => (nomatch hx), fun h hh => (nomatch hh), fun h hh => (nomatch hh)⟩, List.Pairwise.nil, fun r hr => (nomatch hr)⟩
theorem Fam.step (N : Net n X T) {rows : List (List Int)} (M : Fam n X T rows) {first : Int} (h : 0 ≤ first ∧ first < (n : Int)) (he : X first = none ∨ ∀ h, 0 ≤ h ∧ h < (n : Int) → X h = none → h ∈ rows.flatten) : Fam n X T (stepR n X T rows first) ∧ first ∈ (stepR n X T rows first).flatten ∧ ∀ x ∈ rows.flatten, x ∈ (stepR n X T rows first).flatten := by
  unfold stepR
  by_cases c : first ∈ rows.flatten
  · rw [if_pos c]
    exact ⟨M, c, fun _ q => q⟩
  · rw [if_neg c]
    obtain ⟨l, e, W, E⟩ := wk_all N h
    rw [e, Option.getD_some, List.flatten_append, List.flatten_singleton]
    refine ⟨⟨?_, ?_, fun r hr => ?_⟩, List.mem_append_right _ (mem_row.mpr ⟨first, List.mem_of_getElem? W.hd, .inl rfl⟩), fun x q => List.mem_append_left _ q⟩
    · rw [List.flatten_append, List.flatten_singleton]
      exact M.clo.more N W E c he
    · rw [List.flatten_append, List.flatten_singleton]
      refine List.nodup_append.mpr ⟨M.nd, W.row_nd N, fun x hx y hy z => ?_⟩
      subst z
      exact M.clo.away N W c x hy hx
    · rcases List.mem_append.mp hr with hr | hr
      · exact M.row r hr
      · rw [List.mem_singleton.mp hr]
        exact ⟨first, l, rfl, W, E, e, h, Classical.em _⟩
end
end Lw

set_option Elab.async false
set_option linter.all false
set_option maxRecDepth 100000
set_option maxHeartbeats 4000000
namespace Lw
open PySem PySem.Spec PyProof.Rows L2 Tw
/-! ### a web with a mating as a net -/
def bitOf (x : Int) : Int := if x = 0 then 1 else if x = 1 then 3 else 2
def mateT (x r : Int) : Int := if x = 0 then (if r = 0 then 1 else if r = 1 then 0 else if r = 2 then 3 else 2) else if x = 1 then (if r = 0 then 3 else if r = 1 then 2 else if r = 2 then 1 else 0) else (if r = 0 then 2 else if r = 1 then 3 else if r = 2 then 0 else 1)
def xorAll : Bool := (List.range 60).all fun p => [(0 : Int), 1, 2].all fun x => [(0 : Int), 1, 2, 3].all fun r => Builtin.bitXor (4 * (p : Int) + r) (bitOf x) == 4 * (p : Int) + mateT x r
theorem xorAll_ok : xorAll = true := by decide +kernel
def three (x : Int) : Prop := x = 0 ∨ x = 1 ∨ x = 2
theorem xor_ok {h x : Int} (h0 : 0 ≤ h) (h1 : h < 240) (hx : three x) : Builtin.bitXor h (bitOf x) = h - h % 4 + mateT x (h % 4) := by
  have a := List.all_eq_true.mp xorAll_ok (h / 4).toNat (List.mem_range.mpr (by omega))
  have b := List.all_eq_true.mp a x (by rcases hx with rfl | rfl | rfl <;> simp)
  have c := List.all_eq_true.mp b (h % 4) (by
    have : h % 4 = 0 ∨ h % 4 = 1 ∨ h % 4 = 2 ∨ h % 4 = 3 := by omega
    rcases this with e | e | e | e <;> rw [e] <;> simp)
  have d := eq_of_beq c
  have e : 4 * (((h / 4).toNat : Nat) : Int) = h - h % 4 := by omega
  rw [e, show h - h % 4 + h % 4 = h by omega] at d
  exact d
structure Mat (m : Nat) (M : List Int) : Prop where
  len : M.length = m
  all : ∀ x ∈ M, three x
def atM (M : List Int) (h : Int) : Int := M.getD (h / 4).toNat 0
def TM (M : List Int) (h : Int) : Int := h - h % 4 + mateT (atM M h) (h % 4)
def XB (B : List PyData) (h : Int) : Option Int := match B[h.toNat]? with
  | some (.int g) => some g
  | _ => none
theorem mate_facts {x r : Int} (hx : three x) (hr : 0 ≤ r ∧ r < 4) : 0 ≤ mateT x r ∧ mateT x r < 4 ∧ mateT x r ≠ r ∧ mateT x (mateT x r) = r := by
  have c : r = 0 ∨ r = 1 ∨ r = 2 ∨ r = 3 := by omega
  rcases hx with rfl | rfl | rfl <;> rcases c with rfl | rfl | rfl | rfl <;> decide
section
variable {m : Nat} {V : List (Int × Option Int)} {M : List Int} {B : List PyData}
theorem atM_ok (hM : Mat m M) {h : Int} (h0 : 0 ≤ h) (h1 : h < 4 * (m : Int)) : three (atM M h) ∧ M[(h / 4).toNat]? = some (atM M h) := by
  have : (h / 4).toNat < M.length := by rw [hM.len]; omega
  have e : M[(h / 4).toNat]? = some M[(h / 4).toNat] := List.getElem?_eq_getElem this
  unfold atM
  rw [List.getD_eq_getElem?_getD, e]
  exact ⟨hM.all _ (List.getElem_mem this), rfl⟩
/-- each hand stands in a way -/
theorem XB_way (W : whole (4 * m) V) (t : Tab (4 * m) V B) {h : Int} (h0 : 0 ≤ h ∧ h < ((4 * m : Nat) : Int)) : (B[h.toNat]? = some .none ∧ (h, none) ∈ V) ∨ ∃ g, B[h.toNat]? = some (.int g) ∧ B[g.toNat]? = some (.int h) ∧ (0 ≤ g ∧ g < ((4 * m : Nat) : Int)) ∧ g ≠ h := by
  have hf : h ∈ flatW V := W.1.mem_iff.mpr (mem_rangeI.mpr h0)
  obtain ⟨v, hv, hh⟩ := List.mem_flatMap.mp hf
  have inr : ∀ x ∈ flatW V, 0 ≤ x ∧ x < ((4 * m : Nat) : Int) := fun x hx => mem_rangeI.mp (W.1.mem_iff.mp hx)
  obtain ⟨a, b⟩ := v
  cases b with
  | none =>
    have : h = a := by simpa using hh
    subst this
    exact .inl ⟨t.one _ hv rfl, hv⟩
  | some g =>
    have c : h = a ∨ h = g := by simpa using hh
    obtain ⟨e1, e2⟩ := t.two _ hv g rfl
    have lt := W.2.2 _ hv g rfl
    have lt : a < g := lt
    have ia := inr a (mem_flat hv)
    have ig := inr g (List.mem_flatMap.mpr ⟨_, hv, by simp⟩)
    rcases c with rfl | rfl
    · exact .inr ⟨g, e1, e2, ig, by omega⟩
    · exact .inr ⟨a, e2, e1, ia, by omega⟩
theorem net_of (W : whole (4 * m) V) (t : Tab (4 * m) V B) (hM : Mat m M) : Net (4 * m) (XB B) (TM M) := by
  have xb : ∀ {h g : Int}, 0 ≤ h ∧ h < ((4 * m : Nat) : Int) → XB B h = some g → B[h.toNat]? = some (.int g) ∧ B[g.toNat]? = some (.int h) ∧ (0 ≤ g ∧ g < ((4 * m : Nat) : Int)) ∧ g ≠ h := fun {h g} h0 e => by
    unfold XB at e
    rcases XB_way W t h0 with ⟨q, _⟩ | ⟨g', q1, q2, q3, q4⟩
    · rw [q] at e
      cases e
    · rw [q1] at e
      cases e
      exact ⟨q1, q2, q3, q4⟩
  have tm : ∀ {h : Int}, 0 ≤ h ∧ h < ((4 * m : Nat) : Int) → (0 ≤ TM M h ∧ TM M h < ((4 * m : Nat) : Int)) ∧ TM M h / 4 = h / 4 ∧ TM M h % 4 = mateT (atM M h) (h % 4) ∧ TM M h ≠ h ∧ TM M (TM M h) = h := fun {h} h0 => by
    obtain ⟨tx, _⟩ := atM_ok hM h0.1 (by omega)
    obtain ⟨a, b, c, d⟩ := mate_facts tx (r := h % 4) (by omega)
    have e0 : TM M h = h - h % 4 + mateT (atM M h) (h % 4) := rfl
    have e1 : TM M h / 4 = h / 4 := by omega
    have e2 : TM M h % 4 = mateT (atM M h) (h % 4) := by omega
    refine ⟨by omega, e1, e2, by omega, ?_⟩
    have e3 : atM M (TM M h) = atM M h := by
      unfold atM
      rw [e1]
    have e4 : TM M (TM M h) = TM M h - TM M h % 4 + mateT (atM M (TM M h)) (TM M h % 4) := rfl
    rw [e4, e3, e2, d]
    omega
  refine ⟨fun h h0 => (tm h0).1, fun h h0 => (tm h0).2.2.2.2, fun h h0 => (tm h0).2.2.2.1, fun h g h0 e => (xb h0 e).2.2.1, fun h g h0 e => ?_, fun h h0 e => (xb h0 e).2.2.2 rfl⟩
  unfold XB
  rw [(xb h0 e).2.1]
/-! ### a strand, walked by the program -/
def xD : Option Int → PyData
  | some g => .int g
  | none => .none
theorem XB_ix (W : whole (4 * m) V) (t : Tab (4 * m) V B) {h : Int} (h0 : 0 ≤ h ∧ h < ((4 * m : Nat) : Int)) : ixD (.list B) (.int h) = some (xD (XB B h)) := by
  obtain ⟨k, rfl⟩ : ∃ k : Nat, h = (k : Int) := ⟨h.toNat, by omega⟩
  have e : B[((k : Int)).toNat]? = B[k]? := by rw [Int.toNat_natCast]
  unfold XB
  rcases XB_way W t h0 with ⟨q, _⟩ | ⟨g', q1, _, _, _⟩
  · rw [q]
    rw [e] at q
    exact ixLn q
  · rw [q1]
    rw [e] at q1
    exact ixLn q1
end
end Lw

set_option Elab.async false
set_option linter.all false
set_option maxRecDepth 100000
set_option maxHeartbeats 4000000
namespace Lw
open PySem PySem.Spec PyProof.Rows L2 Tw
def rowsD (R : List (List Int)) : List PyData := R.map fun r => .tuple (intsD r)
def metL (n : Nat) (F : List Int) : List PyData := (List.range n).map fun h : Nat => .bool (decide ((h : Int) ∈ F))
theorem metL_len (n : Nat) (F : List Int) : (metL n F).length = n := by unfold metL; rw [List.length_map, List.length_range]
theorem metL_get {n : Nat} {F : List Int} {i : Nat} (h : i < n) : (metL n F)[i]? = some (.bool (decide ((i : Int) ∈ F))) := by
  unfold metL
  rw [List.getElem?_map, List.getElem?_range h]
  rfl
theorem metL_set {n : Nat} {F : List Int} {i : Nat} (h : i < n) : (metL n F).set i (.bool true) = metL n (F ++ [(i : Int)]) := by
  refine List.ext_getElem? fun j => ?_
  by_cases hj : j < n
  · rw [metL_get hj]
    by_cases q : j = i
    · subst q
      rw [List.getElem?_set_self (by rw [metL_len]; exact h), decide_eq_true (List.mem_append_right _ (List.mem_singleton.mpr rfl))]
    · rw [List.getElem?_set_ne (Ne.symm q), metL_get hj]
      congr 2
      refine decide_eq_decide.mpr ⟨fun z => List.mem_append_left _ z, fun z => ?_⟩
      rcases List.mem_append.mp z with z | z
      · exact z
      · have := List.mem_singleton.mp z
        omega
  · rw [List.getElem?_eq_none (by rw [List.length_set, metL_len]; omega), List.getElem?_eq_none (by rw [metL_len]; omega)]
theorem alike_ints : ∀ A B : List Int, PySem.W.alikeAll (intsD A) (intsD B) = true
  | [], [] => rfl
  | [], _ :: _ => rfl
  | _ :: _, [] => rfl
  | a :: A, b :: B => by
    have ih := alike_ints A B
    show (PySem.W.alike (.int a) (.int b) && PySem.W.alikeAll (intsD A) (intsD B)) = true
    rw [ih, Bool.and_true]
    rfl
theorem depth_ints : ∀ A : List Int, PyData.depthAll (intsD A) = 0
  | [] => rfl
  | a :: A => by
    show max (PyData.depth (.int a)) (PyData.depthAll (intsD A)) = 0
    rw [depth_ints A]
    rfl
theorem rows_sortOk {R : List (List Int)} (h : ∀ r ∈ R, r ≠ []) : sortOk (rowsD R) = true := by
  unfold sortOk
  rw [Bool.and_eq_true, Bool.and_eq_true, Bool.or_eq_true]
  refine ⟨⟨?_, .inl ?_⟩, ?_⟩
  · unfold allAlikeB
    refine List.all_eq_true.mpr fun d hd => List.all_eq_true.mpr fun e he => ?_
    obtain ⟨v, _, rfl⟩ := List.mem_map.mp hd
    obtain ⟨w, _, rfl⟩ := List.mem_map.mp he
    exact alike_ints v w
  · refine List.all_eq_true.mpr fun d hd => ?_
    obtain ⟨v, hv, rfl⟩ := List.mem_map.mp hd
    cases v with
    | nil => exact absurd rfl (h _ hv)
    | cons x v => rfl
  · refine List.all_eq_true.mpr fun d hd => ?_
    obtain ⟨v, _, rfl⟩ := List.mem_map.mp hd
    refine decide_eq_true ?_
    show PyData.depthAll (intsD v) + 1 ≤ 60
    rw [depth_ints]
    decide
theorem rows_sorted {R : List (List Int)} (h : ∀ r ∈ R, r ≠ []) : ∃ S : List (List Int), sortedD [.list (rowsD R)] = some (.list (rowsD S)) ∧ S.Perm R := by
  refine ⟨R.mergeSort fun v w => PySem.W.dataLe false id (.tuple (intsD v)) (.tuple (intsD w)), ?_, List.mergeSort_perm _ _⟩
  show (if sortOk (rowsD R) = true then some (PyData.list (srt (rowsD R))) else none) = _
  rw [if_pos (rows_sortOk h)]
  unfold srt rowsD
  rw [List.map_mergeSort (r := fun v w => PySem.W.dataLe false id (.tuple (intsD v)) (.tuple (intsD w))) (s := PySem.W.dataLe false id) (f := fun r => PyData.tuple (intsD r)) fun a _ b _ => rfl]
theorem rowsD_app (R : List (List Int)) (r : List Int) : rowsD (R ++ [r]) = rowsD R ++ [.tuple (intsD r)] := by
  unfold rowsD
  rw [List.map_append]
  rfl
end Lw

set_option Elab.async false
set_option linter.all false
set_option maxRecDepth 100000
set_option maxHeartbeats 4000000
namespace Lw
open PySem PySem.Spec PyProof.Rows L2 Tw
/-! ### posts that hang together -/
/-- a post beside another: a way leads over -/
def adjP (X : Int → Option Int) (p q : Int) : Prop := ∃ r g : Int, (0 ≤ r ∧ r < 4) ∧ X (4 * p + r) = some g ∧ g / 4 = q
inductive ReachP (X : Int → Option Int) (p : Int) : Int → Prop
  | refl : ReachP X p p
  | step {q r : Int} : ReachP X p q → adjP X q r → ReachP X p r
theorem adjP_sym {n : Nat} {X : Int → Option Int} {T : Int → Int} (N : Net (4 * n) X T) {p q : Int} (hp : 0 ≤ p ∧ p < (n : Int)) (h : adjP X p q) : adjP X q p := by
  obtain ⟨r, g, hr, hx, e⟩ := h
  have g0 := N.xin _ _ (by omega) hx
  have gx := N.xx _ _ (by omega) hx
  refine ⟨g % 4, 4 * p + r, by omega, ?_, by omega⟩
  rw [show 4 * q + g % 4 = g by omega]
  exact gx
theorem adjP_in {n : Nat} {X : Int → Option Int} {T : Int → Int} (N : Net (4 * n) X T) {p q : Int} (hp : 0 ≤ p ∧ p < (n : Int)) (h : adjP X p q) : 0 ≤ q ∧ q < (n : Int) := by
  obtain ⟨r, g, hr, hx, e⟩ := h
  have g0 := N.xin _ _ (by omega) hx
  omega
def stepP (F : List Int) (Q : List Int) : Option Int → List Int
  | none => Q
  | some g => if g / 4 ∈ F ++ Q then Q else Q ++ [g / 4]
theorem stepP_yes {F Q : List Int} {g : Int} (c : g / 4 ∈ F ++ Q) : stepP F Q (some g) = Q := if_pos c
theorem stepP_no {F Q : List Int} {g : Int} (c : g / 4 ∉ F ++ Q) : stepP F Q (some g) = Q ++ [g / 4] := if_neg c
theorem stepP_mono (F Q : List Int) (o : Option Int) : ∀ x ∈ Q, x ∈ stepP F Q o := fun x hx => by
  cases o with
  | none => exact hx
  | some g =>
    by_cases c : g / 4 ∈ F ++ Q
    · rw [stepP_yes c]; exact hx
    · rw [stepP_no c]; exact List.mem_append_left _ hx
theorem stepP_has (F Q : List Int) (g : Int) : g / 4 ∈ F ++ stepP F Q (some g) := by
  by_cases c : g / 4 ∈ F ++ Q
  · rw [stepP_yes c]; exact c
  · rw [stepP_no c]; exact List.mem_append_right _ (List.mem_append_right _ (List.mem_singleton.mpr rfl))
theorem stepP_inv (F Q : List Int) (o : Option Int) : ∀ x ∈ stepP F Q o, x ∈ Q ∨ ∃ g, o = some g ∧ x = g / 4 := fun x hx => by
  cases o with
  | none => exact .inl hx
  | some g =>
    by_cases c : g / 4 ∈ F ++ Q
    · rw [stepP_yes c] at hx; exact .inl hx
    · rw [stepP_no c] at hx
      rcases List.mem_append.mp hx with q | q
      · exact .inl q
      · exact .inr ⟨g, rfl, List.mem_singleton.mp q⟩
theorem stepP_nd {F Q : List Int} (nd : (F ++ Q).Nodup) (o : Option Int) : (F ++ stepP F Q o).Nodup := by
  cases o with
  | none => exact nd
  | some g =>
    by_cases h : g / 4 ∈ F ++ Q
    · rw [stepP_yes h]; exact nd
    · rw [stepP_no h, ← List.append_assoc]
      exact List.nodup_append.mpr ⟨nd, List.pairwise_singleton .., fun a ha b hb e => h (by rw [List.mem_singleton.mp hb] at e; rw [← e]; exact ha)⟩
/-- the queue, its first so many looked at -/
structure BfsI (n : Nat) (X : Int → Option Int) (first : Int) (F Q : List Int) (k : Nat) : Prop where
  nd : (F ++ Q).Nodup
  inr : ∀ q ∈ Q, 0 ≤ q ∧ q < (n : Int)
  rch : ∀ q ∈ Q, ReachP X first q
  hd : Q[0]? = some first
  kl : k ≤ Q.length
  done : ∀ i q, i < k → Q[i]? = some q → ∀ r, adjP X q r → r ∈ F ++ Q
def fourP (X : Int → Option Int) (p : Int) : List (Option Int) := [X (4 * p + 0), X (4 * p + 1), X (4 * p + 2), X (4 * p + 3)]
theorem fold_mono (F : List Int) : ∀ (os : List (Option Int)) (Q : List Int), ∀ x ∈ Q, x ∈ os.foldl (stepP F) Q
  | [], Q, x, h => h
  | o :: os, Q, x, h => fold_mono F os _ x (stepP_mono F Q o x h)
theorem fold_pre (F : List Int) : ∀ (os : List (Option Int)) (Q : List Int), ∃ E, os.foldl (stepP F) Q = Q ++ E
  | [], Q => ⟨[], by rw [List.append_nil]; rfl⟩
  | o :: os, Q => by
    obtain ⟨E, e⟩ := fold_pre F os (stepP F Q o)
    have h : ∃ E1, stepP F Q o = Q ++ E1 := by
      cases o with
      | none => exact ⟨[], by rw [List.append_nil]; rfl⟩
      | some g =>
        by_cases c : g / 4 ∈ F ++ Q
        · exact ⟨[], by rw [stepP_yes c, List.append_nil]⟩
        · exact ⟨_, stepP_no c⟩
    obtain ⟨E1, e1⟩ := h
    exact ⟨E1 ++ E, by rw [List.foldl_cons, e, e1, List.append_assoc]⟩
theorem fold_has (F : List Int) : ∀ (os : List (Option Int)) (Q : List Int) (g : Int), some g ∈ os → g / 4 ∈ F ++ os.foldl (stepP F) Q
  | o :: os, Q, g, h => by
    rcases List.mem_cons.mp h with e | h
    · rw [← e, List.foldl_cons]
      rcases List.mem_append.mp (stepP_has F Q g) with q | q
      · exact List.mem_append_left _ q
      · exact List.mem_append_right _ (fold_mono F os _ _ q)
    · exact fold_has F os _ g h
theorem fold_nd (F : List Int) : ∀ (os : List (Option Int)) (Q : List Int), (F ++ Q).Nodup → (F ++ os.foldl (stepP F) Q).Nodup
  | [], Q, h => h
  | o :: os, Q, h => fold_nd F os _ (stepP_nd h o)
theorem fold_inv (F : List Int) : ∀ (os : List (Option Int)) (Q : List Int), ∀ x ∈ os.foldl (stepP F) Q, x ∈ Q ∨ ∃ g, some g ∈ os ∧ x = g / 4
  | [], Q, x, h => .inl h
  | o :: os, Q, x, h => by
    rcases fold_inv F os (stepP F Q o) x h with q | ⟨g, hg, e⟩
    · rcases stepP_inv F Q o x q with q | ⟨g, e1, e2⟩
      · exact .inl q
      · exact .inr ⟨g, by rw [e1]; exact List.mem_cons_self .., e2⟩
    · exact .inr ⟨g, List.mem_cons_of_mem _ hg, e⟩
theorem four_mem {X : Int → Option Int} {p g : Int} : some g ∈ fourP X p ↔ ∃ r : Int, (0 ≤ r ∧ r < 4) ∧ X (4 * p + r) = some g := by
  unfold fourP
  simp only [List.mem_cons, List.not_mem_nil, or_false]
  constructor
  · rintro (e | e | e | e)
    · exact ⟨0, by decide, e.symm⟩
    · exact ⟨1, by decide, e.symm⟩
    · exact ⟨2, by decide, e.symm⟩
    · exact ⟨3, by decide, e.symm⟩
  · rintro ⟨r, hr, e⟩
    have : r = 0 ∨ r = 1 ∨ r = 2 ∨ r = 3 := by omega
    rcases this with rfl | rfl | rfl | rfl
    · exact .inl e.symm
    · exact .inr (.inl e.symm)
    · exact .inr (.inr (.inl e.symm))
    · exact .inr (.inr (.inr e.symm))
theorem BfsI.next {n : Nat} {X : Int → Option Int} {T : Int → Int} (N : Net (4 * n) X T) {first : Int} {F Q : List Int} {k : Nat} {p : Int} (I : BfsI n X first F Q k) (hk : Q[k]? = some p) : BfsI n X first F ((fourP X p).foldl (stepP F) Q) (k + 1) := by
  have hp := List.mem_of_getElem? hk
  have lk := (List.getElem?_eq_some_iff.mp hk).1
  obtain ⟨E, e⟩ := fold_pre F (fourP X p) Q
  have inv : ∀ x ∈ (fourP X p).foldl (stepP F) Q, x ∈ Q ∨ adjP X p x := fun x hx => by
    rcases fold_inv F _ Q x hx with q | ⟨g, hg, e⟩
    · exact .inl q
    · obtain ⟨r, hr, e2⟩ := four_mem.mp hg
      exact .inr ⟨r, g, hr, e2, e.symm⟩
  refine ⟨fold_nd F _ Q I.nd, fun q hq => ?_, fun q hq => ?_, ?_, ?_, fun i q hi hq r hr => ?_⟩
  · rcases inv q hq with h | h
    · exact I.inr q h
    · exact adjP_in N (I.inr p hp) h
  · rcases inv q hq with h | h
    · exact I.rch q h
    · exact .step (I.rch p hp) h
  · rw [e, List.getElem?_append_left (by omega)]
    exact I.hd
  · rw [e, List.length_append]
    omega
  · have iq : Q[i]? = some q := by
      rw [e, List.getElem?_append_left (by omega)] at hq
      exact hq
    by_cases c : i < k
    · rcases List.mem_append.mp (I.done i q c iq r hr) with h | h
      · exact List.mem_append_left _ h
      · exact List.mem_append_right _ (fold_mono F _ Q r h)
    · have : i = k := by omega
      subst this
      rw [hk] at iq
      cases iq
      obtain ⟨t, g, ht, hx, e3⟩ := hr
      rw [← e3]
      exact fold_has F _ Q g (four_mem.mpr ⟨t, ht, hx⟩)
theorem BfsI.start {n : Nat} {X : Int → Option Int} {first : Int} {F : List Int} (h0 : 0 ≤ first ∧ first < (n : Int)) (hf : first ∉ F) (nd : F.Nodup) : BfsI n X first F [first] 0 where
  nd := List.nodup_append.mpr ⟨nd, List.pairwise_singleton .., fun a ha b hb e => hf (by rw [List.mem_singleton.mp hb] at e; rw [← e]; exact ha)⟩
  inr := fun q hq => by rw [List.mem_singleton.mp hq]; exact h0
  rch := fun q hq => by rw [List.mem_singleton.mp hq]; exact .refl
  hd := rfl
  kl := Nat.zero_le _
  done := fun i q hi => by omega
/-- the whole queue, by so much fuel -/
def bfs (X : Int → Option Int) (F : List Int) : Nat → Nat → List Int → List Int
  | 0, _, Q => Q
  | f + 1, k, Q => match Q[k]? with
    | none => Q
    | some p => bfs X F f (k + 1) ((fourP X p).foldl (stepP F) Q)
theorem bfs_ok {n : Nat} {X : Int → Option Int} {T : Int → Int} (N : Net (4 * n) X T) {first : Int} {F : List Int} : ∀ (f k : Nat) (Q : List Int), BfsI n X first F Q k → n < f + k → BfsI n X first F (bfs X F f k Q) (bfs X F f k Q).length
  | 0, k, Q, I, h => by
    have l1 := in_len n Q (List.nodup_append.mp I.nd).2.1 I.inr
    have := I.kl
    omega
  | f + 1, k, Q, I, h => by
    unfold bfs
    cases hk : Q[k]? with
    | none =>
      have : k = Q.length := by
        have := List.getElem?_eq_none_iff.mp hk
        have := I.kl
        omega
      rw [← this]
      exact I
    | some p => exact bfs_ok N f (k + 1) _ (I.next N hk) (by omega)
/-- a part: what can be reached -/
theorem part_ok {n : Nat} {X : Int → Option Int} {T : Int → Int} (N : Net (4 * n) X T) {first : Int} {F Q : List Int} (I : BfsI n X first F Q Q.length) (cl : ∀ p ∈ F, (0 ≤ p ∧ p < (n : Int)) ∧ ∀ q, adjP X p q → q ∈ F) : (∀ p ∈ Q, ∀ q, adjP X p q → q ∈ Q) ∧ ∀ q, ReachP X first q → q ∈ Q := by
  have c1 : ∀ p ∈ Q, ∀ q, adjP X p q → q ∈ Q := fun p hp q hq => by
    obtain ⟨i, hi⟩ := List.mem_iff_getElem?.mp hp
    rcases List.mem_append.mp (I.done i p (List.getElem?_eq_some_iff.mp hi).1 hi q hq) with h | h
    · have := (cl q h).2 p (adjP_sym N (I.inr p hp) hq)
      exact absurd rfl ((List.nodup_append.mp I.nd).2.2 p this p hp)
    · exact h
  refine ⟨c1, fun q hq => ?_⟩
  induction hq with
  | refl => exact List.mem_of_getElem? I.hd
  | step _ a ih => exact c1 _ ih _ a
end Lw

set_option Elab.async false
set_option linter.all false
set_option maxRecDepth 100000
set_option maxHeartbeats 4000000
namespace Lw
open PySem PySem.Spec PyProof.Rows L2 Tw
theorem metL_congr {n : Nat} {F G : List Int} (h : ∀ x : Int, 0 ≤ x ∧ x < (n : Int) → (x ∈ F ↔ x ∈ G)) : metL n F = metL n G := by
  unfold metL
  refine List.map_congr_left fun i hi => ?_
  have := List.mem_range.mp hi
  rw [show decide ((i : Int) ∈ F) = decide ((i : Int) ∈ G) from decide_eq_decide.mpr (h i (by omega))]
section
variable {m : Nat} {V : List (Int × Option Int)} {B : List PyData}
theorem XB_get (W : whole (4 * m) V) (t : Tab (4 * m) V B) {h : Int} (h0 : 0 ≤ h ∧ h < ((4 * m : Nat) : Int)) : B[h.toNat]? = some (xD (XB B h)) := by
  rcases XB_way W t h0 with ⟨e, _⟩ | ⟨g, e, _⟩
  · have : XB B h = none := by unfold XB; rw [e]
    rw [this, e]
    rfl
  · have : XB B h = some g := by unfold XB; rw [e]
    rw [this, e]
    rfl
theorem four_cut (W : whole (4 * m) V) (t : Tab (4 * m) V B) {p : Nat} (hp : p < m) : slD (.list B) (some ((4 * p : Nat) : Int)) (some ((4 * p + 4 : Nat) : Int)) = some (.list ((fourP (XB B) (p : Int)).map xD)) := by
  show some (PyData.list (Tw.cutD B (some ((4 * p : Nat) : Int)) (some ((4 * p + 4 : Nat) : Int)))) = _
  have lb := t.len
  have e : Tw.cutD B (some ((4 * p : Nat) : Int)) (some ((4 * p + 4 : Nat) : Int)) = (B.drop (4 * p)).take 4 := by
    unfold Tw.cutD
    rw [HT.sIx_nat, HT.sIx_nat, lb, Nat.min_eq_left (by omega), Nat.min_eq_left (by omega), show 4 * p + 4 - 4 * p = 4 by omega]
  have g : ∀ r : Nat, r < 4 → B[4 * p + r]? = some (xD (XB B (4 * (p : Int) + (r : Int)))) := fun r hr => by
    have := XB_get W t (h := 4 * (p : Int) + (r : Int)) (by omega)
    rw [show (4 * (p : Int) + (r : Int)).toNat = 4 * p + r by omega] at this
    exact this
  rw [e]
  congr 2
  refine List.ext_getElem? fun j => ?_
  rw [List.getElem?_take]
  by_cases hj : j < 4
  · rw [if_pos hj, List.getElem?_drop, g j hj]
    have : j = 0 ∨ j = 1 ∨ j = 2 ∨ j = 3 := by omega
    rcases this with rfl | rfl | rfl | rfl <;> rfl
  · rw [if_neg hj, List.getElem?_eq_none (by show 4 ≤ j; omega)]
theorem pf_turn (s0 s2 s4 s5 : Sl) {F Q : List Int} (hQ : Q.length < 90000) (o : Option Int) (ho : ∀ g, o = some g → 0 ≤ g ∧ g < ((4 * m : Nat) : Int)) :
    b1_posts_from [s0, .m (metL m (F ++ Q)), s2, .m (intsD Q), s4, s5, .d (xD o)] = some (.nx [s0, .m (metL m (F ++ stepP F Q o)), s2, .m (intsD (stepP F Q o)), s4, s5, .d (xD o)]) := by
  cases o with
  | none =>
    have q : notNoneD .none .none = some (.bool false) := rfl
    show b1_posts_from [s0, .m (metL m (F ++ Q)), s2, .m (intsD Q), s4, s5, .d .none] = some (.nx [s0, .m (metL m (F ++ Q)), s2, .m (intsD Q), s4, s5, .d .none])
    unfold b1_posts_from
    simp -implicitDefEqProofs only [eq_self, r_thn, r_tk, r_tk0, r_ret, r_lift, r_lift0, r_var, r_vk, r_bin, r_un, r_nil, r_cons, r_tup, r_of, r_call, r_tst, r_kt, r_ikT, r_ikF, r_ite, r_if, r_ife, r_and, r_or, r_not, r_vand, r_vor, r_vnot, r_chain, r_hkT, r_hkF, r_part, r_ok, r_sl, r_seq, r_skN, r_skR, r_skF, r_skB, r_skC, r_next, r_retS, r_rk, r_retF, r_rfk, r_drop, r_dk, r_asg, r_gk, r_gk2, gNm, r_tp, r_gs, r_qk, r_gs0, r_froz, r_frk, r_cmk, r_setI, r_stk, r_stk2, r_sti, r_pl, r_stj, r_aug, r_aug1, r_aug2, r_aug3, r_opN, r_par, r_prk, r_callN, r_tupRg, and_self, ixN0, ixN1, ixN2, r_peek, r_pk, r_pkI, r_pkB, r_pkS, r_pkN, r_tpeek, r_bk1, r_bk2, r_frz, r_fzk, r_own, owk, r_frkK, r_ownK, r_ixEd, r_ixEt, r_ixEl, r_inK, r_ninK, r_mk4, r_mk3, r_met, r_mk2, r_callM, r_mk2b, r_callM1, r_lenIs, r_callF, r_mat, r_mtk, r_mEnd, r_mCase, r_for, r_lk, r_items, r_itL, r_itT, r_rng, r_enum, r_zipM, zipM_ok, r_star, starL_ok, starT_ok, enumL_ok, enumT_ok, for_nil, r_lc, r_lck2, lc_nil, r_outM, r_outMn, r_outM1, r_outM1n, r_outD, r_outDf, r_outDn, r_outF, ixL0, ixL1, ixL2, ixT0, ixT1, ixT2, addI_ok, subI_ok, gtI_ok, geI_ok, leI_ok, ltI_ok, lenL_ok, lenT_ok, abs_ok, intB_ok, List.getElem?_cons_zero, List.getElem?_cons_succ, List.length_cons, List.length_nil, List.set_cons_zero, List.set_cons_succ, List.map_cons, List.map_nil, List.cons_append, List.nil_append, List.replicate_succ, List.replicate_zero, Nat.reduceAdd, Nat.reduceSub, Nat.reduceLT, Nat.reduceEqDiff, Option.bind_some, Option.bind_none, Option.map_some, Option.map_none, if_true, if_false, ite_true, ite_false, ↓reduceIte, Bool.not_true, Bool.not_false, q]
  | some g =>
    have g0 := ho g rfl
    obtain ⟨p, hp⟩ : ∃ p : Nat, g / 4 = (p : Int) := ⟨(g / 4).toNat, by omega⟩
    have pm : p < m := by omega
    have fd : fdivD (.int g) (.int 4) = some (.int (p : Int)) := by
      rw [fdiv_ok (i := g) (j := 4) 3 (by decide) (by decide) (by decide) (by decide), hp]
    have q : notNoneD (.int g) .none = some (.bool true) := rfl
    have ix : ixD (.list (metL m (F ++ Q))) (.int (p : Int)) = some (.bool (decide ((p : Int) ∈ F ++ Q))) := ixLn (metL_get pm)
    show b1_posts_from [s0, .m (metL m (F ++ Q)), s2, .m (intsD Q), s4, s5, .d (.int g)] = some (.nx [s0, .m (metL m (F ++ stepP F Q (some g))), s2, .m (intsD (stepP F Q (some g))), s4, s5, .d (.int g)])
    unfold b1_posts_from
    by_cases c : g / 4 ∈ F ++ Q
    · rw [stepP_yes c]
      rw [hp] at c
      rw [decide_eq_true c] at ix
      simp -implicitDefEqProofs only [eq_self, r_thn, r_tk, r_tk0, r_ret, r_lift, r_lift0, r_var, r_vk, r_bin, r_un, r_nil, r_cons, r_tup, r_of, r_call, r_tst, r_kt, r_ikT, r_ikF, r_ite, r_if, r_ife, r_and, r_or, r_not, r_vand, r_vor, r_vnot, r_chain, r_hkT, r_hkF, r_part, r_ok, r_sl, r_seq, r_skN, r_skR, r_skF, r_skB, r_skC, r_next, r_retS, r_rk, r_retF, r_rfk, r_drop, r_dk, r_asg, r_gk, r_gk2, gNm, r_tp, r_gs, r_qk, r_gs0, r_froz, r_frk, r_cmk, r_setI, r_stk, r_stk2, r_sti, r_pl, r_stj, r_aug, r_aug1, r_aug2, r_aug3, r_opN, r_par, r_prk, r_callN, r_tupRg, and_self, ixN0, ixN1, ixN2, r_peek, r_pk, r_pkI, r_pkB, r_pkS, r_pkN, r_tpeek, r_bk1, r_bk2, r_frz, r_fzk, r_own, owk, r_frkK, r_ownK, r_ixEd, r_ixEt, r_ixEl, r_inK, r_ninK, r_mk4, r_mk3, r_met, r_mk2, r_callM, r_mk2b, r_callM1, r_lenIs, r_callF, r_mat, r_mtk, r_mEnd, r_mCase, r_for, r_lk, r_items, r_itL, r_itT, r_rng, r_enum, r_zipM, zipM_ok, r_star, starL_ok, starT_ok, enumL_ok, enumT_ok, for_nil, r_lc, r_lck2, lc_nil, r_outM, r_outMn, r_outM1, r_outM1n, r_outD, r_outDf, r_outDn, r_outF, ixL0, ixL1, ixL2, ixT0, ixT1, ixT2, addI_ok, subI_ok, gtI_ok, geI_ok, leI_ok, ltI_ok, lenL_ok, lenT_ok, abs_ok, intB_ok, List.getElem?_cons_zero, List.getElem?_cons_succ, List.length_cons, List.length_nil, List.set_cons_zero, List.set_cons_succ, List.map_cons, List.map_nil, List.cons_append, List.nil_append, List.replicate_succ, List.replicate_zero, Nat.reduceAdd, Nat.reduceSub, Nat.reduceLT, Nat.reduceEqDiff, Option.bind_some, Option.bind_none, Option.map_some, Option.map_none, if_true, if_false, ite_true, ite_false, ↓reduceIte, Bool.not_true, Bool.not_false, q, fd, ix]
    · rw [stepP_no c]
      rw [hp] at c ⊢
      rw [decide_eq_false c] at ix
      have pl : plI (metL m (F ++ Q)).length (.int (p : Int)) = some p := Evl.ixN_nat (by rw [metL_len]; exact pm)
      have ap : appG (intsD Q) [.int (p : Int)] = some (.none, intsD (Q ++ [(p : Int)])) := by
        rw [app_ok (by rw [intsD_len]; omega)]
        unfold intsD
        rw [List.map_append]
        rfl
      rw [← List.append_assoc, ← metL_set pm]
      simp -implicitDefEqProofs only [eq_self, r_thn, r_tk, r_tk0, r_ret, r_lift, r_lift0, r_var, r_vk, r_bin, r_un, r_nil, r_cons, r_tup, r_of, r_call, r_tst, r_kt, r_ikT, r_ikF, r_ite, r_if, r_ife, r_and, r_or, r_not, r_vand, r_vor, r_vnot, r_chain, r_hkT, r_hkF, r_part, r_ok, r_sl, r_seq, r_skN, r_skR, r_skF, r_skB, r_skC, r_next, r_retS, r_rk, r_retF, r_rfk, r_drop, r_dk, r_asg, r_gk, r_gk2, gNm, r_tp, r_gs, r_qk, r_gs0, r_froz, r_frk, r_cmk, r_setI, r_stk, r_stk2, r_sti, r_pl, r_stj, r_aug, r_aug1, r_aug2, r_aug3, r_opN, r_par, r_prk, r_callN, r_tupRg, and_self, ixN0, ixN1, ixN2, r_peek, r_pk, r_pkI, r_pkB, r_pkS, r_pkN, r_tpeek, r_bk1, r_bk2, r_frz, r_fzk, r_own, owk, r_frkK, r_ownK, r_ixEd, r_ixEt, r_ixEl, r_inK, r_ninK, r_mk4, r_mk3, r_met, r_mk2, r_callM, r_mk2b, r_callM1, r_lenIs, r_callF, r_mat, r_mtk, r_mEnd, r_mCase, r_for, r_lk, r_items, r_itL, r_itT, r_rng, r_enum, r_zipM, zipM_ok, r_star, starL_ok, starT_ok, enumL_ok, enumT_ok, for_nil, r_lc, r_lck2, lc_nil, r_outM, r_outMn, r_outM1, r_outM1n, r_outD, r_outDf, r_outDn, r_outF, ixL0, ixL1, ixL2, ixT0, ixT1, ixT2, addI_ok, subI_ok, gtI_ok, geI_ok, leI_ok, ltI_ok, lenL_ok, lenT_ok, abs_ok, intB_ok, List.getElem?_cons_zero, List.getElem?_cons_succ, List.length_cons, List.length_nil, List.set_cons_zero, List.set_cons_succ, List.map_cons, List.map_nil, List.cons_append, List.nil_append, List.replicate_succ, List.replicate_zero, Nat.reduceAdd, Nat.reduceSub, Nat.reduceLT, Nat.reduceEqDiff, Option.bind_some, Option.bind_none, Option.map_some, Option.map_none, if_true, if_false, ite_true, ite_false, ↓reduceIte, Bool.not_true, Bool.not_false, q, fd, ix, pl, ap]
theorem pf_row (s0 s2 s4 s5 : Sl) {F : List Int} : ∀ (os : List (Option Int)) (Q : List Int) (s6 : Sl), Q.length + os.length < 90000 → (∀ g, some g ∈ os → 0 ≤ g ∧ g < ((4 * m : Nat) : Int)) →
    ∃ s6', forF (gNm 6) b1_posts_from (os.map xD) [s0, .m (metL m (F ++ Q)), s2, .m (intsD Q), s4, s5, s6] = some (.nx [s0, .m (metL m (F ++ os.foldl (stepP F) Q)), s2, .m (intsD (os.foldl (stepP F) Q)), s4, s5, s6'])
  | [], Q, s6, _, _ => ⟨s6, rfl⟩
  | o :: os, Q, s6, hl, ho => by
    rw [List.length_cons] at hl
    have hg : gNm 6 (xD o) [s0, .m (metL m (F ++ Q)), s2, .m (intsD Q), s4, s5, s6] = some [s0, .m (metL m (F ++ Q)), s2, .m (intsD Q), s4, s5, .d (xD o)] := rfl
    have e1 := pf_turn s0 s2 s4 s5 (F := F) (Q := Q) (by omega) o (fun g e => ho g (by rw [← e]; exact List.mem_cons_self ..))
    have ln : (stepP F Q o).length ≤ Q.length + 1 := by
      cases o with
      | none => exact Nat.le_succ _
      | some g =>
        by_cases c : g / 4 ∈ F ++ Q
        · rw [stepP_yes c]; omega
        · rw [stepP_no c, List.length_append, List.length_singleton]; exact Nat.le_refl _
    obtain ⟨a, e2⟩ := pf_row s0 s2 s4 s5 (F := F) os (stepP F Q o) (.d (xD o)) (by omega) fun g hg' => ho g (List.mem_cons_of_mem _ hg')
    exact ⟨a, by rw [List.map_cons, for_nx hg e1, e2, List.foldl_cons]⟩
abbrev pfT : FE Bool := fTst (fBin ltD (fVar 4) (fPeek 3 (fCall lenD (fCons (fVar 3) fNil))))
theorem pf_loop (W : whole (4 * m) V) (t : Tab (4 * m) V B) (hm : m ≤ 60) {T : Int → Int} (N : Net (4 * m) (XB B) T) {first : Int} {F : List Int} (s2 : Sl) : ∀ (f k : Nat) (Q : List Int) (s5 s6 : Sl), BfsI m (XB B) first F Q k → m < f + k →
    ∃ k' s5' s6', whF pfT b2_posts_from f [.d (.list B), .m (metL m (F ++ Q)), s2, .m (intsD Q), .d (.int (k : Int)), s5, s6] =
      some (.nx [.d (.list B), .m (metL m (F ++ bfs (XB B) F f k Q)), s2, .m (intsD (bfs (XB B) F f k Q)), k', s5', s6'])
  | 0, k, Q, s5, s6, I, h => by
    have l1 := in_len m Q (List.nodup_append.mp I.nd).2.1 I.inr
    have := I.kl
    omega
  | f + 1, k, Q, s5, s6, I, h => by
    have l1 := in_len m Q (List.nodup_append.mp I.nd).2.1 I.inr
    have ln : lenD [.list (intsD Q)] = some (.int (Q.length : Int)) := by
      show some (PyData.int (((intsD Q).length : Nat) : Int)) = _
      rw [intsD_len]
    have lt : ltD (.int (k : Int)) (.int (Q.length : Int)) = some (.bool (decide ((k : Int) < (Q.length : Int)))) := rfl
    unfold bfs
    cases hk : Q[k]? with
    | none =>
      have : ¬ k < Q.length := fun c => by rw [List.getElem?_eq_getElem c] at hk; cases hk
      rw [decide_eq_false (by omega)] at lt
      have e : pfT [.d (.list B), .m (metL m (F ++ Q)), s2, .m (intsD Q), .d (.int (k : Int)), s5, s6] = some (false, [.d (.list B), .m (metL m (F ++ Q)), s2, .m (intsD Q), .d (.int (k : Int)), s5, s6]) := by
        unfold pfT
        simp -implicitDefEqProofs only [eq_self, r_thn, r_tk, r_tk0, r_ret, r_lift, r_lift0, r_var, r_vk, r_bin, r_un, r_nil, r_cons, r_tup, r_of, r_call, r_tst, r_kt, r_ikT, r_ikF, r_ite, r_if, r_ife, r_and, r_or, r_not, r_vand, r_vor, r_vnot, r_chain, r_hkT, r_hkF, r_part, r_ok, r_sl, r_seq, r_skN, r_skR, r_skF, r_skB, r_skC, r_next, r_retS, r_rk, r_retF, r_rfk, r_drop, r_dk, r_asg, r_gk, r_gk2, gNm, r_tp, r_gs, r_qk, r_gs0, r_froz, r_frk, r_cmk, r_setI, r_stk, r_stk2, r_sti, r_pl, r_stj, r_aug, r_aug1, r_aug2, r_aug3, r_opN, r_par, r_prk, r_callN, r_tupRg, and_self, ixN0, ixN1, ixN2, r_peek, r_pk, r_pkI, r_pkB, r_pkS, r_pkN, r_tpeek, r_bk1, r_bk2, r_frz, r_fzk, r_own, owk, r_frkK, r_ownK, r_ixEd, r_ixEt, r_ixEl, r_inK, r_ninK, r_mk4, r_mk3, r_met, r_mk2, r_callM, r_mk2b, r_callM1, r_lenIs, r_callF, r_mat, r_mtk, r_mEnd, r_mCase, r_for, r_lk, r_items, r_itL, r_itT, r_rng, r_enum, r_zipM, zipM_ok, r_star, starL_ok, starT_ok, enumL_ok, enumT_ok, for_nil, r_lc, r_lck2, lc_nil, r_outM, r_outMn, r_outM1, r_outM1n, r_outD, r_outDf, r_outDn, r_outF, ixL0, ixL1, ixL2, ixT0, ixT1, ixT2, addI_ok, subI_ok, gtI_ok, geI_ok, leI_ok, ltI_ok, lenL_ok, lenT_ok, abs_ok, intB_ok, List.getElem?_cons_zero, List.getElem?_cons_succ, List.length_cons, List.length_nil, List.set_cons_zero, List.set_cons_succ, List.map_cons, List.map_nil, List.cons_append, List.nil_append, List.replicate_succ, List.replicate_zero, Nat.reduceAdd, Nat.reduceSub, Nat.reduceLT, Nat.reduceEqDiff, Option.bind_some, Option.bind_none, Option.map_some, Option.map_none, if_true, if_false, ite_true, ite_false, ↓reduceIte, Bool.not_true, Bool.not_false, ln, lt]
      exact ⟨_, _, _, wh_stop e⟩
    | some p =>
      have lk := (List.getElem?_eq_some_iff.mp hk).1
      rw [decide_eq_true (by omega)] at lt
      have e : pfT [.d (.list B), .m (metL m (F ++ Q)), s2, .m (intsD Q), .d (.int (k : Int)), s5, s6] = some (true, [.d (.list B), .m (metL m (F ++ Q)), s2, .m (intsD Q), .d (.int (k : Int)), s5, s6]) := by
        unfold pfT
        simp -implicitDefEqProofs only [eq_self, r_thn, r_tk, r_tk0, r_ret, r_lift, r_lift0, r_var, r_vk, r_bin, r_un, r_nil, r_cons, r_tup, r_of, r_call, r_tst, r_kt, r_ikT, r_ikF, r_ite, r_if, r_ife, r_and, r_or, r_not, r_vand, r_vor, r_vnot, r_chain, r_hkT, r_hkF, r_part, r_ok, r_sl, r_seq, r_skN, r_skR, r_skF, r_skB, r_skC, r_next, r_retS, r_rk, r_retF, r_rfk, r_drop, r_dk, r_asg, r_gk, r_gk2, gNm, r_tp, r_gs, r_qk, r_gs0, r_froz, r_frk, r_cmk, r_setI, r_stk, r_stk2, r_sti, r_pl, r_stj, r_aug, r_aug1, r_aug2, r_aug3, r_opN, r_par, r_prk, r_callN, r_tupRg, and_self, ixN0, ixN1, ixN2, r_peek, r_pk, r_pkI, r_pkB, r_pkS, r_pkN, r_tpeek, r_bk1, r_bk2, r_frz, r_fzk, r_own, owk, r_frkK, r_ownK, r_ixEd, r_ixEt, r_ixEl, r_inK, r_ninK, r_mk4, r_mk3, r_met, r_mk2, r_callM, r_mk2b, r_callM1, r_lenIs, r_callF, r_mat, r_mtk, r_mEnd, r_mCase, r_for, r_lk, r_items, r_itL, r_itT, r_rng, r_enum, r_zipM, zipM_ok, r_star, starL_ok, starT_ok, enumL_ok, enumT_ok, for_nil, r_lc, r_lck2, lc_nil, r_outM, r_outMn, r_outM1, r_outM1n, r_outD, r_outDf, r_outDn, r_outF, ixL0, ixL1, ixL2, ixT0, ixT1, ixT2, addI_ok, subI_ok, gtI_ok, geI_ok, leI_ok, ltI_ok, lenL_ok, lenT_ok, abs_ok, intB_ok, List.getElem?_cons_zero, List.getElem?_cons_succ, List.length_cons, List.length_nil, List.set_cons_zero, List.set_cons_succ, List.map_cons, List.map_nil, List.cons_append, List.nil_append, List.replicate_succ, List.replicate_zero, Nat.reduceAdd, Nat.reduceSub, Nat.reduceLT, Nat.reduceEqDiff, Option.bind_some, Option.bind_none, Option.map_some, Option.map_none, if_true, if_false, ite_true, ite_false, ↓reduceIte, Bool.not_true, Bool.not_false, ln, lt]
      have p0 := I.inr p (List.mem_of_getElem? hk)
      obtain ⟨j, rfl⟩ : ∃ j : Nat, p = (j : Int) := ⟨p.toNat, by omega⟩
      have jm : j < m := by omega
      have ix : ixD (.list (intsD Q)) (.int (k : Int)) = some (.int (j : Int)) := ixLn (by unfold intsD; rw [List.getElem?_map, hk]; rfl)
      have m4 : mulI (.int 4) (.int (j : Int)) = some (.int ((4 * j : Nat) : Int)) := by
        rw [mul_ok 3 7 (by decide) (by decide) (by decide) (by decide) (by omega) (by omega) (by decide)]
        congr 2
      have ea : (((4 * j : Nat) : Int) + 4) = ((4 * j + 4 : Nat) : Int) := by omega
      have sl := four_cut W t jm
      obtain ⟨s6', e1⟩ := pf_row (m := m) (.d (.list B)) s2 (.d (.int (k : Int))) (.d (.int ((4 * j : Nat) : Int))) (F := F) (fourP (XB B) (j : Int)) Q s6 (by show Q.length + 4 < 90000; omega) (fun g hg => by
        obtain ⟨r, hr, hx⟩ := four_mem.mp hg
        exact N.xin _ _ (by omega) hx)
      have e2 : b2_posts_from [.d (.list B), .m (metL m (F ++ Q)), s2, .m (intsD Q), .d (.int (k : Int)), s5, s6] = some (.nx [.d (.list B), .m (metL m (F ++ (fourP (XB B) (j : Int)).foldl (stepP F) Q)), s2, .m (intsD ((fourP (XB B) (j : Int)).foldl (stepP F) Q)), .d (.int ((k + 1 : Nat) : Int)), .d (.int ((4 * j : Nat) : Int)), s6']) := by
        unfold b2_posts_from
        simp -implicitDefEqProofs only [eq_self, r_thn, r_tk, r_tk0, r_ret, r_lift, r_lift0, r_var, r_vk, r_bin, r_un, r_nil, r_cons, r_tup, r_of, r_call, r_tst, r_kt, r_ikT, r_ikF, r_ite, r_if, r_ife, r_and, r_or, r_not, r_vand, r_vor, r_vnot, r_chain, r_hkT, r_hkF, r_part, r_ok, r_sl, r_seq, r_skN, r_skR, r_skF, r_skB, r_skC, r_next, r_retS, r_rk, r_retF, r_rfk, r_drop, r_dk, r_asg, r_gk, r_gk2, gNm, r_tp, r_gs, r_qk, r_gs0, r_froz, r_frk, r_cmk, r_setI, r_stk, r_stk2, r_sti, r_pl, r_stj, r_aug, r_aug1, r_aug2, r_aug3, r_opN, r_par, r_prk, r_callN, r_tupRg, and_self, ixN0, ixN1, ixN2, r_peek, r_pk, r_pkI, r_pkB, r_pkS, r_pkN, r_tpeek, r_bk1, r_bk2, r_frz, r_fzk, r_own, owk, r_frkK, r_ownK, r_ixEd, r_ixEt, r_ixEl, r_inK, r_ninK, r_mk4, r_mk3, r_met, r_mk2, r_callM, r_mk2b, r_callM1, r_lenIs, r_callF, r_mat, r_mtk, r_mEnd, r_mCase, r_for, r_lk, r_items, r_itL, r_itT, r_rng, r_enum, r_zipM, zipM_ok, r_star, starL_ok, starT_ok, enumL_ok, enumT_ok, for_nil, r_lc, r_lck2, lc_nil, r_outM, r_outMn, r_outM1, r_outM1n, r_outD, r_outDf, r_outDn, r_outF, ixL0, ixL1, ixL2, ixT0, ixT1, ixT2, addI_ok, subI_ok, gtI_ok, geI_ok, leI_ok, ltI_ok, lenL_ok, lenT_ok, abs_ok, intB_ok, List.getElem?_cons_zero, List.getElem?_cons_succ, List.length_cons, List.length_nil, List.set_cons_zero, List.set_cons_succ, List.map_cons, List.map_nil, List.cons_append, List.nil_append, List.replicate_succ, List.replicate_zero, Nat.reduceAdd, Nat.reduceSub, Nat.reduceLT, Nat.reduceEqDiff, Option.bind_some, Option.bind_none, Option.map_some, Option.map_none, if_true, if_false, ite_true, ite_false, ↓reduceIte, Bool.not_true, Bool.not_false, ix, m4, ea, sl, e1]
        rfl
      obtain ⟨a, b, c, e3⟩ := pf_loop W t hm N s2 f (k + 1) _ (.d (.int ((4 * j : Nat) : Int))) s6' (I.next N hk) (by omega)
      exact ⟨a, b, c, by rw [wh_step e e2, e3]⟩
theorem posts_from_ok (W : whole (4 * m) V) (t : Tab (4 * m) V B) (hm : m ≤ 60) {T : Int → Int} (N : Net (4 * m) (XB B) T) {p : Nat} (hp : p < m) {F : List Int} (hf : (p : Int) ∉ F) (nd : F.Nodup) :
    g_posts_from (metL m F) [.list B, .int (p : Int)] = some (.list (intsD (bfs (XB B) F 1000 0 [(p : Int)])), metL m (F ++ bfs (XB B) F 1000 0 [(p : Int)])) := by
  have I := BfsI.start (X := XB B) (n := m) (first := (p : Int)) (F := F) (by omega) hf nd
  obtain ⟨a, b, c, e⟩ := pf_loop W t hm N (.d (.int (p : Int))) 1000 0 [(p : Int)] .un .un I (by omega)
  have pl : plI (metL m F).length (.int (p : Int)) = some p := Evl.ixN_nat (by rw [metL_len]; exact hp)
  have s1 : Tw.sizeOk 1 = true := rfl
  have z : ((0 : Nat) : Int) = 0 := rfl
  rw [z, ← metL_set hp] at e
  have ei : intsD [(p : Int)] = [PyData.int (p : Int)] := rfl
  rw [ei] at e
  unfold g_posts_from runM1 f_posts_from
  simp -implicitDefEqProofs only [eq_self, r_thn, r_tk, r_tk0, r_ret, r_lift, r_lift0, r_var, r_vk, r_bin, r_un, r_nil, r_cons, r_tup, r_of, r_call, r_tst, r_kt, r_ikT, r_ikF, r_ite, r_if, r_ife, r_and, r_or, r_not, r_vand, r_vor, r_vnot, r_chain, r_hkT, r_hkF, r_part, r_ok, r_sl, r_seq, r_skN, r_skR, r_skF, r_skB, r_skC, r_next, r_retS, r_rk, r_retF, r_rfk, r_drop, r_dk, r_asg, r_gk, r_gk2, gNm, r_tp, r_gs, r_qk, r_gs0, r_froz, r_frk, r_cmk, r_setI, r_stk, r_stk2, r_sti, r_pl, r_stj, r_aug, r_aug1, r_aug2, r_aug3, r_opN, r_par, r_prk, r_callN, r_tupRg, and_self, ixN0, ixN1, ixN2, r_peek, r_pk, r_pkI, r_pkB, r_pkS, r_pkN, r_tpeek, r_bk1, r_bk2, r_frz, r_fzk, r_own, owk, r_frkK, r_ownK, r_ixEd, r_ixEt, r_ixEl, r_inK, r_ninK, r_mk4, r_mk3, r_met, r_mk2, r_callM, r_mk2b, r_callM1, r_lenIs, r_callF, r_mat, r_mtk, r_mEnd, r_mCase, r_for, r_lk, r_items, r_itL, r_itT, r_rng, r_enum, r_zipM, zipM_ok, r_star, starL_ok, starT_ok, enumL_ok, enumT_ok, for_nil, r_lc, r_lck2, lc_nil, r_outM, r_outMn, r_outM1, r_outM1n, r_outD, r_outDf, r_outDn, r_outF, ixL0, ixL1, ixL2, ixT0, ixT1, ixT2, addI_ok, subI_ok, gtI_ok, geI_ok, leI_ok, ltI_ok, lenL_ok, lenT_ok, abs_ok, intB_ok, List.getElem?_cons_zero, List.getElem?_cons_succ, List.length_cons, List.length_nil, List.set_cons_zero, List.set_cons_succ, List.map_cons, List.map_nil, List.cons_append, List.nil_append, List.replicate_succ, List.replicate_zero, Nat.reduceAdd, Nat.reduceSub, Nat.reduceLT, Nat.reduceEqDiff, Option.bind_some, Option.bind_none, Option.map_some, Option.map_none, if_true, if_false, ite_true, ite_false, ↓reduceIte, Bool.not_true, Bool.not_false, pl, s1, e]
end
end Lw

set_option Elab.async false
set_option linter.all false
set_option maxRecDepth 100000
set_option maxHeartbeats 4000000
namespace Lw
open PySem PySem.Spec PyProof.Rows L2 Tw
/-! ### rows of whole numbers, sorted -/
theorem eq_of_rise : ∀ {A B : List Int}, A.Pairwise (· < ·) → B.Pairwise (· < ·) → (∀ x, x ∈ A ↔ x ∈ B) → A = B
  | [], [], _, _, _ => rfl
  | [], b :: B, _, _, h => nomatch (h b).mpr (List.mem_cons_self ..)
  | a :: A, [], _, _, h => nomatch (h a).mp (List.mem_cons_self ..)
  | a :: A, b :: B, pa, pb, h => by
    obtain ⟨a1, a2⟩ := List.pairwise_cons.mp pa
    obtain ⟨b1, b2⟩ := List.pairwise_cons.mp pb
    have e : a = b := by
      rcases List.mem_cons.mp ((h a).mp (List.mem_cons_self ..)) with q | q
      · exact q
      · rcases List.mem_cons.mp ((h b).mpr (List.mem_cons_self ..)) with r | r
        · exact r.symm
        · have := a1 b r
          have := b1 a q
          omega
    subst e
    rw [eq_of_rise a2 b2 fun x => ⟨fun hx => ?_, fun hx => ?_⟩]
    · rcases List.mem_cons.mp ((h x).mp (List.mem_cons_of_mem _ hx)) with rfl | q
      · have := a1 x hx
        omega
      · exact q
    · rcases List.mem_cons.mp ((h x).mpr (List.mem_cons_of_mem _ hx)) with rfl | q
      · have := b1 x hx
        omega
      · exact q
def sortI (L : List Int) : List Int := L.mergeSort fun a b => decide (a ≤ b)
theorem le_int (a b : Int) : decide (a ≤ b) = PySem.W.dataLe false id (.int a) (.int b) := by
  show _ = !PyProof.Rows.lexLt itemOrd [.inl b] [.inl a]
  show _ = !(itemLt (.inl b) (.inl a) || (!itemLt (.inl a) (.inl b) && PyProof.Rows.lexLt itemOrd [] []))
  have e1 : itemLt (.inl b) (.inl a) = decide (b < a) := rfl
  have e2 : PyProof.Rows.lexLt itemOrd [] [] = false := rfl
  rw [e1, e2, Bool.and_false, Bool.or_false]
  by_cases h : a ≤ b
  · rw [decide_eq_true h, decide_eq_false (by omega)]
    rfl
  · rw [decide_eq_false h, decide_eq_true (by omega)]
    rfl
theorem ints_sortOk (L : List Int) : sortOk (intsD L) = true := by
  unfold sortOk intsD
  rw [Bool.and_eq_true, Bool.and_eq_true, Bool.or_eq_true]
  refine ⟨⟨?_, .inr ?_⟩, ?_⟩
  · unfold allAlikeB
    refine List.all_eq_true.mpr fun d hd => List.all_eq_true.mpr fun e he => ?_
    obtain ⟨v, _, rfl⟩ := List.mem_map.mp hd
    obtain ⟨w, _, rfl⟩ := List.mem_map.mp he
    rfl
  · refine List.all_eq_true.mpr fun d hd => ?_
    obtain ⟨v, _, rfl⟩ := List.mem_map.mp hd
    rfl
  · refine List.all_eq_true.mpr fun d hd => ?_
    obtain ⟨v, _, rfl⟩ := List.mem_map.mp hd
    rfl
theorem rise_ints {L : List Int} (h : L.Pairwise (· < ·)) : sortedD [.list (intsD L)] = some (.list (intsD L)) := by
  show (if sortOk (intsD L) = true then some (PyData.list (srt (intsD L))) else none) = _
  rw [if_pos (ints_sortOk L)]
  unfold srt intsD
  rw [← List.map_mergeSort (r := fun a b => decide (a ≤ b)) (s := PySem.W.dataLe false id) (f := PyData.int) fun a _ b _ => le_int a b, List.mergeSort_of_pairwise (h.imp fun q => decide_eq_true (by omega))]
theorem cast_up {L : List Nat} (h : L.Pairwise (· < ·)) : (L.map fun h : Nat => (h : Int)).Pairwise (· < ·) := List.Pairwise.map (R := (· < ·)) (fun h : Nat => (h : Int)) (fun a b q => by omega) h
theorem sortI_ok (L : List Int) : sortedD [.list (intsD L)] = some (.list (intsD (sortI L))) := by
  show (if sortOk (intsD L) = true then some (PyData.list (srt (intsD L))) else none) = _
  rw [if_pos (ints_sortOk L)]
  unfold srt intsD sortI
  rw [← List.map_mergeSort (r := fun a b => decide (a ≤ b)) (s := PySem.W.dataLe false id) (f := PyData.int) fun a _ b _ => le_int a b]
theorem sortI_range {L : List Int} {n : Nat} (nd : L.Nodup) (h : ∀ x, x ∈ L ↔ 0 ≤ x ∧ x < (n : Int)) : sortI L = rangeI n := by
  have p : (sortI L).Perm L := List.mergeSort_perm _ _
  have s : (sortI L).Pairwise (fun a b => decide (a ≤ b) = true) := List.pairwise_mergeSort (le := fun a b : Int => decide (a ≤ b)) (fun a b c h1 h2 => decide_eq_true (by have := of_decide_eq_true h1; have := of_decide_eq_true h2; omega)) (fun a b => by
    by_cases q : a ≤ b
    · rw [decide_eq_true q, Bool.true_or]
    · rw [decide_eq_true (show b ≤ a by omega), Bool.or_true]) L
  have n1 : (sortI L).Nodup := p.nodup_iff.mpr nd
  refine eq_of_rise ?_ (cast_up List.pairwise_lt_range) fun x => ?_
  · exact (s.and n1).imp fun q => by have := of_decide_eq_true q.1; have := q.2; omega
  · rw [p.mem_iff, h, mem_rangeI]
theorem sortI_perm (L : List Int) : (sortI L).Perm L := List.mergeSort_perm _ _
theorem sortI_up {L : List Int} (nd : L.Nodup) : (sortI L).Pairwise (· < ·) := by
  have s : (sortI L).Pairwise (fun a b => decide (a ≤ b) = true) := List.pairwise_mergeSort (le := fun a b : Int => decide (a ≤ b)) (fun a b c h1 h2 => decide_eq_true (by have := of_decide_eq_true h1; have := of_decide_eq_true h2; omega)) (fun a b => by
    by_cases q : a ≤ b
    · rw [decide_eq_true q, Bool.true_or]
    · rw [decide_eq_true (show b ≤ a by omega), Bool.or_true]) L
  have n1 : (sortI L).Nodup := (sortI_perm L).nodup_iff.mpr nd
  exact (s.and n1).imp fun q => by have := of_decide_eq_true q.1; have := q.2; omega
end Lw

set_option Elab.async false
set_option linter.all false
set_option maxRecDepth 100000
set_option maxHeartbeats 4000000
namespace Lw
open PySem PySem.Spec PyProof.Rows L2 Tw
def stepPt (X : Int → Option Int) (R : List (List Int)) (first : Int) : List (List Int) := if first ∈ R.flatten then R else R ++ [sortI (bfs X R.flatten 1000 0 [first])]
structure PartsI (n : Nat) (X : Int → Option Int) (R : List (List Int)) : Prop where
  nd : R.flatten.Nodup
  inr : ∀ p ∈ R.flatten, 0 ≤ p ∧ p < (n : Int)
  up : ∀ Q ∈ R, Q.Pairwise (· < ·)
  cl : ∀ Q ∈ R, ∀ p ∈ Q, ∀ q, adjP X p q → q ∈ Q
  one : ∀ Q ∈ R, ∃ first ∈ Q, ∀ q ∈ Q, ReachP X first q
theorem PartsI.nil {n : Nat} {X : Int → Option Int} : PartsI n X [] := ⟨.nil, fun p hp => (nomatch hp), fun Q hQ => (nomatch hQ), fun Q hQ => (nomatch hQ), fun Q hQ => (nomatch hQ)⟩
section
variable {n : Nat} {X : Int → Option Int} {T : Int → Int}
theorem PartsI.closed {R : List (List Int)} (P : PartsI n X R) : ∀ p ∈ R.flatten, (0 ≤ p ∧ p < (n : Int)) ∧ ∀ q, adjP X p q → q ∈ R.flatten := fun p hp => by
  refine ⟨P.inr p hp, fun q hq => ?_⟩
  obtain ⟨Q, hQ, h⟩ := List.mem_flatten.mp hp
  exact List.mem_flatten.mpr ⟨Q, hQ, P.cl Q hQ p h q hq⟩
theorem PartsI.step (N : Net (4 * n) X T) (hn : n ≤ 900) {R : List (List Int)} (P : PartsI n X R) {first : Int} (h0 : 0 ≤ first ∧ first < (n : Int)) : PartsI n X (stepPt X R first) ∧ first ∈ (stepPt X R first).flatten ∧ ∀ p ∈ R.flatten, p ∈ (stepPt X R first).flatten := by
  by_cases c : first ∈ R.flatten
  · have e : stepPt X R first = R := if_pos c
    rw [e]
    exact ⟨P, c, fun p hp => hp⟩
  · have e : stepPt X R first = R ++ [sortI (bfs X R.flatten 1000 0 [first])] := if_neg c
    have I0 := BfsI.start (X := X) (n := n) h0 c P.nd
    have I := bfs_ok N 1000 0 [first] I0 (by omega)
    generalize eQ : bfs X R.flatten 1000 0 [first] = Q at I e
    obtain ⟨c1, c2⟩ := part_ok N I P.closed
    have sp := sortI_perm Q
    have hf : first ∈ Q := List.mem_of_getElem? I.hd
    rw [e, List.flatten_append, List.flatten_singleton]
    refine ⟨⟨?_, fun p hp => ?_, fun A hA => ?_, fun A hA p hp q hq => ?_, fun A hA => ?_⟩, List.mem_append_right _ (sp.mem_iff.mpr hf), fun p hp => List.mem_append_left _ hp⟩
    · rw [List.flatten_append, List.flatten_singleton]
      exact ((List.Perm.refl R.flatten).append sp).nodup_iff.mpr I.nd
    · rw [List.flatten_append, List.flatten_singleton] at hp
      rcases List.mem_append.mp hp with h | h
      · exact P.inr p h
      · exact I.inr p (sp.mem_iff.mp h)
    · rcases List.mem_append.mp hA with h | h
      · exact P.up A h
      · rw [List.mem_singleton.mp h]
        exact sortI_up (List.nodup_append.mp I.nd).2.1
    · rcases List.mem_append.mp hA with h | h
      · exact P.cl A h p hp q hq
      · rw [List.mem_singleton.mp h] at hp ⊢
        exact sp.mem_iff.mpr (c1 p (sp.mem_iff.mp hp) q hq)
    · rcases List.mem_append.mp hA with h | h
      · exact P.one A h
      · rw [List.mem_singleton.mp h]
        exact ⟨first, sp.mem_iff.mpr hf, fun q hq => I.rch q (sp.mem_iff.mp hq)⟩
theorem parts_fold (N : Net (4 * n) X T) (hn : n ≤ 900) : ∀ (fs : List Int) (R : List (List Int)), PartsI n X R → (∀ f ∈ fs, 0 ≤ f ∧ f < (n : Int)) → PartsI n X (fs.foldl (stepPt X) R) ∧ (∀ f ∈ fs, f ∈ (fs.foldl (stepPt X) R).flatten) ∧ ∀ p ∈ R.flatten, p ∈ (fs.foldl (stepPt X) R).flatten
  | [], R, P, _ => ⟨P, fun f hf => (nomatch hf), fun p hp => hp⟩
  | f :: fs, R, P, hf => by
    obtain ⟨P1, m1, k1⟩ := P.step N hn (hf f (List.mem_cons_self ..))
    obtain ⟨P2, m2, k2⟩ := parts_fold N hn fs (stepPt X R f) P1 fun g hg => hf g (List.mem_cons_of_mem _ hg)
    refine ⟨P2, fun g hg => ?_, fun p hp => k2 p (k1 p hp)⟩
    rcases List.mem_cons.mp hg with rfl | hg
    · exact k2 _ m1
    · exact m2 g hg
def partsR (n : Nat) (X : Int → Option Int) : List (List Int) := (rangeI n).foldl (stepPt X) []
theorem parts_all (N : Net (4 * n) X T) (hn : n ≤ 900) : PartsI n X (partsR n X) ∧ ∀ p, 0 ≤ p ∧ p < (n : Int) → p ∈ (partsR n X).flatten := by
  obtain ⟨h1, h2, _⟩ := parts_fold N hn (rangeI n) [] .nil fun f hf => mem_rangeI.mp hf
  exact ⟨h1, fun p hp => h2 p (mem_rangeI.mpr hp)⟩
theorem fold_prefix (X : Int → Option Int) : ∀ (fs : List Int) (R : List (List Int)), ∃ E, fs.foldl (stepPt X) R = R ++ E
  | [], R => ⟨[], by rw [List.append_nil]; rfl⟩
  | f :: fs, R => by
    obtain ⟨E, e⟩ := fold_prefix X fs (stepPt X R f)
    by_cases c : f ∈ R.flatten
    · exact ⟨E, by rw [List.foldl_cons, e, show stepPt X R f = R from if_pos c]⟩
    · exact ⟨_, by rw [List.foldl_cons, e, show stepPt X R f = R ++ [sortI (bfs X R.flatten 1000 0 [f])] from if_neg c, List.append_assoc]⟩
end
theorem for_brk {ft : FG} {fb : FS} {d : PyData} {ds : List PyData} {ρ ρ1 ρ2 : Rho} (h1 : ft d ρ = some ρ1) (h2 : fb ρ1 = some (.bk ρ2)) : forF ft fb (d :: ds) ρ = some (.nx ρ2) := by
  unfold forF
  rw [h1, Option.bind_some, h2]
  rfl
section
variable {m : Nat} {V : List (Int × Option Int)} {B : List PyData}
theorem parts_loop (W : whole (4 * m) V) (t : Tab (4 * m) V B) (hm : m ≤ 60) {T : Int → Int} (N : Net (4 * m) (XB B) T) (most : Nat) : ∀ (fs : List Int) (R : List (List Int)) (s4 : Sl), PartsI m (XB B) R → (∀ f ∈ fs, 0 ≤ f ∧ f < (m : Int)) → R.length ≤ most → R.length + fs.length < 1000 →
    ∃ F' s4', forF (gNm 4) b1_first_parts (intsD fs) [.d (.list B), .d (.int (most : Int)), .m (metL m R.flatten), .m (rowsD R), s4] = some (.nx [.d (.list B), .d (.int (most : Int)), .m (.l F'), .m (.l (rowsD ((fs.foldl (stepPt (XB B)) R).take most))), s4'])
  | [], R, s4, _, _, hl, _ => ⟨_, s4, by rw [List.foldl_nil, List.take_of_length_le hl]; rfl⟩
  | f :: fs, R, s4, P, hf, hl, hz => by
    rw [List.length_cons] at hz
    have f0 := hf f (List.mem_cons_self ..)
    obtain ⟨p, rfl⟩ : ∃ p : Nat, f = (p : Int) := ⟨f.toNat, by omega⟩
    have pm : p < m := by omega
    have hg : gNm 4 (.int (p : Int)) [.d (.list B), .d (.int (most : Int)), .m (metL m R.flatten), .m (rowsD R), s4] = some [.d (.list B), .d (.int (most : Int)), .m (metL m R.flatten), .m (rowsD R), .d (.int (p : Int))] := rfl
    have ln : lenD [.list (rowsD R)] = some (.int (R.length : Int)) := by
      show some (PyData.int (((rowsD R).length : Nat) : Int)) = _
      unfold rowsD
      rw [List.length_map]
    by_cases c : R.length = most
    · have q : eqD (.int (R.length : Int)) (.int (most : Int)) = some (.bool true) := by
        show some (PyData.bool ((R.length : Int) == (most : Int))) = _
        rw [c, beq_self_eq_true]
      have e1 : b1_first_parts [.d (.list B), .d (.int (most : Int)), .m (metL m R.flatten), .m (rowsD R), .d (.int (p : Int))] = some (.bk [.d (.list B), .d (.int (most : Int)), .m (metL m R.flatten), .m (rowsD R), .d (.int (p : Int))]) := by
        unfold b1_first_parts
        simp -implicitDefEqProofs only [eq_self, r_thn, r_tk, r_tk0, r_ret, r_lift, r_lift0, r_var, r_vk, r_bin, r_un, r_nil, r_cons, r_tup, r_of, r_call, r_tst, r_kt, r_ikT, r_ikF, r_ite, r_if, r_ife, r_and, r_or, r_not, r_vand, r_vor, r_vnot, r_chain, r_hkT, r_hkF, r_part, r_ok, r_sl, r_seq, r_skN, r_skR, r_skF, r_skB, r_skC, r_next, r_retS, r_rk, r_retF, r_rfk, r_drop, r_dk, r_asg, r_gk, r_gk2, gNm, r_tp, r_gs, r_qk, r_gs0, r_froz, r_frk, r_cmk, r_setI, r_stk, r_stk2, r_sti, r_pl, r_stj, r_aug, r_aug1, r_aug2, r_aug3, r_opN, r_par, r_prk, r_callN, r_tupRg, and_self, ixN0, ixN1, ixN2, r_peek, r_pk, r_pkI, r_pkB, r_pkS, r_pkN, r_tpeek, r_bk1, r_bk2, r_frz, r_fzk, r_own, owk, r_frkK, r_ownK, r_ixEd, r_ixEt, r_ixEl, r_inK, r_ninK, r_mk4, r_mk3, r_met, r_mk2, r_callM, r_mk2b, r_callM1, r_lenIs, r_callF, r_mat, r_mtk, r_mEnd, r_mCase, r_for, r_lk, r_items, r_itL, r_itT, r_rng, r_enum, r_zipM, zipM_ok, r_star, starL_ok, starT_ok, enumL_ok, enumT_ok, for_nil, r_lc, r_lck2, lc_nil, r_outM, r_outMn, r_outM1, r_outM1n, r_outD, r_outDf, r_outDn, r_outF, ixL0, ixL1, ixL2, ixT0, ixT1, ixT2, addI_ok, subI_ok, gtI_ok, geI_ok, leI_ok, ltI_ok, lenL_ok, lenT_ok, abs_ok, intB_ok, List.getElem?_cons_zero, List.getElem?_cons_succ, List.length_cons, List.length_nil, List.set_cons_zero, List.set_cons_succ, List.map_cons, List.map_nil, List.cons_append, List.nil_append, List.replicate_succ, List.replicate_zero, Nat.reduceAdd, Nat.reduceSub, Nat.reduceLT, Nat.reduceEqDiff, Option.bind_some, Option.bind_none, Option.map_some, Option.map_none, if_true, if_false, ite_true, ite_false, ↓reduceIte, Bool.not_true, Bool.not_false, ln, q]
      obtain ⟨E, e⟩ := fold_prefix (XB B) ((p : Int) :: fs) R
      refine ⟨_, _, by
        show forF _ _ (.int (p : Int) :: intsD fs) _ = _
        rw [for_brk hg e1, e, ← c, List.take_left]⟩
    · have q : eqD (.int (R.length : Int)) (.int (most : Int)) = some (.bool false) := by
        show some (PyData.bool ((R.length : Int) == (most : Int))) = _
        rw [beq_eq_false_iff_ne.mpr (by omega)]
      have ix : ixD (.list (metL m R.flatten)) (.int (p : Int)) = some (.bool (decide ((p : Int) ∈ R.flatten))) := ixLn (metL_get pm)
      obtain ⟨P1, _, _⟩ := P.step N (by omega) (first := (p : Int)) (by omega)
      by_cases d : (p : Int) ∈ R.flatten
      · rw [decide_eq_true d] at ix
        have es : stepPt (XB B) R (p : Int) = R := if_pos d
        have e1 : b1_first_parts [.d (.list B), .d (.int (most : Int)), .m (metL m R.flatten), .m (rowsD R), .d (.int (p : Int))] = some (.nx [.d (.list B), .d (.int (most : Int)), .m (metL m R.flatten), .m (rowsD R), .d (.int (p : Int))]) := by
          unfold b1_first_parts
          simp -implicitDefEqProofs only [eq_self, r_thn, r_tk, r_tk0, r_ret, r_lift, r_lift0, r_var, r_vk, r_bin, r_un, r_nil, r_cons, r_tup, r_of, r_call, r_tst, r_kt, r_ikT, r_ikF, r_ite, r_if, r_ife, r_and, r_or, r_not, r_vand, r_vor, r_vnot, r_chain, r_hkT, r_hkF, r_part, r_ok, r_sl, r_seq, r_skN, r_skR, r_skF, r_skB, r_skC, r_next, r_retS, r_rk, r_retF, r_rfk, r_drop, r_dk, r_asg, r_gk, r_gk2, gNm, r_tp, r_gs, r_qk, r_gs0, r_froz, r_frk, r_cmk, r_setI, r_stk, r_stk2, r_sti, r_pl, r_stj, r_aug, r_aug1, r_aug2, r_aug3, r_opN, r_par, r_prk, r_callN, r_tupRg, and_self, ixN0, ixN1, ixN2, r_peek, r_pk, r_pkI, r_pkB, r_pkS, r_pkN, r_tpeek, r_bk1, r_bk2, r_frz, r_fzk, r_own, owk, r_frkK, r_ownK, r_ixEd, r_ixEt, r_ixEl, r_inK, r_ninK, r_mk4, r_mk3, r_met, r_mk2, r_callM, r_mk2b, r_callM1, r_lenIs, r_callF, r_mat, r_mtk, r_mEnd, r_mCase, r_for, r_lk, r_items, r_itL, r_itT, r_rng, r_enum, r_zipM, zipM_ok, r_star, starL_ok, starT_ok, enumL_ok, enumT_ok, for_nil, r_lc, r_lck2, lc_nil, r_outM, r_outMn, r_outM1, r_outM1n, r_outD, r_outDf, r_outDn, r_outF, ixL0, ixL1, ixL2, ixT0, ixT1, ixT2, addI_ok, subI_ok, gtI_ok, geI_ok, leI_ok, ltI_ok, lenL_ok, lenT_ok, abs_ok, intB_ok, List.getElem?_cons_zero, List.getElem?_cons_succ, List.length_cons, List.length_nil, List.set_cons_zero, List.set_cons_succ, List.map_cons, List.map_nil, List.cons_append, List.nil_append, List.replicate_succ, List.replicate_zero, Nat.reduceAdd, Nat.reduceSub, Nat.reduceLT, Nat.reduceEqDiff, Option.bind_some, Option.bind_none, Option.map_some, Option.map_none, if_true, if_false, ite_true, ite_false, ↓reduceIte, Bool.not_true, Bool.not_false, ln, q, ix]
        obtain ⟨F', a, e2⟩ := parts_loop W t hm N most fs R (.d (.int (p : Int))) P (fun g hg' => hf g (List.mem_cons_of_mem _ hg')) hl (by omega)
        exact ⟨F', a, by
          show forF _ _ (.int (p : Int) :: intsD fs) _ = _
          rw [for_nx hg e1, e2, List.foldl_cons, es]⟩
      · rw [decide_eq_false d] at ix
        have es : stepPt (XB B) R (p : Int) = R ++ [sortI (bfs (XB B) R.flatten 1000 0 [(p : Int)])] := if_neg d
        have pf := posts_from_ok W t hm N pm d P.nd
        have so := sortI_ok (bfs (XB B) R.flatten 1000 0 [(p : Int)])
        have tl : tupleD [.list (intsD (sortI (bfs (XB B) R.flatten 1000 0 [(p : Int)])))] = some (.tuple (intsD (sortI (bfs (XB B) R.flatten 1000 0 [(p : Int)])))) := rfl
        have ap : appG (rowsD R) [.tuple (intsD (sortI (bfs (XB B) R.flatten 1000 0 [(p : Int)])))] = some (.none, rowsD (stepPt (XB B) R (p : Int))) := by
          rw [app_ok (by unfold rowsD; rw [List.length_map]; omega), es, rowsD_app]
        have mc : metL m (R.flatten ++ bfs (XB B) R.flatten 1000 0 [(p : Int)]) = metL m (stepPt (XB B) R (p : Int)).flatten := by
          rw [es, List.flatten_append, List.flatten_singleton]
          refine metL_congr fun x _ => ?_
          rw [List.mem_append, List.mem_append, (sortI_perm _).mem_iff]
        rw [mc] at pf
        have e1 : b1_first_parts [.d (.list B), .d (.int (most : Int)), .m (metL m R.flatten), .m (rowsD R), .d (.int (p : Int))] = some (.nx [.d (.list B), .d (.int (most : Int)), .m (metL m (stepPt (XB B) R (p : Int)).flatten), .m (rowsD (stepPt (XB B) R (p : Int))), .d (.int (p : Int))]) := by
          unfold b1_first_parts
          simp -implicitDefEqProofs only [eq_self, r_thn, r_tk, r_tk0, r_ret, r_lift, r_lift0, r_var, r_vk, r_bin, r_un, r_nil, r_cons, r_tup, r_of, r_call, r_tst, r_kt, r_ikT, r_ikF, r_ite, r_if, r_ife, r_and, r_or, r_not, r_vand, r_vor, r_vnot, r_chain, r_hkT, r_hkF, r_part, r_ok, r_sl, r_seq, r_skN, r_skR, r_skF, r_skB, r_skC, r_next, r_retS, r_rk, r_retF, r_rfk, r_drop, r_dk, r_asg, r_gk, r_gk2, gNm, r_tp, r_gs, r_qk, r_gs0, r_froz, r_frk, r_cmk, r_setI, r_stk, r_stk2, r_sti, r_pl, r_stj, r_aug, r_aug1, r_aug2, r_aug3, r_opN, r_par, r_prk, r_callN, r_tupRg, and_self, ixN0, ixN1, ixN2, r_peek, r_pk, r_pkI, r_pkB, r_pkS, r_pkN, r_tpeek, r_bk1, r_bk2, r_frz, r_fzk, r_own, owk, r_frkK, r_ownK, r_ixEd, r_ixEt, r_ixEl, r_inK, r_ninK, r_mk4, r_mk3, r_met, r_mk2, r_callM, r_mk2b, r_callM1, r_lenIs, r_callF, r_mat, r_mtk, r_mEnd, r_mCase, r_for, r_lk, r_items, r_itL, r_itT, r_rng, r_enum, r_zipM, zipM_ok, r_star, starL_ok, starT_ok, enumL_ok, enumT_ok, for_nil, r_lc, r_lck2, lc_nil, r_outM, r_outMn, r_outM1, r_outM1n, r_outD, r_outDf, r_outDn, r_outF, ixL0, ixL1, ixL2, ixT0, ixT1, ixT2, addI_ok, subI_ok, gtI_ok, geI_ok, leI_ok, ltI_ok, lenL_ok, lenT_ok, abs_ok, intB_ok, List.getElem?_cons_zero, List.getElem?_cons_succ, List.length_cons, List.length_nil, List.set_cons_zero, List.set_cons_succ, List.map_cons, List.map_nil, List.cons_append, List.nil_append, List.replicate_succ, List.replicate_zero, Nat.reduceAdd, Nat.reduceSub, Nat.reduceLT, Nat.reduceEqDiff, Option.bind_some, Option.bind_none, Option.map_some, Option.map_none, if_true, if_false, ite_true, ite_false, ↓reduceIte, Bool.not_true, Bool.not_false, ln, q, ix, pf, so, tl, ap]
        have le : (stepPt (XB B) R (p : Int)).length = R.length + 1 := by rw [es, List.length_append, List.length_singleton]
        obtain ⟨F', a, e2⟩ := parts_loop W t hm N most fs (stepPt (XB B) R (p : Int)) (.d (.int (p : Int))) P1 (fun g hg' => hf g (List.mem_cons_of_mem _ hg')) (by omega) (by omega)
        exact ⟨F', a, by
          show forF _ _ (.int (p : Int) :: intsD fs) _ = _
          rw [for_nx hg e1, e2, List.foldl_cons]⟩
theorem first_parts_ok (W : whole (4 * m) V) (t : Tab (4 * m) V B) (hm : m ≤ 60) {T : Int → Int} (N : Net (4 * m) (XB B) T) (most : Nat) : g_first_parts [.list B, .int (most : Int)] = some (.tuple (rowsD ((partsR m (XB B)).take most))) := by
  obtain ⟨F', a, e⟩ := parts_loop W t hm N most (rangeI m) [] .un .nil (fun f hf => mem_rangeI.mp hf) (Nat.zero_le _) (by rw [len_rangeI, List.length_nil]; omega)
  have ln : lenD [.list B] = some (.int ((4 * m : Nat) : Int)) := by
    show some (PyData.int ((B.length : Nat) : Int)) = _
    rw [t.len]
  have fd : fdivD (.int ((4 * m : Nat) : Int)) (.int 4) = some (.int (m : Int)) := by
    rw [fdiv_ok (i := ((4 * m : Nat) : Int)) (j := 4) 3 (by decide) (by decide) (by decide) (by decide)]
    congr 2
    omega
  have s1 : Tw.sizeOk 1 = true := rfl
  have s0 : Tw.sizeOk 0 = true := rfl
  have rp : repN (.list [.bool false]) (.int (m : Int)) = some (metL m []) := by
    have f : ∀ k : Nat, (List.replicate k [PyData.bool false]).flatten = (List.range k).map fun h : Nat => PyData.bool (decide ((h : Int) ∈ ([] : List Int))) := fun k => by
      induction k with
      | zero => rfl
      | succ k ih =>
        rw [List.replicate_succ, List.flatten_cons, ih, List.range_succ_eq_map, List.map_cons, List.map_map]
        rfl
    unfold repN
    dsimp only
    rw [Int.toNat_natCast, f, if_pos ⟨by omega, by omega, by rw [List.length_singleton]; omega⟩]
    rfl
  have lm : lenD [.list (metL m [])] = some (.int (m : Int)) := by
    show some (PyData.int (((metL m []).length : Nat) : Int)) = _
    rw [metL_len]
  have rg := rng_ok (n := m) (by omega)
  have eu : ups 0 m = intsD (rangeI m) := by
    unfold ups rangeI intsD
    rw [List.map_map]
    refine List.map_congr_left fun i _ => ?_
    show PyData.int (0 + (i : Int)) = PyData.int (i : Int)
    rw [Int.zero_add]
  rw [eu] at rg
  have nl : rowsD ([] : List (List Int)) = [] := rfl
  have fl : ([] : List (List Int)).flatten = [] := rfl
  rw [nl, fl] at e
  have e' : forF (gNm 4) b1_first_parts (intsD (rangeI m)) [.d (.list B), .d (.int (most : Int)), .m (metL m []), .m (.l []), .un] = some (.nx [.d (.list B), .d (.int (most : Int)), .m (.l F'), .m (.l (rowsD ((partsR m (XB B)).take most))), a]) := e
  have tl : ∀ ds : List PyData, tupleD [.list ds] = some (.tuple ds) := fun _ => rfl
  unfold g_first_parts runP f_first_parts
  simp -implicitDefEqProofs only [eq_self, r_thn, r_tk, r_tk0, r_ret, r_lift, r_lift0, r_var, r_vk, r_bin, r_un, r_nil, r_cons, r_tup, r_of, r_call, r_tst, r_kt, r_ikT, r_ikF, r_ite, r_if, r_ife, r_and, r_or, r_not, r_vand, r_vor, r_vnot, r_chain, r_hkT, r_hkF, r_part, r_ok, r_sl, r_seq, r_skN, r_skR, r_skF, r_skB, r_skC, r_next, r_retS, r_rk, r_retF, r_rfk, r_drop, r_dk, r_asg, r_gk, r_gk2, gNm, r_tp, r_gs, r_qk, r_gs0, r_froz, r_frk, r_cmk, r_setI, r_stk, r_stk2, r_sti, r_pl, r_stj, r_aug, r_aug1, r_aug2, r_aug3, r_opN, r_par, r_prk, r_callN, r_tupRg, and_self, ixN0, ixN1, ixN2, r_peek, r_pk, r_pkI, r_pkB, r_pkS, r_pkN, r_tpeek, r_bk1, r_bk2, r_frz, r_fzk, r_own, owk, r_frkK, r_ownK, r_ixEd, r_ixEt, r_ixEl, r_inK, r_ninK, r_mk4, r_mk3, r_met, r_mk2, r_callM, r_mk2b, r_callM1, r_lenIs, r_callF, r_mat, r_mtk, r_mEnd, r_mCase, r_for, r_lk, r_items, r_itL, r_itT, r_rng, r_enum, r_zipM, zipM_ok, r_star, starL_ok, starT_ok, enumL_ok, enumT_ok, for_nil, r_lc, r_lck2, lc_nil, r_outM, r_outMn, r_outM1, r_outM1n, r_outD, r_outDf, r_outDn, r_outF, ixL0, ixL1, ixL2, ixT0, ixT1, ixT2, addI_ok, subI_ok, gtI_ok, geI_ok, leI_ok, ltI_ok, lenL_ok, lenT_ok, abs_ok, intB_ok, List.getElem?_cons_zero, List.getElem?_cons_succ, List.length_cons, List.length_nil, List.set_cons_zero, List.set_cons_succ, List.map_cons, List.map_nil, List.cons_append, List.nil_append, List.replicate_succ, List.replicate_zero, Nat.reduceAdd, Nat.reduceSub, Nat.reduceLT, Nat.reduceEqDiff, Option.bind_some, Option.bind_none, Option.map_some, Option.map_none, if_true, if_false, ite_true, ite_false, ↓reduceIte, Bool.not_true, Bool.not_false, ln, fd, s1, s0, rp, lm, rg, e', tl]
theorem parts_of_ok (W : whole (4 * m) V) (t : Tab (4 * m) V B) (hw : g_need_web [webD m V] = some (.list B)) (hm : m ≤ 60) {T : Int → Int} (N : Net (4 * m) (XB B) T) (hl : (partsR m (XB B)).length ≤ m) : g_parts_of [webD m V] = some (.tuple (rowsD (partsR m (XB B)))) := by
  have i0 : ixD (webD m V) (.int 0) = some (.int (m : Int)) := ixT0
  have fp := first_parts_ok W t hm N m
  rw [List.take_of_length_le hl] at fp
  unfold g_parts_of runP f_parts_of
  simp -implicitDefEqProofs only [eq_self, r_thn, r_tk, r_tk0, r_ret, r_lift, r_lift0, r_var, r_vk, r_bin, r_un, r_nil, r_cons, r_tup, r_of, r_call, r_tst, r_kt, r_ikT, r_ikF, r_ite, r_if, r_ife, r_and, r_or, r_not, r_vand, r_vor, r_vnot, r_chain, r_hkT, r_hkF, r_part, r_ok, r_sl, r_seq, r_skN, r_skR, r_skF, r_skB, r_skC, r_next, r_retS, r_rk, r_retF, r_rfk, r_drop, r_dk, r_asg, r_gk, r_gk2, gNm, r_tp, r_gs, r_qk, r_gs0, r_froz, r_frk, r_cmk, r_setI, r_stk, r_stk2, r_sti, r_pl, r_stj, r_aug, r_aug1, r_aug2, r_aug3, r_opN, r_par, r_prk, r_callN, r_tupRg, and_self, ixN0, ixN1, ixN2, r_peek, r_pk, r_pkI, r_pkB, r_pkS, r_pkN, r_tpeek, r_bk1, r_bk2, r_frz, r_fzk, r_own, owk, r_frkK, r_ownK, r_ixEd, r_ixEt, r_ixEl, r_inK, r_ninK, r_mk4, r_mk3, r_met, r_mk2, r_callM, r_mk2b, r_callM1, r_lenIs, r_callF, r_mat, r_mtk, r_mEnd, r_mCase, r_for, r_lk, r_items, r_itL, r_itT, r_rng, r_enum, r_zipM, zipM_ok, r_star, starL_ok, starT_ok, enumL_ok, enumT_ok, for_nil, r_lc, r_lck2, lc_nil, r_outM, r_outMn, r_outM1, r_outM1n, r_outD, r_outDf, r_outDn, r_outF, ixL0, ixL1, ixL2, ixT0, ixT1, ixT2, addI_ok, subI_ok, gtI_ok, geI_ok, leI_ok, ltI_ok, lenL_ok, lenT_ok, abs_ok, intB_ok, List.getElem?_cons_zero, List.getElem?_cons_succ, List.length_cons, List.length_nil, List.set_cons_zero, List.set_cons_succ, List.map_cons, List.map_nil, List.cons_append, List.nil_append, List.replicate_succ, List.replicate_zero, Nat.reduceAdd, Nat.reduceSub, Nat.reduceLT, Nat.reduceEqDiff, Option.bind_some, Option.bind_none, Option.map_some, Option.map_none, if_true, if_false, ite_true, ite_false, ↓reduceIte, Bool.not_true, Bool.not_false, hw, i0, fp]
end
end Lw

set_option Elab.async false
set_option linter.all false
set_option maxRecDepth 100000
set_option maxHeartbeats 4000000
namespace Lw
open PySem PySem.Spec PyProof.Rows L2 Tw
/-! ### a part as a web of its own -/
theorem ups_cons (lo : Int) (n : Nat) : ups lo (n + 1) = .int lo :: ups (lo + 1) n := by
  unfold ups
  rw [List.range_succ_eq_map, List.map_cons, List.map_map]
  congr 1
  · show PyData.int (lo + (0 : Nat)) = _
    rw [show lo + ((0 : Nat) : Int) = lo by omega]
  · refine List.map_congr_left fun i _ => ?_
    show PyData.int (lo + ((i + 1 : Nat) : Int)) = PyData.int (lo + 1 + (i : Int))
    congr 1
    omega
theorem lc_no {ft : FG} {tt : FE Bool} {fe : FE PyData} {vs : List Nat} {d : PyData} {ds : List PyData} {ρ ρ1 ρ2 : Rho} {z : Option (List PyData × Rho)} (h1 : ft d ρ = some ρ1) (h2 : tt ρ1 = some (false, ρ2)) (h4 : lcF ft tt fe vs ds (wipeR ρ2 vs) = z) : lcF ft tt fe vs (d :: ds) ρ = z := by
  unfold lcF
  rw [h1, Option.bind_some, h2, Option.bind_some]
  dsimp only
  rw [if_neg (by decide), h4]
theorem lc_yes {ft : FG} {tt : FE Bool} {fe : FE PyData} {vs : List Nat} {d e : PyData} {ds z : List PyData} {ρ ρ1 ρ2 ρ3 ρ4 : Rho} (h1 : ft d ρ = some ρ1) (h2 : tt ρ1 = some (true, ρ2)) (h3 : fe ρ2 = some (e, ρ3)) (h4 : lcF ft tt fe vs ds (wipeR ρ3 vs) = some (z, ρ4)) : lcF ft tt fe vs (d :: ds) ρ = some (e :: z, ρ4) := by
  unfold lcF
  rw [h1, Option.bind_some, h2, Option.bind_some]
  dsimp only
  rw [if_pos rfl, h3, Option.bind_some]
  dsimp only
  rw [h4]
  rfl
def tabF (n : Nat) (f : Int → Int) : List PyData := (List.range n).map fun h : Nat => .int (f (h : Int))
theorem tabF_len (n : Nat) (f : Int → Int) : (tabF n f).length = n := by unfold tabF; rw [List.length_map, List.length_range]
theorem tabF_get {n : Nat} {f : Int → Int} {i : Nat} (h : i < n) : (tabF n f)[i]? = some (.int (f (i : Int))) := by
  unfold tabF
  rw [List.getElem?_map, List.getElem?_range h]
  rfl
theorem tabF_set {n : Nat} {f : Int → Int} {i : Nat} (h : i < n) (k : Int) : (tabF n f).set i (.int k) = tabF n fun x => if x = (i : Int) then k else f x := by
  refine List.ext_getElem? fun j => ?_
  rw [List.getElem?_set]
  by_cases hj : j < n
  · rw [tabF_get hj]
    by_cases e : i = j
    · subst e
      rw [if_pos rfl, if_pos (by rw [tabF_len]; exact h), tabF_get h, if_pos rfl]
    · rw [if_neg e, tabF_get hj, if_neg (by omega)]
  · have h1 : (tabF n fun x => if x = (i : Int) then k else f x)[j]? = none := List.getElem?_eq_none (by rw [tabF_len]; omega)
    have h2 : (tabF n f)[j]? = none := List.getElem?_eq_none (by rw [tabF_len]; omega)
    rw [h1, if_neg (by omega), h2]
theorem tabF_congr {n : Nat} {f g : Int → Int} (h : ∀ x : Int, 0 ≤ x ∧ x < (n : Int) → f x = g x) : tabF n f = tabF n g := by
  unfold tabF
  refine List.map_congr_left fun i hi => ?_
  have := List.mem_range.mp hi
  rw [h i (by omega)]
def rel (Q : List Int) (h : Int) : Int := 4 * ((Q.idxOf (h / 4) : Nat) : Int) + h % 4
def relW (Q : List Int) (v : Int × Option Int) : Int × Option Int := (rel Q v.1, v.2.map (rel Q))
def inF (Q : List Int) : Nat → List (Int × Option Int) → List Nat
  | _, [] => []
  | k, v :: U => if v.1 / 4 ∈ Q then k :: inF Q (k + 1) U else inF Q (k + 1) U
def parW (V : List (Int × Option Int)) (Q : List Int) : List (Int × Option Int) := (inF Q 0 V).map fun k => relW Q (V.getD k (0, none))
theorem inF_mem {Q : List Int} : ∀ {U : List (Int × Option Int)} {k j : Nat}, j ∈ inF Q k U ↔ ∃ (i : Nat) (v : Int × Option Int), U[i]? = some v ∧ j = k + i ∧ v.1 / 4 ∈ Q
  | [], k, j => ⟨fun h => (nomatch h), fun ⟨i, v, h, _⟩ => by cases h⟩
  | v :: U, k, j => by
    have ih := inF_mem (Q := Q) (U := U) (k := k + 1) (j := j)
    have tail : (∃ (i : Nat) (w : Int × Option Int), U[i]? = some w ∧ j = k + 1 + i ∧ w.1 / 4 ∈ Q) → ∃ (i : Nat) (w : Int × Option Int), (v :: U)[i]? = some w ∧ j = k + i ∧ w.1 / 4 ∈ Q := fun ⟨i, w, h1, h2, h3⟩ => ⟨i + 1, w, h1, by omega, h3⟩
    unfold inF
    by_cases c : v.1 / 4 ∈ Q
    · rw [if_pos c, List.mem_cons, ih]
      constructor
      · rintro (e | h)
        · exact ⟨0, v, rfl, by omega, c⟩
        · exact tail h
      · rintro ⟨i, w, h1, h2, h3⟩
        cases i with
        | zero => exact .inl (by omega)
        | succ i => exact .inr ⟨i, w, h1, by omega, h3⟩
    · rw [if_neg c, ih]
      constructor
      · exact tail
      · rintro ⟨i, w, h1, h2, h3⟩
        cases i with
        | zero => cases h1; exact absurd h3 c
        | succ i => exact ⟨i, w, h1, by omega, h3⟩
theorem inF_up (Q : List Int) : ∀ (U : List (Int × Option Int)) (k : Nat), (inF Q k U).Pairwise (· < ·)
  | [], k => .nil
  | v :: U, k => by
    unfold inF
    split
    · refine List.pairwise_cons.mpr ⟨fun j hj => ?_, inF_up Q U (k + 1)⟩
      obtain ⟨i, _, _, e, _⟩ := inF_mem.mp hj
      omega
    · exact inF_up Q U (k + 1)
def natsD (L : List Nat) : List PyData := L.map fun i : Nat => .int (i : Int)
def hF : Nat → List Int → (Int → Int) → Int → Int
  | _, [], f => f
  | k, p :: Q, f => hF (k + 1) Q fun x => if x / 4 = p then 4 * (k : Int) + x % 4 else f x
theorem hF_get : ∀ (Q : List Int) (k : Nat) (f : Int → Int) (h : Int), Q.Nodup → (h / 4 ∉ Q → hF k Q f h = f h) ∧ ∀ i : Nat, Q[i]? = some (h / 4) → hF k Q f h = 4 * ((k + i : Nat) : Int) + h % 4
  | [], k, f, h, _ => ⟨fun _ => rfl, fun i e => by cases e⟩
  | p :: Q, k, f, h, nd => by
    obtain ⟨n1, n2⟩ := List.nodup_cons.mp nd
    obtain ⟨h1, h2⟩ := hF_get Q (k + 1) (fun x => if x / 4 = p then 4 * (k : Int) + x % 4 else f x) h n2
    refine ⟨fun q => ?_, fun i e => ?_⟩
    · rw [List.mem_cons, not_or] at q
      show hF (k + 1) Q _ h = _
      rw [h1 q.2, if_neg q.1]
    · show hF (k + 1) Q _ h = _
      cases i with
      | zero =>
        have e : p = h / 4 := by injection e
        rw [h1 (by rw [← e]; exact n1), if_pos e.symm]
        rfl
      | succ i =>
        rw [h2 i e, show k + 1 + i = k + (i + 1) by omega]
theorem idx_get {Q : List Int} {p : Int} (h : p ∈ Q) : Q[Q.idxOf p]? = some p := by
  have lt := List.idxOf_lt_length_of_mem h
  rw [List.getElem?_eq_getElem lt, List.getElem_idxOf lt]
theorem hF_rel {Q : List Int} (nd : Q.Nodup) {f : Int → Int} {h : Int} (hq : h / 4 ∈ Q) : hF 0 Q f h = rel Q h := by
  rw [(hF_get Q 0 f h nd).2 _ (idx_get hq), Nat.zero_add]
  rfl
section
variable {m : Nat} {V : List (Int × Option Int)} {B : List PyData}
theorem needed_ok (W : whole (4 * m) V) (t : Tab (4 * m) V B) (hw : g_need_web [webD m V] = some (.list B)) (hm : m ≤ 60) {T : Int → Int} (N : Net (4 * m) (XB B) T) {i : Nat} {Q : List Int} (hi : (partsR m (XB B))[i]? = some Q) : g_needed_part [webD m V, .int (i : Int)] = some (.tuple (intsD Q)) := by
  have li := (List.getElem?_eq_some_iff.mp hi).1
  have fp := first_parts_ok W t hm N (i + 1)
  have ea : ((i : Int) + 1) = ((i + 1 : Nat) : Int) := by omega
  have wh : g_is_whole [.int (i : Int)] = some (.bool true) := by
    have i1 : isiD "int" (.int (i : Int)) = some (.bool true) := rfl
    have i2 : isiD "bool" (.int (i : Int)) = some (.bool false) := rfl
    unfold g_is_whole runP f_is_whole
    simp -implicitDefEqProofs only [eq_self, r_thn, r_tk, r_tk0, r_ret, r_lift, r_lift0, r_var, r_vk, r_bin, r_un, r_nil, r_cons, r_tup, r_of, r_call, r_tst, r_kt, r_ikT, r_ikF, r_ite, r_if, r_ife, r_and, r_or, r_not, r_vand, r_vor, r_vnot, r_chain, r_hkT, r_hkF, r_part, r_ok, r_sl, r_seq, r_skN, r_skR, r_skF, r_skB, r_skC, r_next, r_retS, r_rk, r_retF, r_rfk, r_drop, r_dk, r_asg, r_gk, r_gk2, gNm, r_tp, r_gs, r_qk, r_gs0, r_froz, r_frk, r_cmk, r_setI, r_stk, r_stk2, r_sti, r_pl, r_stj, r_aug, r_aug1, r_aug2, r_aug3, r_opN, r_par, r_prk, r_callN, r_tupRg, and_self, ixN0, ixN1, ixN2, r_peek, r_pk, r_pkI, r_pkB, r_pkS, r_pkN, r_tpeek, r_bk1, r_bk2, r_frz, r_fzk, r_own, owk, r_frkK, r_ownK, r_ixEd, r_ixEt, r_ixEl, r_inK, r_ninK, r_mk4, r_mk3, r_met, r_mk2, r_callM, r_mk2b, r_callM1, r_lenIs, r_callF, r_mat, r_mtk, r_mEnd, r_mCase, r_for, r_lk, r_items, r_itL, r_itT, r_rng, r_enum, r_zipM, zipM_ok, r_star, starL_ok, starT_ok, enumL_ok, enumT_ok, for_nil, r_lc, r_lck2, lc_nil, r_outM, r_outMn, r_outM1, r_outM1n, r_outD, r_outDf, r_outDn, r_outF, ixL0, ixL1, ixL2, ixT0, ixT1, ixT2, addI_ok, subI_ok, gtI_ok, geI_ok, leI_ok, ltI_ok, lenL_ok, lenT_ok, abs_ok, intB_ok, List.getElem?_cons_zero, List.getElem?_cons_succ, List.length_cons, List.length_nil, List.set_cons_zero, List.set_cons_succ, List.map_cons, List.map_nil, List.cons_append, List.nil_append, List.replicate_succ, List.replicate_zero, Nat.reduceAdd, Nat.reduceSub, Nat.reduceLT, Nat.reduceEqDiff, Option.bind_some, Option.bind_none, Option.map_some, Option.map_none, if_true, if_false, ite_true, ite_false, ↓reduceIte, Bool.not_true, Bool.not_false, i1, i2]
  have lt : ltD (.int (i : Int)) (.int 0) = some (.bool false) := by
    show some (PyData.bool (decide ((i : Int) < 0))) = _
    rw [decide_eq_false (by omega)]
  have ln : lenD [.tuple (rowsD ((partsR m (XB B)).take (i + 1)))] = some (.int ((i + 1 : Nat) : Int)) := by
    show some (PyData.int (((rowsD ((partsR m (XB B)).take (i + 1))).length : Nat) : Int)) = _
    unfold rowsD
    rw [List.length_map, List.length_take, Nat.min_eq_left (by omega)]
  have ge : geI (.int (i : Int)) (.int ((i + 1 : Nat) : Int)) = some (.bool false) := by
    show some (PyData.bool (decide (((i + 1 : Nat) : Int) ≤ (i : Int)))) = _
    rw [decide_eq_false (by omega)]
  have ix : ixD (.tuple (rowsD ((partsR m (XB B)).take (i + 1)))) (.int (i : Int)) = some (.tuple (intsD Q)) := ixTn (by
    unfold rowsD
    rw [List.getElem?_map, List.getElem?_take, if_pos (by omega), hi]
    rfl)
  unfold g_needed_part runP f_needed_part
  simp -implicitDefEqProofs only [eq_self, r_thn, r_tk, r_tk0, r_ret, r_lift, r_lift0, r_var, r_vk, r_bin, r_un, r_nil, r_cons, r_tup, r_of, r_call, r_tst, r_kt, r_ikT, r_ikF, r_ite, r_if, r_ife, r_and, r_or, r_not, r_vand, r_vor, r_vnot, r_chain, r_hkT, r_hkF, r_part, r_ok, r_sl, r_seq, r_skN, r_skR, r_skF, r_skB, r_skC, r_next, r_retS, r_rk, r_retF, r_rfk, r_drop, r_dk, r_asg, r_gk, r_gk2, gNm, r_tp, r_gs, r_qk, r_gs0, r_froz, r_frk, r_cmk, r_setI, r_stk, r_stk2, r_sti, r_pl, r_stj, r_aug, r_aug1, r_aug2, r_aug3, r_opN, r_par, r_prk, r_callN, r_tupRg, and_self, ixN0, ixN1, ixN2, r_peek, r_pk, r_pkI, r_pkB, r_pkS, r_pkN, r_tpeek, r_bk1, r_bk2, r_frz, r_fzk, r_own, owk, r_frkK, r_ownK, r_ixEd, r_ixEt, r_ixEl, r_inK, r_ninK, r_mk4, r_mk3, r_met, r_mk2, r_callM, r_mk2b, r_callM1, r_lenIs, r_callF, r_mat, r_mtk, r_mEnd, r_mCase, r_for, r_lk, r_items, r_itL, r_itT, r_rng, r_enum, r_zipM, zipM_ok, r_star, starL_ok, starT_ok, enumL_ok, enumT_ok, for_nil, r_lc, r_lck2, lc_nil, r_outM, r_outMn, r_outM1, r_outM1n, r_outD, r_outDf, r_outDn, r_outF, ixL0, ixL1, ixL2, ixT0, ixT1, ixT2, addI_ok, subI_ok, gtI_ok, geI_ok, leI_ok, ltI_ok, lenL_ok, lenT_ok, abs_ok, intB_ok, List.getElem?_cons_zero, List.getElem?_cons_succ, List.length_cons, List.length_nil, List.set_cons_zero, List.set_cons_succ, List.map_cons, List.map_nil, List.cons_append, List.nil_append, List.replicate_succ, List.replicate_zero, Nat.reduceAdd, Nat.reduceSub, Nat.reduceLT, Nat.reduceEqDiff, Option.bind_some, Option.bind_none, Option.map_some, Option.map_none, if_true, if_false, ite_true, ite_false, ↓reduceIte, Bool.not_true, Bool.not_false, hw, wh, lt, ea, fp, ln, ge, ix]
theorem inside_loop (s0 s1 s4 s5 : Sl) : ∀ (Q F : List Int) (s3 : Sl), (∀ q ∈ Q, 0 ≤ q ∧ q < (m : Int)) → ∃ s3', forF (gNm 3) b1_ways_in (intsD Q) [s0, s1, .m (metL m F), s3, s4, s5] = some (.nx [s0, s1, .m (.l (metL m (F ++ Q))), s3', s4, s5])
  | [], F, s3, _ => ⟨s3, by rw [List.append_nil]; rfl⟩
  | q :: Q, F, s3, h => by
    have q0 := h q (List.mem_cons_self ..)
    obtain ⟨p, rfl⟩ : ∃ p : Nat, q = (p : Int) := ⟨q.toNat, by omega⟩
    have pm : p < m := by omega
    have pl : plI (metL m F).length (.int (p : Int)) = some p := Evl.ixN_nat (by rw [metL_len]; exact pm)
    have hg : gNm 3 (.int (p : Int)) [s0, s1, .m (metL m F), s3, s4, s5] = some [s0, s1, .m (metL m F), .d (.int (p : Int)), s4, s5] := rfl
    have e1 : b1_ways_in [s0, s1, .m (metL m F), .d (.int (p : Int)), s4, s5] = some (.nx [s0, s1, .m (.l (metL m (F ++ [(p : Int)]))), .d (.int (p : Int)), s4, s5]) := by
      rw [← metL_set pm]
      unfold b1_ways_in
      simp -implicitDefEqProofs only [eq_self, r_thn, r_tk, r_tk0, r_ret, r_lift, r_lift0, r_var, r_vk, r_bin, r_un, r_nil, r_cons, r_tup, r_of, r_call, r_tst, r_kt, r_ikT, r_ikF, r_ite, r_if, r_ife, r_and, r_or, r_not, r_vand, r_vor, r_vnot, r_chain, r_hkT, r_hkF, r_part, r_ok, r_sl, r_seq, r_skN, r_skR, r_skF, r_skB, r_skC, r_next, r_retS, r_rk, r_retF, r_rfk, r_drop, r_dk, r_asg, r_gk, r_gk2, gNm, r_tp, r_gs, r_qk, r_gs0, r_froz, r_frk, r_cmk, r_setI, r_stk, r_stk2, r_sti, r_pl, r_stj, r_aug, r_aug1, r_aug2, r_aug3, r_opN, r_par, r_prk, r_callN, r_tupRg, and_self, ixN0, ixN1, ixN2, r_peek, r_pk, r_pkI, r_pkB, r_pkS, r_pkN, r_tpeek, r_bk1, r_bk2, r_frz, r_fzk, r_own, owk, r_frkK, r_ownK, r_ixEd, r_ixEt, r_ixEl, r_inK, r_ninK, r_mk4, r_mk3, r_met, r_mk2, r_callM, r_mk2b, r_callM1, r_lenIs, r_callF, r_mat, r_mtk, r_mEnd, r_mCase, r_for, r_lk, r_items, r_itL, r_itT, r_rng, r_enum, r_zipM, zipM_ok, r_star, starL_ok, starT_ok, enumL_ok, enumT_ok, for_nil, r_lc, r_lck2, lc_nil, r_outM, r_outMn, r_outM1, r_outM1n, r_outD, r_outDf, r_outDn, r_outF, ixL0, ixL1, ixL2, ixT0, ixT1, ixT2, addI_ok, subI_ok, gtI_ok, geI_ok, leI_ok, ltI_ok, lenL_ok, lenT_ok, abs_ok, intB_ok, List.getElem?_cons_zero, List.getElem?_cons_succ, List.length_cons, List.length_nil, List.set_cons_zero, List.set_cons_succ, List.map_cons, List.map_nil, List.cons_append, List.nil_append, List.replicate_succ, List.replicate_zero, Nat.reduceAdd, Nat.reduceSub, Nat.reduceLT, Nat.reduceEqDiff, Option.bind_some, Option.bind_none, Option.map_some, Option.map_none, if_true, if_false, ite_true, ite_false, ↓reduceIte, Bool.not_true, Bool.not_false, pl]
    obtain ⟨a, e2⟩ := inside_loop s0 s1 s4 s5 Q (F ++ [(p : Int)]) (.d (.int (p : Int))) fun x hx => h x (List.mem_cons_of_mem _ hx)
    exact ⟨a, by
      show forF _ _ (.int (p : Int) :: intsD Q) _ = _
      rw [for_nx hg e1, e2, List.append_assoc]
      rfl⟩
theorem inside_lc (s0 s1 s3 : Sl) (Q : List Int) : ∀ (U : List (Int × Option Int)) (k : Nat), (∀ v ∈ U, 0 ≤ v.1 ∧ v.1 < ((4 * m : Nat) : Int)) →
    lcF (gTp [gNm 4, gNm 5]) (fTst (fBin ixD (fVar 2) (fBin fdivD (fBin ixD (fVar 5) (Tw.ret (.int 0))) (Tw.ret (.int 4))))) (fVar 4) [4, 5] (prs (ups (k : Int) U.length) (U.map wayD)) [s0, s1, .d (.list (metL m Q)), s3, .un, .un] = some (natsD (inF Q k U), [s0, s1, .d (.list (metL m Q)), s3, .un, .un])
  | [], k, _ => rfl
  | v :: U, k, h => by
    have v0 := h v (List.mem_cons_self ..)
    have ih := inside_lc s0 s1 s3 Q U (k + 1) fun w hw => h w (List.mem_cons_of_mem _ hw)
    have ep : prs (ups (k : Int) (v :: U).length) ((v :: U).map wayD) = .tuple [.int (k : Int), wayD v] :: prs (ups ((k + 1 : Nat) : Int) U.length) (U.map wayD) := by
      rw [List.length_cons, ups_cons, List.map_cons, show (k : Int) + 1 = ((k + 1 : Nat) : Int) by omega]
      rfl
    obtain ⟨p, hp⟩ : ∃ p : Nat, v.1 / 4 = (p : Int) := ⟨(v.1 / 4).toNat, by omega⟩
    have pm : p < m := by omega
    have i0 : ixD (wayD v) (.int 0) = some (.int v.1) := by
      obtain ⟨a, b⟩ := v
      cases b <;> rfl
    have fd : fdivD (.int v.1) (.int 4) = some (.int (p : Int)) := by
      rw [fdiv_ok (i := v.1) (j := 4) 3 (by decide) (by decide) (by decide) (by decide), hp]
    have ix : ixD (.list (metL m Q)) (.int (p : Int)) = some (.bool (decide ((p : Int) ∈ Q))) := ixLn (metL_get pm)
    have hg : gTp [gNm 4, gNm 5] (.tuple [.int (k : Int), wayD v]) [s0, s1, .d (.list (metL m Q)), s3, .un, .un] = some [s0, s1, .d (.list (metL m Q)), s3, .d (.int (k : Int)), .d (wayD v)] := rfl
    rw [ep]
    unfold inF
    rw [hp]
    by_cases c : (p : Int) ∈ Q
    · rw [decide_eq_true c] at ix
      rw [if_pos c]
      exact lc_yes (ρ1 := [s0, s1, .d (.list (metL m Q)), s3, .d (.int (k : Int)), .d (wayD v)]) (ρ2 := [s0, s1, .d (.list (metL m Q)), s3, .d (.int (k : Int)), .d (wayD v)]) (ρ3 := [s0, s1, .d (.list (metL m Q)), s3, .d (.int (k : Int)), .d (wayD v)]) hg (by simp -implicitDefEqProofs only [eq_self, r_thn, r_tk, r_tk0, r_ret, r_lift, r_lift0, r_var, r_vk, r_bin, r_un, r_nil, r_cons, r_tup, r_of, r_call, r_tst, r_kt, r_ikT, r_ikF, r_ite, r_if, r_ife, r_and, r_or, r_not, r_vand, r_vor, r_vnot, r_chain, r_hkT, r_hkF, r_part, r_ok, r_sl, r_seq, r_skN, r_skR, r_skF, r_skB, r_skC, r_next, r_retS, r_rk, r_retF, r_rfk, r_drop, r_dk, r_asg, r_gk, r_gk2, gNm, r_tp, r_gs, r_qk, r_gs0, r_froz, r_frk, r_cmk, r_setI, r_stk, r_stk2, r_sti, r_pl, r_stj, r_aug, r_aug1, r_aug2, r_aug3, r_opN, r_par, r_prk, r_callN, r_tupRg, and_self, ixN0, ixN1, ixN2, r_peek, r_pk, r_pkI, r_pkB, r_pkS, r_pkN, r_tpeek, r_bk1, r_bk2, r_frz, r_fzk, r_own, owk, r_frkK, r_ownK, r_ixEd, r_ixEt, r_ixEl, r_inK, r_ninK, r_mk4, r_mk3, r_met, r_mk2, r_callM, r_mk2b, r_callM1, r_lenIs, r_callF, r_mat, r_mtk, r_mEnd, r_mCase, r_for, r_lk, r_items, r_itL, r_itT, r_rng, r_enum, r_zipM, zipM_ok, r_star, starL_ok, starT_ok, enumL_ok, enumT_ok, for_nil, r_lc, r_lck2, lc_nil, r_outM, r_outMn, r_outM1, r_outM1n, r_outD, r_outDf, r_outDn, r_outF, ixL0, ixL1, ixL2, ixT0, ixT1, ixT2, addI_ok, subI_ok, gtI_ok, geI_ok, leI_ok, ltI_ok, lenL_ok, lenT_ok, abs_ok, intB_ok, List.getElem?_cons_zero, List.getElem?_cons_succ, List.length_cons, List.length_nil, List.set_cons_zero, List.set_cons_succ, List.map_cons, List.map_nil, List.cons_append, List.nil_append, List.replicate_succ, List.replicate_zero, Nat.reduceAdd, Nat.reduceSub, Nat.reduceLT, Nat.reduceEqDiff, Option.bind_some, Option.bind_none, Option.map_some, Option.map_none, if_true, if_false, ite_true, ite_false, ↓reduceIte, Bool.not_true, Bool.not_false, i0, fd, ix]) rfl ih
    · rw [decide_eq_false c] at ix
      rw [if_neg c]
      exact lc_no (ρ1 := [s0, s1, .d (.list (metL m Q)), s3, .d (.int (k : Int)), .d (wayD v)]) (ρ2 := [s0, s1, .d (.list (metL m Q)), s3, .d (.int (k : Int)), .d (wayD v)]) hg (by simp -implicitDefEqProofs only [eq_self, r_thn, r_tk, r_tk0, r_ret, r_lift, r_lift0, r_var, r_vk, r_bin, r_un, r_nil, r_cons, r_tup, r_of, r_call, r_tst, r_kt, r_ikT, r_ikF, r_ite, r_if, r_ife, r_and, r_or, r_not, r_vand, r_vor, r_vnot, r_chain, r_hkT, r_hkF, r_part, r_ok, r_sl, r_seq, r_skN, r_skR, r_skF, r_skB, r_skC, r_next, r_retS, r_rk, r_retF, r_rfk, r_drop, r_dk, r_asg, r_gk, r_gk2, gNm, r_tp, r_gs, r_qk, r_gs0, r_froz, r_frk, r_cmk, r_setI, r_stk, r_stk2, r_sti, r_pl, r_stj, r_aug, r_aug1, r_aug2, r_aug3, r_opN, r_par, r_prk, r_callN, r_tupRg, and_self, ixN0, ixN1, ixN2, r_peek, r_pk, r_pkI, r_pkB, r_pkS, r_pkN, r_tpeek, r_bk1, r_bk2, r_frz, r_fzk, r_own, owk, r_frkK, r_ownK, r_ixEd, r_ixEt, r_ixEl, r_inK, r_ninK, r_mk4, r_mk3, r_met, r_mk2, r_callM, r_mk2b, r_callM1, r_lenIs, r_callF, r_mat, r_mtk, r_mEnd, r_mCase, r_for, r_lk, r_items, r_itL, r_itT, r_rng, r_enum, r_zipM, zipM_ok, r_star, starL_ok, starT_ok, enumL_ok, enumT_ok, for_nil, r_lc, r_lck2, lc_nil, r_outM, r_outMn, r_outM1, r_outM1n, r_outD, r_outDf, r_outDn, r_outF, ixL0, ixL1, ixL2, ixT0, ixT1, ixT2, addI_ok, subI_ok, gtI_ok, geI_ok, leI_ok, ltI_ok, lenL_ok, lenT_ok, abs_ok, intB_ok, List.getElem?_cons_zero, List.getElem?_cons_succ, List.length_cons, List.length_nil, List.set_cons_zero, List.set_cons_succ, List.map_cons, List.map_nil, List.cons_append, List.nil_append, List.replicate_succ, List.replicate_zero, Nat.reduceAdd, Nat.reduceSub, Nat.reduceLT, Nat.reduceEqDiff, Option.bind_some, Option.bind_none, Option.map_some, Option.map_none, if_true, if_false, ite_true, ite_false, ↓reduceIte, Bool.not_true, Bool.not_false, i0, fd, ix]) ih
theorem nd_full : ∀ (m : Nat) {Q : List Int}, Q.Nodup → (∀ q ∈ Q, 0 ≤ q ∧ q < (m : Int)) → Q.length = m → ∀ x, 0 ≤ x ∧ x < (m : Int) → x ∈ Q := fun m Q nd h hl x hx => (perm_of_nodup nd h hl).mem_iff.mpr (mem_rangeI.mpr hx)
theorem inF_full {Q : List Int} : ∀ (U : List (Int × Option Int)) (k : Nat), (∀ v ∈ U, v.1 / 4 ∈ Q) → inF Q k U = (List.range U.length).map (k + ·)
  | [], k, _ => rfl
  | v :: U, k, h => by
    unfold inF
    rw [if_pos (h v (List.mem_cons_self ..)), inF_full U (k + 1) fun w hw => h w (List.mem_cons_of_mem _ hw), List.length_cons, List.range_succ_eq_map, List.map_cons, List.map_map]
    have e : (List.range U.length).map (k + 1 + ·) = (List.range U.length).map ((k + ·) ∘ Nat.succ) := List.map_congr_left fun i _ => by
      show k + 1 + i = k + (i + 1)
      omega
    rw [e]
    rfl
end
end Lw

set_option Elab.async false
set_option linter.all false
set_option maxRecDepth 100000
set_option maxHeartbeats 4000000
namespace Lw
open PySem PySem.Spec PyProof.Rows L2 Tw
/-- the posts of a part: rising, within the web -/
structure PostsQ (m : Nat) (Q : List Int) : Prop where
  up : Q.Pairwise (· < ·)
  inr : ∀ q ∈ Q, 0 ≤ q ∧ q < (m : Int)
theorem PostsQ.nd {m : Nat} {Q : List Int} (P : PostsQ m Q) : Q.Nodup := P.up.imp fun h e => by omega
theorem PostsQ.len {m : Nat} {Q : List Int} (P : PostsQ m Q) : Q.length ≤ m := in_len m Q P.nd P.inr
theorem range_up (n : Nat) : (rangeI n).Pairwise (· < ·) := cast_up List.pairwise_lt_range
theorem PostsQ.full {m : Nat} {Q : List Int} (P : PostsQ m Q) (h : Q.length = m) : Q = rangeI m :=
  eq_of_rise P.up (range_up m) fun x => ⟨fun q => mem_rangeI.mpr (P.inr x q), fun q => nd_full m P.nd P.inr h x (mem_rangeI.mp q)⟩
theorem rel_range {m : Nat} {h : Int} (h0 : 0 ≤ h ∧ h < ((4 * m : Nat) : Int)) : rel (rangeI m) h = h := by
  have mem : h / 4 ∈ rangeI m := mem_rangeI.mpr (by omega)
  have g := idx_get mem
  have lt : (rangeI m).idxOf (h / 4) < m := by
    have := List.idxOf_lt_length_of_mem mem
    rw [len_rangeI] at this
    exact this
  unfold rangeI at g
  rw [List.getElem?_map, List.getElem?_range (by unfold rangeI at lt; exact lt)] at g
  have e : (((rangeI m).idxOf (h / 4) : Nat) : Int) = h / 4 := Option.some.inj g
  unfold rel
  rw [e]
  omega
section
variable {m : Nat} {V : List (Int × Option Int)} {B : List PyData}
theorem whole_first (W : whole (4 * m) V) : ∀ v ∈ V, 0 ≤ v.1 ∧ v.1 < ((4 * m : Nat) : Int) := fun v hv => mem_rangeI.mp (W.1.mem_iff.mp (mem_flat hv))
theorem whole_len (W : whole (4 * m) V) : V.length ≤ 4 * m := by
  have h1 := flat_ge V
  have h2 := W.1.length_eq
  rw [len_rangeI] at h2
  omega
theorem ways_in_ok (W : whole (4 * m) V) (hm : m ≤ 60) {Q : List Int} (P : PostsQ m Q) : g_ways_in [webD m V, .tuple (intsD Q)] = some (.tuple (natsD (inF Q 0 V))) := by
  have vl := whole_len W
  have i0 : ixD (webD m V) (.int 0) = some (.int (m : Int)) := ixT0
  have i1 : ixD (webD m V) (.int 1) = some (.tuple (V.map wayD)) := ixT1
  have ln : lenD [.tuple (intsD Q)] = some (.int (Q.length : Int)) := by
    show some (PyData.int (((intsD Q).length : Nat) : Int)) = _
    rw [intsD_len]
  have lw : lenD [.tuple (V.map wayD)] = some (.int (V.length : Int)) := by
    show some (PyData.int (((V.map wayD).length : Nat) : Int)) = _
    rw [List.length_map]
  by_cases c : Q.length = m
  · have q : eqD (.int (Q.length : Int)) (.int (m : Int)) = some (.bool true) := by
      show some (PyData.bool ((Q.length : Int) == (m : Int))) = _
      rw [c, beq_self_eq_true]
    have rg : rg1 (.int (V.length : Int)) = some (ups 0 V.length) := by
      have : rgOk 0 (V.length : Int) = true := decide_eq_true (by omega)
      show (if rgOk 0 (V.length : Int) = true then some (ups 0 ((V.length : Int)).toNat) else none) = _
      rw [if_pos this, Int.toNat_natCast]
    have e : ups 0 V.length = natsD (inF Q 0 V) := by
      rw [inF_full V 0 fun v hv => by
        have := whole_first W v hv
        exact nd_full m P.nd P.inr c _ (by omega)]
      unfold ups natsD
      rw [List.map_map]
      refine List.map_congr_left fun i _ => ?_
      show PyData.int (0 + (i : Int)) = PyData.int ((0 + i : Nat) : Int)
      congr 1
    rw [← e]
    unfold g_ways_in runP f_ways_in
    simp -implicitDefEqProofs only [eq_self, r_thn, r_tk, r_tk0, r_ret, r_lift, r_lift0, r_var, r_vk, r_bin, r_un, r_nil, r_cons, r_tup, r_of, r_call, r_tst, r_kt, r_ikT, r_ikF, r_ite, r_if, r_ife, r_and, r_or, r_not, r_vand, r_vor, r_vnot, r_chain, r_hkT, r_hkF, r_part, r_ok, r_sl, r_seq, r_skN, r_skR, r_skF, r_skB, r_skC, r_next, r_retS, r_rk, r_retF, r_rfk, r_drop, r_dk, r_asg, r_gk, r_gk2, gNm, r_tp, r_gs, r_qk, r_gs0, r_froz, r_frk, r_cmk, r_setI, r_stk, r_stk2, r_sti, r_pl, r_stj, r_aug, r_aug1, r_aug2, r_aug3, r_opN, r_par, r_prk, r_callN, r_tupRg, and_self, ixN0, ixN1, ixN2, r_peek, r_pk, r_pkI, r_pkB, r_pkS, r_pkN, r_tpeek, r_bk1, r_bk2, r_frz, r_fzk, r_own, owk, r_frkK, r_ownK, r_ixEd, r_ixEt, r_ixEl, r_inK, r_ninK, r_mk4, r_mk3, r_met, r_mk2, r_callM, r_mk2b, r_callM1, r_lenIs, r_callF, r_mat, r_mtk, r_mEnd, r_mCase, r_for, r_lk, r_items, r_itL, r_itT, r_rng, r_enum, r_zipM, zipM_ok, r_star, starL_ok, starT_ok, enumL_ok, enumT_ok, for_nil, r_lc, r_lck2, lc_nil, r_outM, r_outMn, r_outM1, r_outM1n, r_outD, r_outDf, r_outDn, r_outF, ixL0, ixL1, ixL2, ixT0, ixT1, ixT2, addI_ok, subI_ok, gtI_ok, geI_ok, leI_ok, ltI_ok, lenL_ok, lenT_ok, abs_ok, intB_ok, List.getElem?_cons_zero, List.getElem?_cons_succ, List.length_cons, List.length_nil, List.set_cons_zero, List.set_cons_succ, List.map_cons, List.map_nil, List.cons_append, List.nil_append, List.replicate_succ, List.replicate_zero, Nat.reduceAdd, Nat.reduceSub, Nat.reduceLT, Nat.reduceEqDiff, Option.bind_some, Option.bind_none, Option.map_some, Option.map_none, if_true, if_false, ite_true, ite_false, ↓reduceIte, Bool.not_true, Bool.not_false, ln, i0, q, i1, lw, rg]
  · have q : eqD (.int (Q.length : Int)) (.int (m : Int)) = some (.bool false) := by
      show some (PyData.bool ((Q.length : Int) == (m : Int))) = _
      rw [beq_eq_false_iff_ne.mpr (by omega)]
    have s1 : Tw.sizeOk 1 = true := rfl
    have rp : repN (.list [.bool false]) (.int (m : Int)) = some (metL m []) := by
      have f : ∀ k : Nat, (List.replicate k [PyData.bool false]).flatten = (List.range k).map fun h : Nat => PyData.bool (decide ((h : Int) ∈ ([] : List Int))) := fun k => by
        induction k with
        | zero => rfl
        | succ k ih =>
          rw [List.replicate_succ, List.flatten_cons, ih, List.range_succ_eq_map, List.map_cons, List.map_map]
          rfl
      unfold repN
      dsimp only
      rw [Int.toNat_natCast, f, if_pos ⟨by omega, by omega, by rw [List.length_singleton]; omega⟩]
      rfl
    obtain ⟨a, e1⟩ := inside_loop (m := m) (.d (webD m V)) (.d (.tuple (intsD Q))) .un .un Q [] .un P.inr
    rw [List.nil_append] at e1
    have en : enumN [.tuple (V.map wayD)] = some (prs (ups ((0 : Nat) : Int) V.length) (V.map wayD)) := by
      show some (prs (ups 0 (V.map wayD).length) (V.map wayD)) = _
      rw [List.length_map]
      rfl
    have sz : Tw.sizeOk (prs (ups ((0 : Nat) : Int) V.length) (V.map wayD)).length = true := decide_eq_true (by rw [prs_len, Tw.ups_len, List.length_map]; omega)
    have lc := fun s3 => inside_lc (m := m) (.d (webD m V)) (.d (.tuple (intsD Q))) s3 Q V 0 (whole_first W)
    have tl : ∀ ds : List PyData, tupleD [.list ds] = some (.tuple ds) := fun _ => rfl
    unfold g_ways_in runP f_ways_in
    simp -implicitDefEqProofs only [eq_self, r_thn, r_tk, r_tk0, r_ret, r_lift, r_lift0, r_var, r_vk, r_bin, r_un, r_nil, r_cons, r_tup, r_of, r_call, r_tst, r_kt, r_ikT, r_ikF, r_ite, r_if, r_ife, r_and, r_or, r_not, r_vand, r_vor, r_vnot, r_chain, r_hkT, r_hkF, r_part, r_ok, r_sl, r_seq, r_skN, r_skR, r_skF, r_skB, r_skC, r_next, r_retS, r_rk, r_retF, r_rfk, r_drop, r_dk, r_asg, r_gk, r_gk2, gNm, r_tp, r_gs, r_qk, r_gs0, r_froz, r_frk, r_cmk, r_setI, r_stk, r_stk2, r_sti, r_pl, r_stj, r_aug, r_aug1, r_aug2, r_aug3, r_opN, r_par, r_prk, r_callN, r_tupRg, and_self, ixN0, ixN1, ixN2, r_peek, r_pk, r_pkI, r_pkB, r_pkS, r_pkN, r_tpeek, r_bk1, r_bk2, r_frz, r_fzk, r_own, owk, r_frkK, r_ownK, r_ixEd, r_ixEt, r_ixEl, r_inK, r_ninK, r_mk4, r_mk3, r_met, r_mk2, r_callM, r_mk2b, r_callM1, r_lenIs, r_callF, r_mat, r_mtk, r_mEnd, r_mCase, r_for, r_lk, r_items, r_itL, r_itT, r_rng, r_enum, r_zipM, zipM_ok, r_star, starL_ok, starT_ok, enumL_ok, enumT_ok, for_nil, r_lc, r_lck2, lc_nil, r_outM, r_outMn, r_outM1, r_outM1n, r_outD, r_outDf, r_outDn, r_outF, ixL0, ixL1, ixL2, ixT0, ixT1, ixT2, addI_ok, subI_ok, gtI_ok, geI_ok, leI_ok, ltI_ok, lenL_ok, lenT_ok, abs_ok, intB_ok, List.getElem?_cons_zero, List.getElem?_cons_succ, List.length_cons, List.length_nil, List.set_cons_zero, List.set_cons_succ, List.map_cons, List.map_nil, List.cons_append, List.nil_append, List.replicate_succ, List.replicate_zero, Nat.reduceAdd, Nat.reduceSub, Nat.reduceLT, Nat.reduceEqDiff, Option.bind_some, Option.bind_none, Option.map_some, Option.map_none, if_true, if_false, ite_true, ite_false, ↓reduceIte, Bool.not_true, Bool.not_false, ln, i0, q, i1, s1, rp, e1, en, r_lck sz, wipeR, lc, backR, tl]
theorem side_loop (hm : m ≤ 60) (s0 s1 s2 s4 s8 : Sl) {k p : Nat} (hk : k ≤ 60) (hp : p < m) (f : Int → Int) (s7 : Sl) :
    b2_part_web [s0, s1, s2, .m (tabF (4 * m) f), s4, .d (.int (k : Int)), .d (.int (p : Int)), s7, s8] = some (.nx [s0, s1, s2, .m (.l (tabF (4 * m) fun x => if x / 4 = (p : Int) then 4 * (k : Int) + x % 4 else f x)), s4, .d (.int (k : Int)), .d (.int (p : Int)), .d (.int 3), s8]) := by
  have m4 : mulI (.int 4) (.int (p : Int)) = some (.int (4 * (p : Int))) := mul_ok 3 7 (by decide) (by decide) (by decide) (by decide) (by omega) (by omega) (by decide)
  have k4 : mulI (.int 4) (.int (k : Int)) = some (.int (4 * (k : Int))) := mul_ok 3 7 (by decide) (by decide) (by decide) (by decide) (by omega) (by omega) (by decide)
  have one : ∀ (g : Int → Int) (r : Nat), r < 4 → b1_part_web [s0, s1, s2, .m (tabF (4 * m) g), s4, .d (.int (k : Int)), .d (.int (p : Int)), .d (.int (r : Int)), s8] = some (.nx [s0, s1, s2, .m (.l (tabF (4 * m) fun x => if x = ((4 * p + r : Nat) : Int) then 4 * (k : Int) + (r : Int) else g x)), s4, .d (.int (k : Int)), .d (.int (p : Int)), .d (.int (r : Int)), s8]) := fun g r hr => by
    have pl : plI (tabF (4 * m) g).length (.int (4 * (p : Int) + (r : Int))) = some (4 * p + r) := by
      rw [show 4 * (p : Int) + (r : Int) = ((4 * p + r : Nat) : Int) by omega]
      exact Evl.ixN_nat (by rw [tabF_len]; omega)
    rw [← tabF_set (by omega)]
    unfold b1_part_web
    simp -implicitDefEqProofs only [eq_self, r_thn, r_tk, r_tk0, r_ret, r_lift, r_lift0, r_var, r_vk, r_bin, r_un, r_nil, r_cons, r_tup, r_of, r_call, r_tst, r_kt, r_ikT, r_ikF, r_ite, r_if, r_ife, r_and, r_or, r_not, r_vand, r_vor, r_vnot, r_chain, r_hkT, r_hkF, r_part, r_ok, r_sl, r_seq, r_skN, r_skR, r_skF, r_skB, r_skC, r_next, r_retS, r_rk, r_retF, r_rfk, r_drop, r_dk, r_asg, r_gk, r_gk2, gNm, r_tp, r_gs, r_qk, r_gs0, r_froz, r_frk, r_cmk, r_setI, r_stk, r_stk2, r_sti, r_pl, r_stj, r_aug, r_aug1, r_aug2, r_aug3, r_opN, r_par, r_prk, r_callN, r_tupRg, and_self, ixN0, ixN1, ixN2, r_peek, r_pk, r_pkI, r_pkB, r_pkS, r_pkN, r_tpeek, r_bk1, r_bk2, r_frz, r_fzk, r_own, owk, r_frkK, r_ownK, r_ixEd, r_ixEt, r_ixEl, r_inK, r_ninK, r_mk4, r_mk3, r_met, r_mk2, r_callM, r_mk2b, r_callM1, r_lenIs, r_callF, r_mat, r_mtk, r_mEnd, r_mCase, r_for, r_lk, r_items, r_itL, r_itT, r_rng, r_enum, r_zipM, zipM_ok, r_star, starL_ok, starT_ok, enumL_ok, enumT_ok, for_nil, r_lc, r_lck2, lc_nil, r_outM, r_outMn, r_outM1, r_outM1n, r_outD, r_outDf, r_outDn, r_outF, ixL0, ixL1, ixL2, ixT0, ixT1, ixT2, addI_ok, subI_ok, gtI_ok, geI_ok, leI_ok, ltI_ok, lenL_ok, lenT_ok, abs_ok, intB_ok, List.getElem?_cons_zero, List.getElem?_cons_succ, List.length_cons, List.length_nil, List.set_cons_zero, List.set_cons_succ, List.map_cons, List.map_nil, List.cons_append, List.nil_append, List.replicate_succ, List.replicate_zero, Nat.reduceAdd, Nat.reduceSub, Nat.reduceLT, Nat.reduceEqDiff, Option.bind_some, Option.bind_none, Option.map_some, Option.map_none, if_true, if_false, ite_true, ite_false, ↓reduceIte, Bool.not_true, Bool.not_false, m4, k4, pl]
  have hg : ∀ (g : Int → Int) (r : Nat) (s7 : Sl), gNm 7 (.int (r : Int)) [s0, s1, s2, .m (tabF (4 * m) g), s4, .d (.int (k : Int)), .d (.int (p : Int)), s7, s8] = some [s0, s1, s2, .m (tabF (4 * m) g), s4, .d (.int (k : Int)), .d (.int (p : Int)), .d (.int (r : Int)), s8] := fun _ _ _ => rfl
  have r4 : rng1 [.int 4] = some (ups 0 4) := rng_ok (n := 4) (by decide)
  have u4 : ups 0 4 = [.int ((0 : Nat) : Int), .int ((1 : Nat) : Int), .int ((2 : Nat) : Int), .int ((3 : Nat) : Int)] := rfl
  have fin : forF (gNm 7) b1_part_web (ups 0 4) [s0, s1, s2, .m (tabF (4 * m) f), s4, .d (.int (k : Int)), .d (.int (p : Int)), s7, s8] = some (.nx [s0, s1, s2, .m (.l (tabF (4 * m) fun x => if x / 4 = (p : Int) then 4 * (k : Int) + x % 4 else f x)), s4, .d (.int (k : Int)), .d (.int (p : Int)), .d (.int 3), s8]) := by
    rw [u4, for_nx (hg f 0 s7) (one f 0 (by decide)), for_nx (hg _ 1 _) (one _ 1 (by decide)), for_nx (hg _ 2 _) (one _ 2 (by decide)), for_nx (hg _ 3 _) (one _ 3 (by decide))]
    show some (Out.nx [s0, s1, s2, .m (.l (tabF (4 * m) _)), s4, .d (.int (k : Int)), .d (.int (p : Int)), .d (.int 3), s8]) = _
    rw [tabF_congr (g := fun x => if x / 4 = (p : Int) then 4 * (k : Int) + x % 4 else f x) fun x hx => ?_]
    by_cases c : x / 4 = (p : Int)
    · rw [if_pos c]
      have hr : x % 4 = 0 ∨ x % 4 = 1 ∨ x % 4 = 2 ∨ x % 4 = 3 := by omega
      rcases hr with e | e | e | e
      · rw [if_neg (by omega), if_neg (by omega), if_neg (by omega), if_pos (by omega)]; omega
      · rw [if_neg (by omega), if_neg (by omega), if_pos (by omega)]; omega
      · rw [if_neg (by omega), if_pos (by omega)]; omega
      · rw [if_pos (by omega)]; omega
    · rw [if_neg c, if_neg (by omega), if_neg (by omega), if_neg (by omega), if_neg (by omega)]
  unfold b2_part_web
  simp -implicitDefEqProofs only [eq_self, r_thn, r_tk, r_tk0, r_ret, r_lift, r_lift0, r_var, r_vk, r_bin, r_un, r_nil, r_cons, r_tup, r_of, r_call, r_tst, r_kt, r_ikT, r_ikF, r_ite, r_if, r_ife, r_and, r_or, r_not, r_vand, r_vor, r_vnot, r_chain, r_hkT, r_hkF, r_part, r_ok, r_sl, r_seq, r_skN, r_skR, r_skF, r_skB, r_skC, r_next, r_retS, r_rk, r_retF, r_rfk, r_drop, r_dk, r_asg, r_gk, r_gk2, gNm, r_tp, r_gs, r_qk, r_gs0, r_froz, r_frk, r_cmk, r_setI, r_stk, r_stk2, r_sti, r_pl, r_stj, r_aug, r_aug1, r_aug2, r_aug3, r_opN, r_par, r_prk, r_callN, r_tupRg, and_self, ixN0, ixN1, ixN2, r_peek, r_pk, r_pkI, r_pkB, r_pkS, r_pkN, r_tpeek, r_bk1, r_bk2, r_frz, r_fzk, r_own, owk, r_frkK, r_ownK, r_ixEd, r_ixEt, r_ixEl, r_inK, r_ninK, r_mk4, r_mk3, r_met, r_mk2, r_callM, r_mk2b, r_callM1, r_lenIs, r_callF, r_mat, r_mtk, r_mEnd, r_mCase, r_for, r_lk, r_items, r_itL, r_itT, r_rng, r_enum, r_zipM, zipM_ok, r_star, starL_ok, starT_ok, enumL_ok, enumT_ok, for_nil, r_lc, r_lck2, lc_nil, r_outM, r_outMn, r_outM1, r_outM1n, r_outD, r_outDf, r_outDn, r_outF, ixL0, ixL1, ixL2, ixT0, ixT1, ixT2, addI_ok, subI_ok, gtI_ok, geI_ok, leI_ok, ltI_ok, lenL_ok, lenT_ok, abs_ok, intB_ok, List.getElem?_cons_zero, List.getElem?_cons_succ, List.length_cons, List.length_nil, List.set_cons_zero, List.set_cons_succ, List.map_cons, List.map_nil, List.cons_append, List.nil_append, List.replicate_succ, List.replicate_zero, Nat.reduceAdd, Nat.reduceSub, Nat.reduceLT, Nat.reduceEqDiff, Option.bind_some, Option.bind_none, Option.map_some, Option.map_none, if_true, if_false, ite_true, ite_false, ↓reduceIte, Bool.not_true, Bool.not_false, r4, fin]
theorem hands_loop (hm : m ≤ 60) (s0 s1 s2 s4 s8 : Sl) : ∀ (Q : List Int) (k : Nat) (f : Int → Int) (s5 s6 s7 : Sl), k + Q.length ≤ 60 → (∀ q ∈ Q, 0 ≤ q ∧ q < (m : Int)) →
    ∃ s5' s6' s7', forF (gTp [gNm 5, gNm 6]) b2_part_web (prs (ups (k : Int) Q.length) (intsD Q)) [s0, s1, s2, .m (tabF (4 * m) f), s4, s5, s6, s7, s8] = some (.nx [s0, s1, s2, .m (.l (tabF (4 * m) (hF k Q f))), s4, s5', s6', s7', s8])
  | [], k, f, s5, s6, s7, _, _ => ⟨s5, s6, s7, rfl⟩
  | q :: Q, k, f, s5, s6, s7, hk, hq => by
    rw [List.length_cons] at hk
    have q0 := hq q (List.mem_cons_self ..)
    obtain ⟨p, rfl⟩ : ∃ p : Nat, q = (p : Int) := ⟨q.toNat, by omega⟩
    have ep : prs (ups (k : Int) ((p : Int) :: Q).length) (intsD ((p : Int) :: Q)) = .tuple [.int (k : Int), .int (p : Int)] :: prs (ups ((k + 1 : Nat) : Int) Q.length) (intsD Q) := by
      rw [List.length_cons, ups_cons, show (k : Int) + 1 = ((k + 1 : Nat) : Int) by omega]
      rfl
    have hg : gTp [gNm 5, gNm 6] (.tuple [.int (k : Int), .int (p : Int)]) [s0, s1, s2, .m (tabF (4 * m) f), s4, s5, s6, s7, s8] = some [s0, s1, s2, .m (tabF (4 * m) f), s4, .d (.int (k : Int)), .d (.int (p : Int)), s7, s8] := rfl
    have e1 := side_loop hm s0 s1 s2 s4 s8 (k := k) (p := p) (by omega) (by omega) f s7
    obtain ⟨a, b, c, e2⟩ := hands_loop hm s0 s1 s2 s4 s8 Q (k + 1) (fun x => if x / 4 = (p : Int) then 4 * (k : Int) + x % 4 else f x) (.d (.int (k : Int))) (.d (.int (p : Int))) (.d (.int 3)) (by omega) fun x hx => hq x (List.mem_cons_of_mem _ hx)
    exact ⟨a, b, c, by rw [ep, for_nx hg e1, e2]; rfl⟩
/-- a part that no way leaves -/
def ClosedQ (V : List (Int × Option Int)) (Q : List Int) : Prop := ∀ v ∈ V, ∀ g, v.2 = some g → (v.1 / 4 ∈ Q ↔ g / 4 ∈ Q)
theorem par_full (W : whole (4 * m) V) {Q : List Int} (P : PostsQ m Q) (c : Q.length = m) : parW V Q = V := by
  have eQ := P.full c
  unfold parW
  rw [inF_full V 0 fun v hv => by
    have := whole_first W v hv
    exact nd_full m P.nd P.inr c _ (by omega), List.map_map]
  refine List.ext_getElem? fun j => ?_
  rw [List.getElem?_map]
  by_cases h : j < V.length
  · rw [List.getElem?_range h, List.getElem?_eq_getElem h, Option.map_some]
    have hv := List.getElem_mem h
    have e : V.getD (0 + j) (0, none) = V[j] := by rw [Nat.zero_add, List.getD_eq_getElem?_getD, List.getElem?_eq_getElem h]; rfl
    show some (relW Q (V.getD (0 + j) (0, none))) = some V[j]
    rw [e, eQ]
    have all : ∀ x ∈ handsW V[j], rel (rangeI m) x = x := fun x hx => rel_range (mem_rangeI.mp (W.1.mem_iff.mp (List.mem_flatMap.mpr ⟨V[j], hv, hx⟩)))
    congr 1
    unfold relW
    refine Prod.ext (all _ (List.mem_cons_self ..)) ?_
    show V[j].2.map (rel (rangeI m)) = V[j].2
    cases e2 : V[j].2 with
    | none => rfl
    | some g =>
      have := all g (List.mem_cons_of_mem _ (by rw [e2]; exact List.mem_singleton.mpr rfl))
      rw [Option.map_some, this]
  · rw [List.getElem?_eq_none (by rw [List.length_range]; omega), List.getElem?_eq_none (by omega)]
    rfl
theorem part_web_ok (W : whole (4 * m) V) (hm : m ≤ 60) {i : Nat} {Q : List Int} (np : g_needed_part [webD m V, .int (i : Int)] = some (.tuple (intsD Q))) (P : PostsQ m Q) (cl : ClosedQ V Q) : g_part_web [webD m V, .int (i : Int)] = some (webD Q.length (parW V Q)) := by
  have vl := whole_len W
  have ql := P.len
  have i0 : ixD (webD m V) (.int 0) = some (.int (m : Int)) := ixT0
  have i1 : ixD (webD m V) (.int 1) = some (.tuple (V.map wayD)) := ixT1
  have ln : lenD [.tuple (intsD Q)] = some (.int (Q.length : Int)) := by
    show some (PyData.int (((intsD Q).length : Nat) : Int)) = _
    rw [intsD_len]
  have s2 : Tw.sizeOk 2 = true := rfl
  have s1 : Tw.sizeOk 1 = true := rfl
  by_cases c : Q.length = m
  · have q : eqD (.int (Q.length : Int)) (.int (m : Int)) = some (.bool true) := by
      show some (PyData.bool ((Q.length : Int) == (m : Int))) = _
      rw [c, beq_self_eq_true]
    rw [par_full W P c]
    unfold g_part_web runP f_part_web
    simp -implicitDefEqProofs only [eq_self, r_thn, r_tk, r_tk0, r_ret, r_lift, r_lift0, r_var, r_vk, r_bin, r_un, r_nil, r_cons, r_tup, r_of, r_call, r_tst, r_kt, r_ikT, r_ikF, r_ite, r_if, r_ife, r_and, r_or, r_not, r_vand, r_vor, r_vnot, r_chain, r_hkT, r_hkF, r_part, r_ok, r_sl, r_seq, r_skN, r_skR, r_skF, r_skB, r_skC, r_next, r_retS, r_rk, r_retF, r_rfk, r_drop, r_dk, r_asg, r_gk, r_gk2, gNm, r_tp, r_gs, r_qk, r_gs0, r_froz, r_frk, r_cmk, r_setI, r_stk, r_stk2, r_sti, r_pl, r_stj, r_aug, r_aug1, r_aug2, r_aug3, r_opN, r_par, r_prk, r_callN, r_tupRg, and_self, ixN0, ixN1, ixN2, r_peek, r_pk, r_pkI, r_pkB, r_pkS, r_pkN, r_tpeek, r_bk1, r_bk2, r_frz, r_fzk, r_own, owk, r_frkK, r_ownK, r_ixEd, r_ixEt, r_ixEl, r_inK, r_ninK, r_mk4, r_mk3, r_met, r_mk2, r_callM, r_mk2b, r_callM1, r_lenIs, r_callF, r_mat, r_mtk, r_mEnd, r_mCase, r_for, r_lk, r_items, r_itL, r_itT, r_rng, r_enum, r_zipM, zipM_ok, r_star, starL_ok, starT_ok, enumL_ok, enumT_ok, for_nil, r_lc, r_lck2, lc_nil, r_outM, r_outMn, r_outM1, r_outM1n, r_outD, r_outDf, r_outDn, r_outF, ixL0, ixL1, ixL2, ixT0, ixT1, ixT2, addI_ok, subI_ok, gtI_ok, geI_ok, leI_ok, ltI_ok, lenL_ok, lenT_ok, abs_ok, intB_ok, List.getElem?_cons_zero, List.getElem?_cons_succ, List.length_cons, List.length_nil, List.set_cons_zero, List.set_cons_succ, List.map_cons, List.map_nil, List.cons_append, List.nil_append, List.replicate_succ, List.replicate_zero, Nat.reduceAdd, Nat.reduceSub, Nat.reduceLT, Nat.reduceEqDiff, Option.bind_some, Option.bind_none, Option.map_some, Option.map_none, if_true, if_false, ite_true, ite_false, ↓reduceIte, Bool.not_true, Bool.not_false, np, ln, i0, q, i1, s2]
    rw [c]
    rfl
  · have q : eqD (.int (Q.length : Int)) (.int (m : Int)) = some (.bool false) := by
      show some (PyData.bool ((Q.length : Int) == (m : Int))) = _
      rw [beq_eq_false_iff_ne.mpr (by omega)]
    have m4 : mulI (.int 4) (.int (m : Int)) = some (.int (((4 * m : Nat)) : Int)) := by
      rw [mul_ok 3 7 (by decide) (by decide) (by decide) (by decide) (by omega) (by omega) (by decide)]
      congr 2
    have rp : repN (.list [.int 0]) (.int ((4 * m : Nat) : Int)) = some (tabF (4 * m) fun _ => 0) := by
      have f : ∀ k : Nat, (List.replicate k [PyData.int 0]).flatten = (List.range k).map fun _ => PyData.int 0 := fun k => by
        induction k with
        | zero => rfl
        | succ k ih =>
          rw [List.replicate_succ, List.flatten_cons, ih, List.range_succ_eq_map, List.map_cons, List.map_map]
          rfl
      unfold repN
      dsimp only
      rw [Int.toNat_natCast, f, if_pos ⟨by omega, by omega, by rw [List.length_singleton]; omega⟩]
      rfl
    have en : enumN [.tuple (intsD Q)] = some (prs (ups ((0 : Nat) : Int) Q.length) (intsD Q)) := by
      show some (prs (ups 0 (intsD Q).length) (intsD Q)) = _
      rw [intsD_len]
      rfl
    obtain ⟨a5, a6, a7, e1⟩ := hands_loop (m := m) hm (.d (webD m V)) (.d (.int (i : Int))) (.d (.tuple (intsD Q))) .un .un Q 0 (fun _ => 0) .un .un .un (by omega) P.inr
    have wi := ways_in_ok W hm P
    have inl : (inF Q 0 V).length ≤ 240 := by
      have nd : ((inF Q 0 V).map fun k : Nat => (k : Int)).Nodup := ((inF_up Q V 0).imp (fun {a b} h => by omega : ∀ {a b : Nat}, a < b → (a : Int) ≠ (b : Int))).map _ fun a b h => h
      have := in_len V.length _ nd fun x hx => by
        obtain ⟨k, hk, rfl⟩ := List.mem_map.mp hx
        obtain ⟨j, v, h1, h2, _⟩ := inF_mem.mp hk
        have := (List.getElem?_eq_some_iff.mp h1).1
        omega
      rw [List.length_map] at this
      omega
    have sz1 : Tw.sizeOk (natsD (inF Q 0 V)).length = true := decide_eq_true (by unfold natsD; rw [List.length_map]; omega)
    have inV : ∀ k ∈ inF Q 0 V, ∃ v, V[k]? = some v ∧ v.1 / 4 ∈ Q := fun k hk => by
      obtain ⟨j, v, h1, h2, h3⟩ := inF_mem.mp hk
      have : k = j := by omega
      subst this
      exact ⟨v, h1, h3⟩
    have lc1 : ∀ (s3 s5 s6 s7 : Sl) (L : List Nat), (∀ k ∈ L, ∃ v, V[k]? = some v ∧ v.1 / 4 ∈ Q) → lcF (gNm 8) (Tw.ret true) (fBin ixD (fBin ixD (fVar 0) (Tw.ret (.int 1))) (fVar 8)) [8] (natsD L) [.d (webD m V), .d (.int (i : Int)), .d (.tuple (intsD Q)), s3, .un, s5, s6, s7, .un] =
        some (L.map (fun k => wayD (V.getD k (0, none))), [.d (webD m V), .d (.int (i : Int)), .d (.tuple (intsD Q)), s3, .un, s5, s6, s7, .un]) := fun s3 s5 s6 s7 L hL => by
      induction L with
      | nil => rfl
      | cons k L ih =>
        obtain ⟨v, hv, _⟩ := hL k (List.mem_cons_self ..)
        have ix : ixD (.tuple (V.map wayD)) (.int (k : Int)) = some (wayD (V.getD k (0, none))) := ixTn (by rw [List.getElem?_map, hv, List.getD_eq_getElem?_getD, hv]; rfl)
        exact lc_yes (ρ1 := [.d (webD m V), .d (.int (i : Int)), .d (.tuple (intsD Q)), s3, .un, s5, s6, s7, .d (.int (k : Int))]) (ρ2 := [.d (webD m V), .d (.int (i : Int)), .d (.tuple (intsD Q)), s3, .un, s5, s6, s7, .d (.int (k : Int))]) (ρ3 := [.d (webD m V), .d (.int (i : Int)), .d (.tuple (intsD Q)), s3, .un, s5, s6, s7, .d (.int (k : Int))]) rfl rfl (by simp -implicitDefEqProofs only [eq_self, r_thn, r_tk, r_tk0, r_ret, r_lift, r_lift0, r_var, r_vk, r_bin, r_un, r_nil, r_cons, r_tup, r_of, r_call, r_tst, r_kt, r_ikT, r_ikF, r_ite, r_if, r_ife, r_and, r_or, r_not, r_vand, r_vor, r_vnot, r_chain, r_hkT, r_hkF, r_part, r_ok, r_sl, r_seq, r_skN, r_skR, r_skF, r_skB, r_skC, r_next, r_retS, r_rk, r_retF, r_rfk, r_drop, r_dk, r_asg, r_gk, r_gk2, gNm, r_tp, r_gs, r_qk, r_gs0, r_froz, r_frk, r_cmk, r_setI, r_stk, r_stk2, r_sti, r_pl, r_stj, r_aug, r_aug1, r_aug2, r_aug3, r_opN, r_par, r_prk, r_callN, r_tupRg, and_self, ixN0, ixN1, ixN2, r_peek, r_pk, r_pkI, r_pkB, r_pkS, r_pkN, r_tpeek, r_bk1, r_bk2, r_frz, r_fzk, r_own, owk, r_frkK, r_ownK, r_ixEd, r_ixEt, r_ixEl, r_inK, r_ninK, r_mk4, r_mk3, r_met, r_mk2, r_callM, r_mk2b, r_callM1, r_lenIs, r_callF, r_mat, r_mtk, r_mEnd, r_mCase, r_for, r_lk, r_items, r_itL, r_itT, r_rng, r_enum, r_zipM, zipM_ok, r_star, starL_ok, starT_ok, enumL_ok, enumT_ok, for_nil, r_lc, r_lck2, lc_nil, r_outM, r_outMn, r_outM1, r_outM1n, r_outD, r_outDf, r_outDn, r_outF, ixL0, ixL1, ixL2, ixT0, ixT1, ixT2, addI_ok, subI_ok, gtI_ok, geI_ok, leI_ok, ltI_ok, lenL_ok, lenT_ok, abs_ok, intB_ok, List.getElem?_cons_zero, List.getElem?_cons_succ, List.length_cons, List.length_nil, List.set_cons_zero, List.set_cons_succ, List.map_cons, List.map_nil, List.cons_append, List.nil_append, List.replicate_succ, List.replicate_zero, Nat.reduceAdd, Nat.reduceSub, Nat.reduceLT, Nat.reduceEqDiff, Option.bind_some, Option.bind_none, Option.map_some, Option.map_none, if_true, if_false, ite_true, ite_false, ↓reduceIte, Bool.not_true, Bool.not_false, i1, ix]) (ih fun x hx => hL x (List.mem_cons_of_mem _ hx))
    have tget : ∀ h, 0 ≤ h ∧ h < ((4 * m : Nat) : Int) → h / 4 ∈ Q → ixD (.list (tabF (4 * m) (hF 0 Q fun _ => 0))) (.int h) = some (.int (rel Q h)) := fun h h0 hq => by
      obtain ⟨j, rfl⟩ : ∃ j : Nat, h = (j : Int) := ⟨h.toNat, by omega⟩
      rw [← hF_rel P.nd (f := fun _ => 0) hq]
      exact ixLn (tabF_get (by omega))
    have lc2 : ∀ (s4 s5 s6 s7 : Sl) (L : List Nat), (∀ k ∈ L, ∃ v, V[k]? = some v ∧ v.1 / 4 ∈ Q) → lcF (gNm 8) (Tw.ret true) (fIf (fTst (fBin eqD (fCall lenD (fCons (fVar 8) fNil)) (Tw.ret (.int 2)))) (fTup (fCons (fBin ixD (fVar 3) (fBin ixD (fVar 8) (Tw.ret (.int 0)))) (fCons (fBin ixD (fVar 3) (fBin ixD (fVar 8) (Tw.ret (.int 1)))) fNil))) (fTup (fCons (fBin ixD (fVar 3) (fBin ixD (fVar 8) (Tw.ret (.int 0)))) fNil))) [8] (L.map fun k => wayD (V.getD k (0, none))) [.d (webD m V), .d (.int (i : Int)), .d (.tuple (intsD Q)), .d (.list (tabF (4 * m) (hF 0 Q fun _ => 0))), s4, s5, s6, s7, .un] =
        some ((L.map fun k => relW Q (V.getD k (0, none))).map wayD, [.d (webD m V), .d (.int (i : Int)), .d (.tuple (intsD Q)), .d (.list (tabF (4 * m) (hF 0 Q fun _ => 0))), s4, s5, s6, s7, .un]) := fun s4 s5 s6 s7 L hL => by
      induction L with
      | nil => rfl
      | cons k L ih =>
        obtain ⟨v, hv, hq⟩ := hL k (List.mem_cons_self ..)
        have ev : V.getD k (0, none) = v := by rw [List.getD_eq_getElem?_getD, hv]; rfl
        have mem := List.mem_of_getElem? hv
        have f0 := whole_first W v mem
        have g1 := tget v.1 f0 hq
        have ih' := ih fun x hx => hL x (List.mem_cons_of_mem _ hx)
        rw [List.map_cons, List.map_cons, List.map_cons, ev]
        obtain ⟨x, b⟩ := v
        cases b with
        | none =>
          have e2 : eqD (.int ((1 : Nat) : Int)) (.int 2) = some (.bool false) := rfl
          refine lc_yes (ρ1 := [.d (webD m V), .d (.int (i : Int)), .d (.tuple (intsD Q)), .d (.list (tabF (4 * m) (hF 0 Q fun _ => 0))), s4, s5, s6, s7, .d (.tuple [.int x])]) (ρ2 := [.d (webD m V), .d (.int (i : Int)), .d (.tuple (intsD Q)), .d (.list (tabF (4 * m) (hF 0 Q fun _ => 0))), s4, s5, s6, s7, .d (.tuple [.int x])]) (ρ3 := [.d (webD m V), .d (.int (i : Int)), .d (.tuple (intsD Q)), .d (.list (tabF (4 * m) (hF 0 Q fun _ => 0))), s4, s5, s6, s7, .d (.tuple [.int x])]) rfl rfl ?_ ih'
          simp -implicitDefEqProofs only [eq_self, r_thn, r_tk, r_tk0, r_ret, r_lift, r_lift0, r_var, r_vk, r_bin, r_un, r_nil, r_cons, r_tup, r_of, r_call, r_tst, r_kt, r_ikT, r_ikF, r_ite, r_if, r_ife, r_and, r_or, r_not, r_vand, r_vor, r_vnot, r_chain, r_hkT, r_hkF, r_part, r_ok, r_sl, r_seq, r_skN, r_skR, r_skF, r_skB, r_skC, r_next, r_retS, r_rk, r_retF, r_rfk, r_drop, r_dk, r_asg, r_gk, r_gk2, gNm, r_tp, r_gs, r_qk, r_gs0, r_froz, r_frk, r_cmk, r_setI, r_stk, r_stk2, r_sti, r_pl, r_stj, r_aug, r_aug1, r_aug2, r_aug3, r_opN, r_par, r_prk, r_callN, r_tupRg, and_self, ixN0, ixN1, ixN2, r_peek, r_pk, r_pkI, r_pkB, r_pkS, r_pkN, r_tpeek, r_bk1, r_bk2, r_frz, r_fzk, r_own, owk, r_frkK, r_ownK, r_ixEd, r_ixEt, r_ixEl, r_inK, r_ninK, r_mk4, r_mk3, r_met, r_mk2, r_callM, r_mk2b, r_callM1, r_lenIs, r_callF, r_mat, r_mtk, r_mEnd, r_mCase, r_for, r_lk, r_items, r_itL, r_itT, r_rng, r_enum, r_zipM, zipM_ok, r_star, starL_ok, starT_ok, enumL_ok, enumT_ok, for_nil, r_lc, r_lck2, lc_nil, r_outM, r_outMn, r_outM1, r_outM1n, r_outD, r_outDf, r_outDn, r_outF, ixL0, ixL1, ixL2, ixT0, ixT1, ixT2, addI_ok, subI_ok, gtI_ok, geI_ok, leI_ok, ltI_ok, lenL_ok, lenT_ok, abs_ok, intB_ok, List.getElem?_cons_zero, List.getElem?_cons_succ, List.length_cons, List.length_nil, List.set_cons_zero, List.set_cons_succ, List.map_cons, List.map_nil, List.cons_append, List.nil_append, List.replicate_succ, List.replicate_zero, Nat.reduceAdd, Nat.reduceSub, Nat.reduceLT, Nat.reduceEqDiff, Option.bind_some, Option.bind_none, Option.map_some, Option.map_none, if_true, if_false, ite_true, ite_false, ↓reduceIte, Bool.not_true, Bool.not_false, e2, g1, s1]
          rfl
        | some g =>
          have e2 : eqD (.int ((2 : Nat) : Int)) (.int 2) = some (.bool true) := rfl
          have g0 : 0 ≤ g ∧ g < ((4 * m : Nat) : Int) := mem_rangeI.mp (W.1.mem_iff.mp (List.mem_flatMap.mpr ⟨_, mem, by simp⟩))
          have g2 := tget g g0 ((cl _ mem g rfl).mp hq)
          refine lc_yes (ρ1 := [.d (webD m V), .d (.int (i : Int)), .d (.tuple (intsD Q)), .d (.list (tabF (4 * m) (hF 0 Q fun _ => 0))), s4, s5, s6, s7, .d (.tuple [.int x, .int g])]) (ρ2 := [.d (webD m V), .d (.int (i : Int)), .d (.tuple (intsD Q)), .d (.list (tabF (4 * m) (hF 0 Q fun _ => 0))), s4, s5, s6, s7, .d (.tuple [.int x, .int g])]) (ρ3 := [.d (webD m V), .d (.int (i : Int)), .d (.tuple (intsD Q)), .d (.list (tabF (4 * m) (hF 0 Q fun _ => 0))), s4, s5, s6, s7, .d (.tuple [.int x, .int g])]) rfl rfl ?_ ih'
          simp -implicitDefEqProofs only [eq_self, r_thn, r_tk, r_tk0, r_ret, r_lift, r_lift0, r_var, r_vk, r_bin, r_un, r_nil, r_cons, r_tup, r_of, r_call, r_tst, r_kt, r_ikT, r_ikF, r_ite, r_if, r_ife, r_and, r_or, r_not, r_vand, r_vor, r_vnot, r_chain, r_hkT, r_hkF, r_part, r_ok, r_sl, r_seq, r_skN, r_skR, r_skF, r_skB, r_skC, r_next, r_retS, r_rk, r_retF, r_rfk, r_drop, r_dk, r_asg, r_gk, r_gk2, gNm, r_tp, r_gs, r_qk, r_gs0, r_froz, r_frk, r_cmk, r_setI, r_stk, r_stk2, r_sti, r_pl, r_stj, r_aug, r_aug1, r_aug2, r_aug3, r_opN, r_par, r_prk, r_callN, r_tupRg, and_self, ixN0, ixN1, ixN2, r_peek, r_pk, r_pkI, r_pkB, r_pkS, r_pkN, r_tpeek, r_bk1, r_bk2, r_frz, r_fzk, r_own, owk, r_frkK, r_ownK, r_ixEd, r_ixEt, r_ixEl, r_inK, r_ninK, r_mk4, r_mk3, r_met, r_mk2, r_callM, r_mk2b, r_callM1, r_lenIs, r_callF, r_mat, r_mtk, r_mEnd, r_mCase, r_for, r_lk, r_items, r_itL, r_itT, r_rng, r_enum, r_zipM, zipM_ok, r_star, starL_ok, starT_ok, enumL_ok, enumT_ok, for_nil, r_lc, r_lck2, lc_nil, r_outM, r_outMn, r_outM1, r_outM1n, r_outD, r_outDf, r_outDn, r_outF, ixL0, ixL1, ixL2, ixT0, ixT1, ixT2, addI_ok, subI_ok, gtI_ok, geI_ok, leI_ok, ltI_ok, lenL_ok, lenT_ok, abs_ok, intB_ok, List.getElem?_cons_zero, List.getElem?_cons_succ, List.length_cons, List.length_nil, List.set_cons_zero, List.set_cons_succ, List.map_cons, List.map_nil, List.cons_append, List.nil_append, List.replicate_succ, List.replicate_zero, Nat.reduceAdd, Nat.reduceSub, Nat.reduceLT, Nat.reduceEqDiff, Option.bind_some, Option.bind_none, Option.map_some, Option.map_none, if_true, if_false, ite_true, ite_false, ↓reduceIte, Bool.not_true, Bool.not_false, e2, g1, g2, s2]
          rfl
    have sz2 : Tw.sizeOk ((inF Q 0 V).map fun k => wayD (V.getD k (0, none))).length = true := decide_eq_true (by rw [List.length_map]; omega)
    have l1 := fun s3 s5 s6 s7 => lc1 s3 s5 s6 s7 (inF Q 0 V) inV
    have l2 := fun s4 s5 s6 s7 => lc2 s4 s5 s6 s7 (inF Q 0 V) inV
    have tl : ∀ ds : List PyData, tupleD [.list ds] = some (.tuple ds) := fun _ => rfl
    unfold g_part_web runP f_part_web
    simp -implicitDefEqProofs only [eq_self, r_thn, r_tk, r_tk0, r_ret, r_lift, r_lift0, r_var, r_vk, r_bin, r_un, r_nil, r_cons, r_tup, r_of, r_call, r_tst, r_kt, r_ikT, r_ikF, r_ite, r_if, r_ife, r_and, r_or, r_not, r_vand, r_vor, r_vnot, r_chain, r_hkT, r_hkF, r_part, r_ok, r_sl, r_seq, r_skN, r_skR, r_skF, r_skB, r_skC, r_next, r_retS, r_rk, r_retF, r_rfk, r_drop, r_dk, r_asg, r_gk, r_gk2, gNm, r_tp, r_gs, r_qk, r_gs0, r_froz, r_frk, r_cmk, r_setI, r_stk, r_stk2, r_sti, r_pl, r_stj, r_aug, r_aug1, r_aug2, r_aug3, r_opN, r_par, r_prk, r_callN, r_tupRg, and_self, ixN0, ixN1, ixN2, r_peek, r_pk, r_pkI, r_pkB, r_pkS, r_pkN, r_tpeek, r_bk1, r_bk2, r_frz, r_fzk, r_own, owk, r_frkK, r_ownK, r_ixEd, r_ixEt, r_ixEl, r_inK, r_ninK, r_mk4, r_mk3, r_met, r_mk2, r_callM, r_mk2b, r_callM1, r_lenIs, r_callF, r_mat, r_mtk, r_mEnd, r_mCase, r_for, r_lk, r_items, r_itL, r_itT, r_rng, r_enum, r_zipM, zipM_ok, r_star, starL_ok, starT_ok, enumL_ok, enumT_ok, for_nil, r_lc, r_lck2, lc_nil, r_outM, r_outMn, r_outM1, r_outM1n, r_outD, r_outDf, r_outDn, r_outF, ixL0, ixL1, ixL2, ixT0, ixT1, ixT2, addI_ok, subI_ok, gtI_ok, geI_ok, leI_ok, ltI_ok, lenL_ok, lenT_ok, abs_ok, intB_ok, List.getElem?_cons_zero, List.getElem?_cons_succ, List.length_cons, List.length_nil, List.set_cons_zero, List.set_cons_succ, List.map_cons, List.map_nil, List.cons_append, List.nil_append, List.replicate_succ, List.replicate_zero, Nat.reduceAdd, Nat.reduceSub, Nat.reduceLT, Nat.reduceEqDiff, Option.bind_some, Option.bind_none, Option.map_some, Option.map_none, if_true, if_false, ite_true, ite_false, ↓reduceIte, Bool.not_true, Bool.not_false, np, ln, i0, q, s1, m4, rp, en, e1, wi, r_lck sz1, r_lck sz2, wipeR, l1, backR, l2, tl, s2]
    rfl
end
end Lw

set_option Elab.async false
set_option linter.all false
set_option maxRecDepth 100000
set_option maxHeartbeats 4000000
namespace Lw
open PySem PySem.Spec PyProof.Rows L2 Tw
/-! ### a part is a web; its ways, its table -/
def bk (Q : List Int) (h : Int) : Int := 4 * Q.getD (h / 4).toNat 0 + h % 4
theorem map_ndP {f : Int → Int} : ∀ {L : List Int}, L.Nodup → (∀ a ∈ L, ∀ b ∈ L, f a = f b → a = b) → (L.map f).Nodup
  | [], _, _ => .nil
  | a :: L, nd, h => by
    obtain ⟨n1, n2⟩ := List.nodup_cons.mp nd
    rw [List.map_cons]
    refine List.nodup_cons.mpr ⟨fun q => ?_, map_ndP n2 fun x hx y hy => h x (List.mem_cons_of_mem _ hx) y (List.mem_cons_of_mem _ hy)⟩
    obtain ⟨b, hb, e⟩ := List.mem_map.mp q
    have := h a (List.mem_cons_self ..) b (List.mem_cons_of_mem _ hb) e.symm
    exact n1 (this ▸ hb)
section
variable {m : Nat} {V : List (Int × Option Int)} {B : List PyData} {Q : List Int}
theorem rel_div (h : Int) : rel Q h / 4 = ((Q.idxOf (h / 4) : Nat) : Int) := by unfold rel; omega
theorem rel_mod (h : Int) : rel Q h % 4 = h % 4 := by unfold rel; omega
theorem rel_in {h : Int} (hq : h / 4 ∈ Q) : 0 ≤ rel Q h ∧ rel Q h < ((4 * Q.length : Nat) : Int) := by
  have := List.idxOf_lt_length_of_mem hq
  unfold rel
  omega
theorem bk_rel {h : Int} (hq : h / 4 ∈ Q) : bk Q (rel Q h) = h := by
  unfold bk
  rw [rel_div, rel_mod, Int.toNat_natCast, List.getD_eq_getElem?_getD, idx_get hq]
  show 4 * (h / 4) + h % 4 = h
  omega
theorem bk_in (P : PostsQ m Q) {h : Int} (h0 : 0 ≤ h ∧ h < ((4 * Q.length : Nat) : Int)) : bk Q h / 4 ∈ Q ∧ (0 ≤ bk Q h ∧ bk Q h < ((4 * m : Nat) : Int)) ∧ rel Q (bk Q h) = h := by
  have lt : (h / 4).toNat < Q.length := by omega
  have e : Q.getD (h / 4).toNat 0 = Q[(h / 4).toNat] := by rw [List.getD_eq_getElem?_getD, List.getElem?_eq_getElem lt]; rfl
  have mem : Q[(h / 4).toNat] ∈ Q := List.getElem_mem lt
  have q0 := P.inr _ mem
  have ed : bk Q h / 4 = Q[(h / 4).toNat] := by unfold bk; rw [e]; omega
  have em : bk Q h % 4 = h % 4 := by unfold bk; omega
  refine ⟨by rw [ed]; exact mem, by unfold bk; rw [e]; omega, ?_⟩
  unfold rel
  rw [ed, em]
  have ei : Q.idxOf Q[(h / 4).toNat] = (h / 4).toNat := by
    have g := idx_get mem
    have l2 := List.idxOf_lt_length_of_mem mem
    rw [List.getElem?_eq_getElem l2] at g
    have g := Option.some.inj g
    exact (List.getElem_inj P.nd).mp g
  rw [ei]
  omega
theorem idx_lt (P : PostsQ m Q) {p q : Int} (hp : p ∈ Q) (hq : q ∈ Q) (h : p < q) : Q.idxOf p < Q.idxOf q := by
  have lp := List.idxOf_lt_length_of_mem hp
  have lq := List.idxOf_lt_length_of_mem hq
  have ep : Q[Q.idxOf p] = p := List.getElem_idxOf lp
  have eq : Q[Q.idxOf q] = q := List.getElem_idxOf lq
  rcases Nat.lt_or_ge (Q.idxOf p) (Q.idxOf q) with c | c
  · exact c
  · exfalso
    rcases Nat.lt_or_ge (Q.idxOf q) (Q.idxOf p) with d | d
    · have := List.pairwise_iff_getElem.mp P.up _ _ lq lp d
      omega
    · have : Q.idxOf p = Q.idxOf q := by omega
      have e : Q[Q.idxOf p] = Q[Q.idxOf q] := by congr 1
      omega
theorem rel_lt (P : PostsQ m Q) {h g : Int} (hq : h / 4 ∈ Q) (gq : g / 4 ∈ Q) (c : h < g) : rel Q h < rel Q g := by
  by_cases d : h / 4 = g / 4
  · unfold rel
    rw [d]
    omega
  · have := idx_lt P hq gq (by omega)
    unfold rel
    omega
theorem rel_inj (P : PostsQ m Q) {h g : Int} (hq : h / 4 ∈ Q) (gq : g / 4 ∈ Q) (e : rel Q h = rel Q g) : h = g := by
  rw [← bk_rel hq, e, bk_rel gq]
theorem inF_filter (Q : List Int) (W : List (Int × Option Int)) : ∀ (U : List (Int × Option Int)) (k : Nat), W.drop k = U → (inF Q k U).map (fun j => W.getD j (0, none)) = U.filter fun v => decide (v.1 / 4 ∈ Q)
  | [], k, _ => rfl
  | v :: U, k, e => by
    have hk : W[k]? = some v := by
      have : (W.drop k)[0]? = some v := by rw [e]; rfl
      rw [List.getElem?_drop, Nat.add_zero] at this
      exact this
    have e2 : W.drop (k + 1) = U := by rw [← List.tail_drop, e]; rfl
    have ih := inF_filter Q W U (k + 1) e2
    unfold inF
    by_cases c : v.1 / 4 ∈ Q
    · rw [if_pos c, List.map_cons, ih, List.filter_cons_of_pos (p := fun v : Int × Option Int => decide (v.1 / 4 ∈ Q)) (decide_eq_true c), List.getD_eq_getElem?_getD, hk]
      rfl
    · rw [if_neg c, ih, List.filter_cons_of_neg (p := fun v : Int × Option Int => decide (v.1 / 4 ∈ Q)) (by rw [decide_eq_false c]; decide)]
def inS (V : List (Int × Option Int)) (Q : List Int) : List (Int × Option Int) := V.filter fun v => decide (v.1 / 4 ∈ Q)
theorem parW_eq (V : List (Int × Option Int)) (Q : List Int) : parW V Q = (inS V Q).map (relW Q) := by
  unfold parW inS
  rw [← inF_filter Q V V 0 rfl, List.map_map]
  rfl
theorem inS_mem {v : Int × Option Int} : v ∈ inS V Q ↔ v ∈ V ∧ v.1 / 4 ∈ Q := by
  unfold inS
  rw [List.mem_filter, decide_eq_true_iff]
theorem inS_hands (cl : ClosedQ V Q) {v : Int × Option Int} (hv : v ∈ inS V Q) : ∀ h ∈ handsW v, h / 4 ∈ Q := fun h hh => by
  obtain ⟨h1, h2⟩ := inS_mem.mp hv
  rcases List.mem_cons.mp hh with e | e
  · rw [e]; exact h2
  · cases e2 : v.2 with
    | none => rw [e2] at e; cases e
    | some g =>
      rw [e2] at e
      rw [List.mem_singleton.mp (show h ∈ [g] from e)]
      exact (cl v h1 g e2).mp h2
theorem handsW_rel (v : Int × Option Int) : handsW (relW Q v) = (handsW v).map (rel Q) := by
  obtain ⟨a, b⟩ := v
  cases b <;> rfl
theorem flat_par : flatW (parW V Q) = (flatW (inS V Q)).map (rel Q) := by
  rw [parW_eq]
  show ((inS V Q).map (relW Q)).flatMap handsW = ((inS V Q).flatMap handsW).map (rel Q)
  rw [List.flatMap_map, List.map_flatMap]
  congr 1
  funext v
  exact handsW_rel v
theorem flat_inS (W : whole (4 * m) V) (cl : ClosedQ V Q) {h : Int} : h ∈ flatW (inS V Q) ↔ (0 ≤ h ∧ h < ((4 * m : Nat) : Int)) ∧ h / 4 ∈ Q := by
  constructor
  · intro q
    obtain ⟨v, hv, hh⟩ := List.mem_flatMap.mp q
    exact ⟨mem_rangeI.mp (W.1.mem_iff.mp (List.mem_flatMap.mpr ⟨v, (inS_mem.mp hv).1, hh⟩)), inS_hands cl hv h hh⟩
  · rintro ⟨h0, hq⟩
    obtain ⟨v, hv, hh⟩ := List.mem_flatMap.mp (W.1.mem_iff.mpr (mem_rangeI.mpr h0))
    refine List.mem_flatMap.mpr ⟨v, inS_mem.mpr ⟨hv, ?_⟩, hh⟩
    rcases List.mem_cons.mp hh with e | e
    · rw [← e]; exact hq
    · cases e2 : v.2 with
      | none => rw [e2] at e; cases e
      | some g =>
        rw [e2] at e
        have eg : h = g := List.mem_singleton.mp (show h ∈ [g] from e)
        exact (cl v hv g e2).mpr (by rw [← eg]; exact hq)
theorem flatW_subP {U V : List (Int × Option Int)} (h : U.Sublist V) : (flatW U).Sublist (flatW V) := by
  induction h with
  | slnil => exact List.Sublist.refl _
  | cons v _ ih => exact ih.trans (List.sublist_append_right _ _)
  | cons_cons v _ ih => exact List.Sublist.append (List.Sublist.refl _) ih
theorem par_whole (W : whole (4 * m) V) (P : PostsQ m Q) (cl : ClosedQ V Q) : whole (4 * Q.length) (parW V Q) := by
  have sub : (inS V Q).Sublist V := List.filter_sublist
  have nd : (flatW V).Nodup := W.1.nodup_iff.mpr (nodup_rangeI (4 * m))
  have nds : (flatW (inS V Q)).Nodup := List.Nodup.sublist (flatW_subP sub) nd
  refine ⟨?_, ?_, fun w hw g hg => ?_⟩
  · rw [flat_par]
    refine (List.perm_ext_iff_of_nodup (map_ndP nds fun a ha b hb e => ?_) (nodup_rangeI _)).mpr fun x => ?_
    · exact rel_inj P ((flat_inS W cl).mp ha).2 ((flat_inS W cl).mp hb).2 e
    · rw [mem_rangeI]
      constructor
      · intro q
        obtain ⟨h, hh, rfl⟩ := List.mem_map.mp q
        exact rel_in ((flat_inS W cl).mp hh).2
      · intro q
        obtain ⟨b1, b2, b3⟩ := bk_in P q
        exact List.mem_map.mpr ⟨bk Q x, (flat_inS W cl).mpr ⟨b2, b1⟩, b3⟩
  · rw [parW_eq]
    have up : (inS V Q).Pairwise fun v w => v.1 < w.1 := List.Pairwise.filter _ W.2.1
    refine List.Pairwise.map (R := fun v w => v.1 < w.1 ∧ v ∈ inS V Q ∧ w ∈ inS V Q) (relW Q) (fun v w h => ?_) (List.Pairwise.imp_of_mem (fun {v w} hv hw h => ⟨h, hv, hw⟩) up)
    exact rel_lt P (inS_mem.mp h.2.1).2 (inS_mem.mp h.2.2).2 h.1
  · rw [parW_eq] at hw
    obtain ⟨v, hv, rfl⟩ := List.mem_map.mp hw
    obtain ⟨g', e, rfl⟩ := Option.map_eq_some_iff.mp (show v.2.map (rel Q) = some g from hg)
    obtain ⟨h1, h2⟩ := inS_mem.mp hv
    exact rel_lt P h2 ((cl v h1 g' e).mp h2) (W.2.2 v h1 g' e)
theorem XB_ofP (t : Tab (4 * m) V B) {v : Int × Option Int} (hv : v ∈ V) : (v.2 = none → XB B v.1 = none) ∧ ∀ g, v.2 = some g → XB B v.1 = some g ∧ XB B g = some v.1 := by
  refine ⟨fun e => ?_, fun g e => ?_⟩
  · unfold XB
    rw [t.one v hv e]
  · obtain ⟨h1, h2⟩ := t.two v hv g e
    unfold XB
    rw [h1, h2]
    exact ⟨rfl, rfl⟩
theorem XB_par (W : whole (4 * m) V) (t : Tab (4 * m) V B) (cl : ClosedQ V Q) {B' : List PyData} (t' : Tab (4 * Q.length) (parW V Q) B') {h : Int} (h0 : 0 ≤ h ∧ h < ((4 * m : Nat) : Int)) (hq : h / 4 ∈ Q) : XB B' (rel Q h) = (XB B h).map (rel Q) := by
  obtain ⟨v, hv, hh⟩ := List.mem_flatMap.mp ((flat_inS W cl).mpr ⟨h0, hq⟩)
  have hm' : relW Q v ∈ parW V Q := by rw [parW_eq]; exact List.mem_map.mpr ⟨v, hv, rfl⟩
  obtain ⟨a1, a2⟩ := XB_ofP t (inS_mem.mp hv).1
  obtain ⟨b1, b2⟩ := XB_ofP t' hm'
  cases e : v.2 with
  | none =>
    have eh : h = v.1 := by
      rcases List.mem_cons.mp hh with q | q
      · exact q
      · rw [e] at q; cases q
    have e' : (relW Q v).2 = none := by show v.2.map (rel Q) = none; rw [e]; rfl
    have := b1 e'
    rw [eh, a1 e]
    exact this
  | some g =>
    obtain ⟨c1, c2⟩ := a2 g e
    have e' : (relW Q v).2 = some (rel Q g) := by show v.2.map (rel Q) = some (rel Q g); rw [e]; rfl
    obtain ⟨d1, d2⟩ := b2 _ e'
    rcases List.mem_cons.mp hh with q | q
    · rw [q, c1]
      exact d1
    · rw [e] at q
      rw [List.mem_singleton.mp (show h ∈ [g] from q), c2]
      exact d2
/-- a web that hangs together has one part -/
theorem one_part {n : Nat} {X : Int → Option Int} {T : Int → Int} (N : Net (4 * n) X T) (hn : n ≤ 900) (h1 : 0 < n) (con : ∀ p, 0 ≤ p ∧ p < (n : Int) → ReachP X 0 p) : partsR n X = [rangeI n] := by
  obtain ⟨P, cov⟩ := parts_all N hn
  have h0 := cov 0 (by omega)
  obtain ⟨A, hA, a0⟩ := List.mem_flatten.mp h0
  have rc : ∀ p, ReachP X 0 p → p ∈ A := fun p h => by
    induction h with
    | refl => exact a0
    | step _ a ih => exact P.cl A hA _ ih _ a
  have eA : A = rangeI n := eq_of_rise (P.up A hA) (range_up n) fun x => ⟨fun q => mem_rangeI.mpr (P.inr x (List.mem_flatten.mpr ⟨A, hA, q⟩)), fun q => rc x (con x (mem_rangeI.mp q))⟩
  obtain ⟨i, hi⟩ := List.mem_iff_getElem?.mp hA
  have all : ∀ C ∈ partsR n X, ∃ c, c ∈ C ∧ c ∈ A := fun C hC => by
    obtain ⟨f, hf, _⟩ := P.one C hC
    exact ⟨f, hf, by rw [eA]; exact mem_rangeI.mpr (P.inr f (List.mem_flatten.mpr ⟨C, hC, hf⟩))⟩
  have dis := List.pairwise_flatten.mp P.nd
  match hR : partsR n X with
  | [] => rw [hR] at hA; cases hA
  | [C] =>
    rw [hR] at hA
    rw [← List.mem_singleton.mp hA, eA]
  | C :: D :: R =>
    exfalso
    rw [hR] at dis all hA
    obtain ⟨c, hc, hcA⟩ := all C (List.mem_cons_self ..)
    obtain ⟨d, hd, hdA⟩ := all D (List.mem_cons_of_mem _ (List.mem_cons_self ..))
    obtain ⟨q1, q2⟩ := List.pairwise_cons.mp dis.2
    rcases List.mem_cons.mp hA with e | hA'
    · rw [e] at hdA
      exact q1 D (List.mem_cons_self ..) d hdA d hd rfl
    · exact q1 A hA' c hc c hcA rfl
theorem reach_sym {n : Nat} {X : Int → Option Int} {T : Int → Int} (N : Net (4 * n) X T) {p q : Int} (hp : 0 ≤ p ∧ p < (n : Int)) (h : ReachP X p q) : (0 ≤ q ∧ q < (n : Int)) ∧ ∀ r, ReachP X p r → ReachP X q r := by
  induction h with
  | refl => exact ⟨hp, fun r h => h⟩
  | step _ a ih =>
    obtain ⟨i1, i2⟩ := ih
    refine ⟨adjP_in N i1 a, fun r hr => ?_⟩
    have back := adjP_sym N i1 a
    have := i2 r hr
    clear i2 hr
    induction this with
    | refl => exact .step .refl back
    | step _ b ih2 => exact .step ih2 b
theorem reach_par (W : whole (4 * m) V) (t : Tab (4 * m) V B) (P : PostsQ m Q) (cl : ClosedQ V Q) (cq : ∀ p ∈ Q, ∀ q, adjP (XB B) p q → q ∈ Q) {B' : List PyData} (t' : Tab (4 * Q.length) (parW V Q) B') {p q : Int} (hp : p ∈ Q) (h : ReachP (XB B) p q) : q ∈ Q ∧ ReachP (XB B') ((Q.idxOf p : Nat) : Int) ((Q.idxOf q : Nat) : Int) := by
  induction h with
  | refl => exact ⟨hp, .refl⟩
  | @step x y _ a ih =>
    obtain ⟨i1, i2⟩ := ih
    have yq := cq x i1 y a
    refine ⟨yq, .step i2 ?_⟩
    obtain ⟨r, g, hr, hx, eg⟩ := a
    have x0 := P.inr x i1
    have xp := XB_par W t cl t' (h := 4 * x + r) (by omega) (by rw [show (4 * x + r) / 4 = x by omega]; exact i1)
    rw [hx] at xp
    refine ⟨r, rel Q g, hr, ?_, ?_⟩
    · have e : rel Q (4 * x + r) = 4 * ((Q.idxOf x : Nat) : Int) + r := by
        unfold rel
        rw [show (4 * x + r) / 4 = x by omega, show (4 * x + r) % 4 = r by omega]
      rw [← e]
      exact xp
    · rw [rel_div, eg]
end
end Lw

set_option Elab.async false
set_option linter.all false
set_option maxRecDepth 100000
set_option maxHeartbeats 4000000
namespace Lw
open PySem PySem.Spec PyProof.Rows L2 Tw
/-! ### the law's look at a part -/
theorem ne_same (z : Str) : neD (.str z) (.str z) = some (.bool false) := by
  show some (PyData.bool (!(z == z))) = _
  rw [beq_self_eq_true]
  rfl
theorem fewI_fn {L : List Int} {l c : Bool} {n : Nat} (h : ∀ i ∈ L, -10 ≤ i ∧ i < 1000) (hl : L.length ≤ n) : FnL l c (21 * n) 0 (intsD L) :=
  FnL.all (W1 := 20) n (by rw [intsD_len]; exact hl) fun d hd => by
    obtain ⟨i, hi, rfl⟩ := List.mem_map.mp hd
    exact many_fn (h i hi)
def zipTN : List PyData → Option (List PyData)
  | [.list ds, .list es] => some (prs ds es)
  | [.tuple ds, .tuple es] => some (prs ds es)
  | _ => none
theorem r_zipP {r : FE (List PyData)} {ρ : Rho} : fZip r ρ = tk (r ρ) fun xs => liftO (zipTN xs) := rfl
theorem zipT_ok {ds es : List PyData} : zipTN [.tuple ds, .tuple es] = some (prs ds es) := rfl
theorem prs_map {α : Type} (a b : α → PyData) : ∀ L : List α, prs (L.map a) (L.map b) = L.map fun j => .tuple [a j, b j]
  | [] => rfl
  | x :: L => by
    show PyData.tuple [a x, b x] :: prs (L.map a) (L.map b) = _
    rw [prs_map a b L]
    rfl
theorem plain_intsP : ∀ A : List Int, PyData.plainAll (intsD A) = true
  | [] => rfl
  | a :: A => plain_intsP A
theorem depth_intsP : ∀ A : List Int, PyData.depthAll (intsD A) = 0
  | [] => rfl
  | a :: A => by
    show max 0 (PyData.depthAll (intsD A)) = 0
    rw [depth_intsP A]
    rfl
theorem flat_tupI (A : List Int) : flatOk (.tuple (intsD A)) = true := by
  have hp : PyData.plain (.tuple (intsD A)) = true := plain_intsP A
  exact Bool.and_eq_true_iff.mpr ⟨hp, decide_eq_true (by show PyData.depthAll (intsD A) + 1 ≤ 60; rw [depth_intsP]; decide)⟩
theorem ne_tupI (A : List Int) : neD (.tuple (intsD A)) (.tuple (intsD A)) = some (.bool false) := by
  have u : unlen (.tuple (intsD A)) (.tuple (intsD A)) = false := rfl
  have e : PyData.eqv (.tuple (intsD A)) (.tuple (intsD A)) = true := PySem.SeqAt.eqv_refl_plain _ (flatOk_of (flat_tupI A)).1
  unfold neD
  rw [if_neg (by rw [u]; decide), if_pos (by rw [flat_tupI]; rfl), e, Bool.not_true]
theorem wayD_handsP (v : Int × Option Int) : wayD v = .tuple (intsD (handsW v)) := by
  obtain ⟨a, b⟩ := v
  cases b <;> rfl
theorem ups_intP (n : Nat) : ups 0 n = intsD (rangeI n) := by
  unfold ups rangeI intsD
  rw [List.map_map]
  refine List.map_congr_left fun i _ => ?_
  show PyData.int (0 + (i : Int)) = PyData.int (i : Int)
  rw [Int.zero_add]
section
variable {m : Nat} {V : List (Int × Option Int)} {B : List PyData} {Q : List Int}
theorem need_handP (t : Tab (4 * m) V B) {h : Int} (h0 : 0 ≤ h ∧ h < ((4 * m : Nat) : Int)) : g_is_below [.int h, .int ((4 * m : Nat) : Int)] = some (.bool true) := by
  rw [below_ok, decide_eq_true h0]
theorem pacross_ok (W : whole (4 * m) V) (t : Tab (4 * m) V B) (hw : g_need_web [webD m V] = some (.list B)) {h : Int} (h0 : 0 ≤ h ∧ h < ((4 * m : Nat) : Int)) : g_across [webD m V, .int h] = some (xD (XB B h)) := by
  have ln : lenD [.list B] = some (.int ((4 * m : Nat) : Int)) := by
    show some (PyData.int ((B.length : Nat) : Int)) = _
    rw [t.len]
  have bl : g_is_below [.int h, .int ((4 * m : Nat) : Int)] = some (.bool true) := by
    rw [below_ok, decide_eq_true h0]
  have ix := XB_ix W t h0
  unfold g_across runP f_across
  simp -implicitDefEqProofs only [eq_self, r_thn, r_tk, r_tk0, r_ret, r_lift, r_lift0, r_var, r_vk, r_bin, r_un, r_nil, r_cons, r_tup, r_of, r_call, r_tst, r_kt, r_ikT, r_ikF, r_ite, r_if, r_ife, r_and, r_or, r_not, r_vand, r_vor, r_vnot, r_chain, r_hkT, r_hkF, r_part, r_ok, r_sl, r_seq, r_skN, r_skR, r_skF, r_skB, r_skC, r_next, r_retS, r_rk, r_retF, r_rfk, r_drop, r_dk, r_asg, r_gk, r_gk2, gNm, r_tp, r_gs, r_qk, r_gs0, r_froz, r_frk, r_cmk, r_setI, r_stk, r_stk2, r_sti, r_pl, r_stj, r_aug, r_aug1, r_aug2, r_aug3, r_opN, r_par, r_prk, r_callN, r_tupRg, and_self, ixN0, ixN1, ixN2, r_peek, r_pk, r_pkI, r_pkB, r_pkS, r_pkN, r_tpeek, r_bk1, r_bk2, r_frz, r_fzk, r_own, owk, r_frkK, r_ownK, r_ixEd, r_ixEt, r_ixEl, r_inK, r_ninK, r_mk4, r_mk3, r_met, r_mk2, r_callM, r_mk2b, r_callM1, r_lenIs, r_callF, r_mat, r_mtk, r_mEnd, r_mCase, r_for, r_lk, r_items, r_itL, r_itT, r_rng, r_enum, r_zipM, zipM_ok, r_star, starL_ok, starT_ok, enumL_ok, enumT_ok, for_nil, r_lc, r_lck2, lc_nil, r_outM, r_outMn, r_outM1, r_outM1n, r_outD, r_outDf, r_outDn, r_outF, ixL0, ixL1, ixL2, ixT0, ixT1, ixT2, addI_ok, subI_ok, gtI_ok, geI_ok, leI_ok, ltI_ok, lenL_ok, lenT_ok, abs_ok, intB_ok, List.getElem?_cons_zero, List.getElem?_cons_succ, List.length_cons, List.length_nil, List.set_cons_zero, List.set_cons_succ, List.map_cons, List.map_nil, List.cons_append, List.nil_append, List.replicate_succ, List.replicate_zero, Nat.reduceAdd, Nat.reduceSub, Nat.reduceLT, Nat.reduceEqDiff, Option.bind_some, Option.bind_none, Option.map_some, Option.map_none, if_true, if_false, ite_true, ite_false, ↓reduceIte, Bool.not_true, Bool.not_false, hw, ln, bl, ix]

theorem bk_ev (P : PostsQ m Q) (hm : m ≤ 60) {h : Int} (h0 : 0 ≤ h ∧ h < ((4 * Q.length : Nat) : Int)) : ∃ q : Int, fdivD (.int h) (.int 4) = some (.int (h / 4)) ∧ ixD (.tuple (intsD Q)) (.int (h / 4)) = some (.int q) ∧ mulI (.int 4) (.int q) = some (.int (4 * q)) ∧ modD (.int h) (.int 4) = some (.int (h % 4)) ∧ 4 * q + h % 4 = bk Q h := by
  obtain ⟨j, hj⟩ : ∃ j : Nat, h / 4 = (j : Int) := ⟨(h / 4).toNat, by omega⟩
  have lt : j < Q.length := by omega
  have mem : Q[j] ∈ Q := List.getElem_mem lt
  have q0 := P.inr _ mem
  have fd : fdivD (.int h) (.int 4) = some (.int (h / 4)) := by
    rw [fdiv_ok (i := h) (j := 4) 3 (by decide) (by decide) (by decide) (by decide)]
  have md : modD (.int h) (.int 4) = some (.int (h % 4)) := mod_ok (by decide)
  refine ⟨Q[j], fd, ?_, mul_ok 3 7 (by decide) (by decide) (by decide) (by decide) (by omega) (by omega) (by decide), md, ?_⟩
  · rw [hj]
    exact ixTn (by unfold intsD; rw [List.getElem?_map, List.getElem?_eq_getElem lt]; rfl)
  · unfold bk
    rw [hj, Int.toNat_natCast, List.getD_eq_getElem?_getD, List.getElem?_eq_getElem lt]
    rfl
theorem back_lc (P : PostsQ m Q) (hm : m ≤ 60) (s0 s1 s3 s4 s6 s7 s8 s9 : Sl) : ∀ L : List Int, (∀ h ∈ L, 0 ≤ h ∧ h < ((4 * Q.length : Nat) : Int)) →
    lcF (gNm 5) (Tw.ret true) (fBin addD (fBin mulI (Tw.ret (.int 4)) (fBin ixD (fVar 2) (fBin fdivD (fVar 5) (Tw.ret (.int 4))))) (fBin modD (fVar 5) (Tw.ret (.int 4)))) [5] (intsD L) [s0, s1, .d (.tuple (intsD Q)), s3, s4, .un, s6, s7, s8, s9] = some (intsD (L.map (bk Q)), [s0, s1, .d (.tuple (intsD Q)), s3, s4, .un, s6, s7, s8, s9])
  | [], _ => rfl
  | h :: L, hL => by
    have ih := back_lc P hm s0 s1 s3 s4 s6 s7 s8 s9 L fun x hx => hL x (List.mem_cons_of_mem _ hx)
    obtain ⟨q, e1, e2, e3, e4, e5⟩ := bk_ev P hm (hL h (List.mem_cons_self ..))
    have ad : addD (.int (4 * q)) (.int (h % 4)) = some (.int (bk Q h)) := by rw [← e5]; rfl
    exact lc_yes (ρ1 := [s0, s1, .d (.tuple (intsD Q)), s3, s4, .d (.int h), s6, s7, s8, s9]) (ρ2 := [s0, s1, .d (.tuple (intsD Q)), s3, s4, .d (.int h), s6, s7, s8, s9]) (ρ3 := [s0, s1, .d (.tuple (intsD Q)), s3, s4, .d (.int h), s6, s7, s8, s9]) rfl rfl (by
      show fBin addD _ _ _ = some (PyData.int (bk Q h), _)
      have ad' := ad
      have ae : addD (.int (4 * q)) (.int (h % 4)) = some (.int (4 * q + h % 4)) := rfl
      simp -implicitDefEqProofs only [eq_self, r_thn, r_tk, r_tk0, r_ret, r_lift, r_lift0, r_var, r_vk, r_bin, r_un, r_nil, r_cons, r_tup, r_of, r_call, r_tst, r_kt, r_ikT, r_ikF, r_ite, r_if, r_ife, r_and, r_or, r_not, r_vand, r_vor, r_vnot, r_chain, r_hkT, r_hkF, r_part, r_ok, r_sl, r_seq, r_skN, r_skR, r_skF, r_skB, r_skC, r_next, r_retS, r_rk, r_retF, r_rfk, r_drop, r_dk, r_asg, r_gk, r_gk2, gNm, r_tp, r_gs, r_qk, r_gs0, r_froz, r_frk, r_cmk, r_setI, r_stk, r_stk2, r_sti, r_pl, r_stj, r_aug, r_aug1, r_aug2, r_aug3, r_opN, r_par, r_prk, r_callN, r_tupRg, and_self, ixN0, ixN1, ixN2, r_peek, r_pk, r_pkI, r_pkB, r_pkS, r_pkN, r_tpeek, r_bk1, r_bk2, r_frz, r_fzk, r_own, owk, r_frkK, r_ownK, r_ixEd, r_ixEt, r_ixEl, r_inK, r_ninK, r_mk4, r_mk3, r_met, r_mk2, r_callM, r_mk2b, r_callM1, r_lenIs, r_callF, r_mat, r_mtk, r_mEnd, r_mCase, r_for, r_lk, r_items, r_itL, r_itT, r_rng, r_enum, r_zipM, zipM_ok, r_star, starL_ok, starT_ok, enumL_ok, enumT_ok, for_nil, r_lc, r_lck2, lc_nil, r_outM, r_outMn, r_outM1, r_outM1n, r_outD, r_outDf, r_outDn, r_outF, ixL0, ixL1, ixL2, ixT0, ixT1, ixT2, addI_ok, subI_ok, gtI_ok, geI_ok, leI_ok, ltI_ok, lenL_ok, lenT_ok, abs_ok, intB_ok, List.getElem?_cons_zero, List.getElem?_cons_succ, List.length_cons, List.length_nil, List.set_cons_zero, List.set_cons_succ, List.map_cons, List.map_nil, List.cons_append, List.nil_append, List.replicate_succ, List.replicate_zero, Nat.reduceAdd, Nat.reduceSub, Nat.reduceLT, Nat.reduceEqDiff, Option.bind_some, Option.bind_none, Option.map_some, Option.map_none, if_true, if_false, ite_true, ite_false, ↓reduceIte, Bool.not_true, Bool.not_false, e1, e2, e3, e4]
      rw [e5]) ih
theorem wayb_turn (W : whole (4 * m) V) (P : PostsQ m Q) (hm : m ≤ 60) (cl : ClosedQ V Q) (s1 s3 s4 s6 s7 s8 s9 : Sl) {j : Nat} {v : Int × Option Int} (hv : V[j]? = some v) (hq : v.1 / 4 ∈ Q) :
    b1__law_part_right [.d (webD m V), s1, .d (.tuple (intsD Q)), s3, s4, .un, .d (wayD (relW Q v)), .d (.int (j : Int)), s8, s9] = some (.nx [.d (webD m V), s1, .d (.tuple (intsD Q)), s3, s4, .un, .d (wayD (relW Q v)), .d (.int (j : Int)), s8, s9]) := by
  have i1 : ixD (webD m V) (.int 1) = some (.tuple (V.map wayD)) := ixT1
  have ix : ixD (.tuple (V.map wayD)) (.int (j : Int)) = some (.tuple (intsD (handsW v))) := ixTn (by rw [List.getElem?_map, hv]; exact congrArg some (wayD_handsP v))
  have hin := inS_hands cl (inS_mem.mpr ⟨List.mem_of_getElem? hv, hq⟩)
  have lc := back_lc P hm (.d (webD m V)) s1 s3 s4 (.d (wayD (relW Q v))) (.d (.int (j : Int))) s8 s9 (handsW (relW Q v)) fun h hh => by
    rw [handsW_rel] at hh
    obtain ⟨x, hx, rfl⟩ := List.mem_map.mp hh
    exact rel_in (hin x hx)
  have eb : (handsW (relW Q v)).map (bk Q) = handsW v := by
    rw [handsW_rel, List.map_map]
    have : (handsW v).map (bk Q ∘ rel Q) = (handsW v).map id := List.map_congr_left fun x hx => bk_rel (hin x hx)
    rw [this, List.map_id]
  rw [eb] at lc
  have sz : Tw.sizeOk (intsD (handsW (relW Q v))).length = true := by
    obtain ⟨a, b⟩ := v
    cases b <;> rfl
  have tl : ∀ ds : List PyData, tupleD [.list ds] = some (.tuple ds) := fun _ => rfl
  rw [wayD_handsP (relW Q v)] at lc ⊢
  unfold b1__law_part_right
  simp -implicitDefEqProofs only [eq_self, r_thn, r_tk, r_tk0, r_ret, r_lift, r_lift0, r_var, r_vk, r_bin, r_un, r_nil, r_cons, r_tup, r_of, r_call, r_tst, r_kt, r_ikT, r_ikF, r_ite, r_if, r_ife, r_and, r_or, r_not, r_vand, r_vor, r_vnot, r_chain, r_hkT, r_hkF, r_part, r_ok, r_sl, r_seq, r_skN, r_skR, r_skF, r_skB, r_skC, r_next, r_retS, r_rk, r_retF, r_rfk, r_drop, r_dk, r_asg, r_gk, r_gk2, gNm, r_tp, r_gs, r_qk, r_gs0, r_froz, r_frk, r_cmk, r_setI, r_stk, r_stk2, r_sti, r_pl, r_stj, r_aug, r_aug1, r_aug2, r_aug3, r_opN, r_par, r_prk, r_callN, r_tupRg, and_self, ixN0, ixN1, ixN2, r_peek, r_pk, r_pkI, r_pkB, r_pkS, r_pkN, r_tpeek, r_bk1, r_bk2, r_frz, r_fzk, r_own, owk, r_frkK, r_ownK, r_ixEd, r_ixEt, r_ixEl, r_inK, r_ninK, r_mk4, r_mk3, r_met, r_mk2, r_callM, r_mk2b, r_callM1, r_lenIs, r_callF, r_mat, r_mtk, r_mEnd, r_mCase, r_for, r_lk, r_items, r_itL, r_itT, r_rng, r_enum, r_zipM, zipM_ok, r_star, starL_ok, starT_ok, enumL_ok, enumT_ok, for_nil, r_lc, r_lck2, lc_nil, r_outM, r_outMn, r_outM1, r_outM1n, r_outD, r_outDf, r_outDn, r_outF, ixL0, ixL1, ixL2, ixT0, ixT1, ixT2, addI_ok, subI_ok, gtI_ok, geI_ok, leI_ok, ltI_ok, lenL_ok, lenT_ok, abs_ok, intB_ok, List.getElem?_cons_zero, List.getElem?_cons_succ, List.length_cons, List.length_nil, List.set_cons_zero, List.set_cons_succ, List.map_cons, List.map_nil, List.cons_append, List.nil_append, List.replicate_succ, List.replicate_zero, Nat.reduceAdd, Nat.reduceSub, Nat.reduceLT, Nat.reduceEqDiff, Option.bind_some, Option.bind_none, Option.map_some, Option.map_none, if_true, if_false, ite_true, ite_false, ↓reduceIte, Bool.not_true, Bool.not_false, r_lck sz, wipeR, lc, backR, tl, i1, ix, ne_tupI]
theorem hand_turn (W : whole (4 * m) V) (t : Tab (4 * m) V B) (hw : g_need_web [webD m V] = some (.list B)) (P : PostsQ m Q) (hm : m ≤ 60) (cl : ClosedQ V Q) {B' : List PyData} (t' : Tab (4 * Q.length) (parW V Q) B') (hw' : g_need_web [webD Q.length (parW V Q)] = some (.list B')) (s1 s4 s6 s7 s8 s9 : Sl) {h : Int} (h0 : 0 ≤ h ∧ h < ((4 * Q.length : Nat) : Int)) :
    ∃ s8' s9', b2__law_part_right [.d (webD m V), s1, .d (.tuple (intsD Q)), .d (webD Q.length (parW V Q)), s4, .d (.int h), s6, s7, s8, s9] = some (.nx [.d (webD m V), s1, .d (.tuple (intsD Q)), .d (webD Q.length (parW V Q)), s4, .d (.int h), s6, s7, s8', s9']) := by
  have W' := par_whole W P cl
  obtain ⟨b1, b2, b3⟩ := bk_in P h0
  have a1 := pacross_ok W' t' hw' h0
  have a2 := pacross_ok W t hw b2
  have xp := XB_par W t cl t' b2 b1
  rw [b3] at xp
  obtain ⟨q, e1, e2, e3, e4, e5⟩ := bk_ev P hm h0
  cases c : XB B (bk Q h) with
  | none =>
    rw [c] at a2 xp
    rw [xp] at a1
    have z1 : isNoneD .none .none = some (.bool true) := rfl
    have z3 : notNoneD .none .none = some (.bool false) := rfl
    have a1 : g_across [webD Q.length (parW V Q), .int h] = some .none := a1
    have a2 : g_across [webD m V, .int (bk Q h)] = some .none := a2
    have nb : neD (.bool true) (.bool true) = some (.bool false) := rfl
    refine ⟨.d .none, .d .none, ?_⟩
    unfold b2__law_part_right
    simp -implicitDefEqProofs only [eq_self, r_thn, r_tk, r_tk0, r_ret, r_lift, r_lift0, r_var, r_vk, r_bin, r_un, r_nil, r_cons, r_tup, r_of, r_call, r_tst, r_kt, r_ikT, r_ikF, r_ite, r_if, r_ife, r_and, r_or, r_not, r_vand, r_vor, r_vnot, r_chain, r_hkT, r_hkF, r_part, r_ok, r_sl, r_seq, r_skN, r_skR, r_skF, r_skB, r_skC, r_next, r_retS, r_rk, r_retF, r_rfk, r_drop, r_dk, r_asg, r_gk, r_gk2, gNm, r_tp, r_gs, r_qk, r_gs0, r_froz, r_frk, r_cmk, r_setI, r_stk, r_stk2, r_sti, r_pl, r_stj, r_aug, r_aug1, r_aug2, r_aug3, r_opN, r_par, r_prk, r_callN, r_tupRg, and_self, ixN0, ixN1, ixN2, r_peek, r_pk, r_pkI, r_pkB, r_pkS, r_pkN, r_tpeek, r_bk1, r_bk2, r_frz, r_fzk, r_own, owk, r_frkK, r_ownK, r_ixEd, r_ixEt, r_ixEl, r_inK, r_ninK, r_mk4, r_mk3, r_met, r_mk2, r_callM, r_mk2b, r_callM1, r_lenIs, r_callF, r_mat, r_mtk, r_mEnd, r_mCase, r_for, r_lk, r_items, r_itL, r_itT, r_rng, r_enum, r_zipM, zipM_ok, r_star, starL_ok, starT_ok, enumL_ok, enumT_ok, for_nil, r_lc, r_lck2, lc_nil, r_outM, r_outMn, r_outM1, r_outM1n, r_outD, r_outDf, r_outDn, r_outF, ixL0, ixL1, ixL2, ixT0, ixT1, ixT2, addI_ok, subI_ok, gtI_ok, geI_ok, leI_ok, ltI_ok, lenL_ok, lenT_ok, abs_ok, intB_ok, List.getElem?_cons_zero, List.getElem?_cons_succ, List.length_cons, List.length_nil, List.set_cons_zero, List.set_cons_succ, List.map_cons, List.map_nil, List.cons_append, List.nil_append, List.replicate_succ, List.replicate_zero, Nat.reduceAdd, Nat.reduceSub, Nat.reduceLT, Nat.reduceEqDiff, Option.bind_some, Option.bind_none, Option.map_some, Option.map_none, if_true, if_false, ite_true, ite_false, ↓reduceIte, Bool.not_true, Bool.not_false, a1, e1, e2, e3, e4, e5, a2, z1, z3, nb]
  | some g =>
    rw [c] at a2 xp
    rw [xp] at a1
    have g0 := ((XB_way W t b2).resolve_left fun z => by
      have : XB B (bk Q h) = none := by unfold XB; rw [z.1]
      rw [c] at this
      cases this)
    obtain ⟨g', g1, _, gin, _⟩ := g0
    have eg : g' = g := by
      have : XB B (bk Q h) = some g' := by unfold XB; rw [g1]
      rw [c] at this
      exact (Option.some.inj this).symm
    subst eg
    have gq : g' / 4 ∈ Q := by
      obtain ⟨v, hv, hh⟩ := List.mem_flatMap.mp ((flat_inS W cl).mpr ⟨b2, b1⟩)
      have hin := inS_hands cl hv
      obtain ⟨a1, a2⟩ := XB_ofP t (inS_mem.mp hv).1
      cases e : v.2 with
      | none =>
        rcases List.mem_cons.mp hh with q | q
        · rw [q, a1 e] at c; cases c
        · rw [e] at q; cases q
      | some x =>
        obtain ⟨c1, c2⟩ := a2 x e
        rcases List.mem_cons.mp hh with q | q
        · rw [q, c1] at c
          cases c
          exact hin _ (List.mem_cons_of_mem _ (by rw [e]; exact List.mem_singleton.mpr rfl))
        · rw [e] at q
          rw [List.mem_singleton.mp (show bk Q h ∈ [x] from q), c2] at c
          cases c
          exact hin _ (List.mem_cons_self ..)
    have r0 := rel_in (Q := Q) gq
    obtain ⟨q2, f1, f2, f3, f4, f5⟩ := bk_ev P hm r0
    rw [bk_rel gq] at f5
    have z1 : isNoneD (xD (some g')) .none = some (.bool false) := rfl
    have z2 : isNoneD (.int (rel Q g')) .none = some (.bool false) := rfl
    have z3 : notNoneD (.int (rel Q g')) .none = some (.bool true) := rfl
    have nb : neD (.bool false) (.bool false) = some (.bool false) := rfl
    have ng : neD (.int g') (xD (some g')) = some (.bool false) := by
      show some (PyData.bool (!(g' == g'))) = _
      rw [beq_self_eq_true]
      rfl
    have a1 : g_across [webD Q.length (parW V Q), .int h] = some (.int (rel Q g')) := a1
    refine ⟨.d (.int (rel Q g')), .d (xD (some g')), ?_⟩
    unfold b2__law_part_right
    simp -implicitDefEqProofs only [eq_self, r_thn, r_tk, r_tk0, r_ret, r_lift, r_lift0, r_var, r_vk, r_bin, r_un, r_nil, r_cons, r_tup, r_of, r_call, r_tst, r_kt, r_ikT, r_ikF, r_ite, r_if, r_ife, r_and, r_or, r_not, r_vand, r_vor, r_vnot, r_chain, r_hkT, r_hkF, r_part, r_ok, r_sl, r_seq, r_skN, r_skR, r_skF, r_skB, r_skC, r_next, r_retS, r_rk, r_retF, r_rfk, r_drop, r_dk, r_asg, r_gk, r_gk2, gNm, r_tp, r_gs, r_qk, r_gs0, r_froz, r_frk, r_cmk, r_setI, r_stk, r_stk2, r_sti, r_pl, r_stj, r_aug, r_aug1, r_aug2, r_aug3, r_opN, r_par, r_prk, r_callN, r_tupRg, and_self, ixN0, ixN1, ixN2, r_peek, r_pk, r_pkI, r_pkB, r_pkS, r_pkN, r_tpeek, r_bk1, r_bk2, r_frz, r_fzk, r_own, owk, r_frkK, r_ownK, r_ixEd, r_ixEt, r_ixEl, r_inK, r_ninK, r_mk4, r_mk3, r_met, r_mk2, r_callM, r_mk2b, r_callM1, r_lenIs, r_callF, r_mat, r_mtk, r_mEnd, r_mCase, r_for, r_lk, r_items, r_itL, r_itT, r_rng, r_enum, r_zipM, zipM_ok, r_star, starL_ok, starT_ok, enumL_ok, enumT_ok, for_nil, r_lc, r_lck2, lc_nil, r_outM, r_outMn, r_outM1, r_outM1n, r_outD, r_outDf, r_outDn, r_outF, ixL0, ixL1, ixL2, ixT0, ixT1, ixT2, addI_ok, subI_ok, gtI_ok, geI_ok, leI_ok, ltI_ok, lenL_ok, lenT_ok, abs_ok, intB_ok, List.getElem?_cons_zero, List.getElem?_cons_succ, List.length_cons, List.length_nil, List.set_cons_zero, List.set_cons_succ, List.map_cons, List.map_nil, List.cons_append, List.nil_append, List.replicate_succ, List.replicate_zero, Nat.reduceAdd, Nat.reduceSub, Nat.reduceLT, Nat.reduceEqDiff, Option.bind_some, Option.bind_none, Option.map_some, Option.map_none, if_true, if_false, ite_true, ite_false, ↓reduceIte, Bool.not_true, Bool.not_false, a1, e1, e2, e3, e4, e5, a2, z1, z2, z3, nb, f1, f2, f3, f4, f5, ng]
end
end Lw

set_option Elab.async false
set_option linter.all false
set_option maxRecDepth 100000
set_option maxHeartbeats 4000000
namespace Lw
open PySem PySem.Spec PyProof.Rows L2 Tw
theorem nought_mat (n : Nat) : Mat n (List.replicate n 0) := ⟨List.length_replicate, fun x hx => .inl (List.eq_of_mem_replicate hx)⟩
/-- what is known of one of a web's parts -/
structure PartQ (m : Nat) (V : List (Int × Option Int)) (B : List PyData) (Q : List Int) : Prop where
  posts : PostsQ m Q
  cl : ClosedQ V Q
  adj : ∀ p ∈ Q, ∀ q, adjP (XB B) p q → q ∈ Q
  one : ∃ first ∈ Q, ∀ q ∈ Q, ReachP (XB B) first q
section
variable {m : Nat} {V : List (Int × Option Int)} {B : List PyData} {Q : List Int}
theorem partQ_of (W : whole (4 * m) V) (t : Tab (4 * m) V B) (P : PartsI m (XB B) (partsR m (XB B))) (hQ : Q ∈ partsR m (XB B)) : PartQ m V B Q where
  posts := ⟨P.up Q hQ, fun q hq => P.inr q (List.mem_flatten.mpr ⟨Q, hQ, hq⟩)⟩
  cl := fun v hv g e => by
    obtain ⟨h1, h2⟩ := (XB_ofP t hv).2 g e
    refine ⟨fun q => P.cl Q hQ _ q _ ⟨v.1 % 4, g, by omega, ?_, rfl⟩, fun q => P.cl Q hQ _ q _ ⟨g % 4, v.1, by omega, ?_, rfl⟩⟩
    · rw [show 4 * (v.1 / 4) + v.1 % 4 = v.1 by omega]; exact h1
    · rw [show 4 * (g / 4) + g % 4 = g by omega]; exact h2
  adj := P.cl Q hQ
  one := P.one Q hQ
theorem part_tab (W : whole (4 * m) V) (hm : m ≤ 60) (P : PartQ m V B Q) : ∃ B', g_need_web [webD Q.length (parW V Q)] = some (.list B') ∧ g_hands_across [webD Q.length (parW V Q)] = some (.list B') ∧ Tab (4 * Q.length) (parW V Q) B' := by
  have ql := P.posts.len
  obtain ⟨B', h1, h2⟩ := ha_web (by omega : Q.length ≤ 60) (par_whole W P.posts P.cl)
  refine ⟨B', ?_, h1, h2⟩
  have q : isNoneD (.list B') .none = some (.bool false) := rfl
  unfold g_need_web runP f_need_web
  simp -implicitDefEqProofs only [eq_self, r_thn, r_tk, r_tk0, r_ret, r_lift, r_lift0, r_var, r_vk, r_bin, r_un, r_nil, r_cons, r_tup, r_of, r_call, r_tst, r_kt, r_ikT, r_ikF, r_ite, r_if, r_ife, r_and, r_or, r_not, r_vand, r_vor, r_vnot, r_chain, r_hkT, r_hkF, r_part, r_ok, r_sl, r_seq, r_skN, r_skR, r_skF, r_skB, r_skC, r_next, r_retS, r_rk, r_retF, r_rfk, r_drop, r_dk, r_asg, r_gk, r_gk2, gNm, r_tp, r_gs, r_qk, r_gs0, r_froz, r_frk, r_cmk, r_setI, r_stk, r_stk2, r_sti, r_pl, r_stj, r_aug, r_aug1, r_aug2, r_aug3, r_opN, r_par, r_prk, r_callN, r_tupRg, and_self, ixN0, ixN1, ixN2, r_peek, r_pk, r_pkI, r_pkB, r_pkS, r_pkN, r_tpeek, r_bk1, r_bk2, r_frz, r_fzk, r_own, owk, r_frkK, r_ownK, r_ixEd, r_ixEt, r_ixEl, r_inK, r_ninK, r_mk4, r_mk3, r_met, r_mk2, r_callM, r_mk2b, r_callM1, r_lenIs, r_callF, r_mat, r_mtk, r_mEnd, r_mCase, r_for, r_lk, r_items, r_itL, r_itT, r_rng, r_enum, r_zipM, zipM_ok, r_star, starL_ok, starT_ok, enumL_ok, enumT_ok, for_nil, r_lc, r_lck2, lc_nil, r_outM, r_outMn, r_outM1, r_outM1n, r_outD, r_outDf, r_outDn, r_outF, ixL0, ixL1, ixL2, ixT0, ixT1, ixT2, addI_ok, subI_ok, gtI_ok, geI_ok, leI_ok, ltI_ok, lenL_ok, lenT_ok, abs_ok, intB_ok, List.getElem?_cons_zero, List.getElem?_cons_succ, List.length_cons, List.length_nil, List.set_cons_zero, List.set_cons_succ, List.map_cons, List.map_nil, List.cons_append, List.nil_append, List.replicate_succ, List.replicate_zero, Nat.reduceAdd, Nat.reduceSub, Nat.reduceLT, Nat.reduceEqDiff, Option.bind_some, Option.bind_none, Option.map_some, Option.map_none, if_true, if_false, ite_true, ite_false, ↓reduceIte, Bool.not_true, Bool.not_false, h1, q]
theorem part_parts (W : whole (4 * m) V) (t : Tab (4 * m) V B) (hm : m ≤ 60) {T : Int → Int} (N : Net (4 * m) (XB B) T) (P : PartQ m V B Q) {B' : List PyData} (t' : Tab (4 * Q.length) (parW V Q) B') : partsR Q.length (XB B') = [rangeI Q.length] ∧ 0 < Q.length := by
  have W' := par_whole W P.posts P.cl
  have N' := net_of W' t' (nought_mat Q.length)
  have ql := P.posts.len
  obtain ⟨f, hf, rf⟩ := P.one
  have pos : 0 < Q.length := List.length_pos_of_mem hf
  refine ⟨one_part N' (by omega) pos fun p hp => ?_, pos⟩
  obtain ⟨j, rfl⟩ : ∃ j : Nat, p = (j : Int) := ⟨p.toNat, by omega⟩
  have lj : j < Q.length := by omega
  have m0 : Q[0] ∈ Q := List.getElem_mem pos
  have mj : Q[j] ∈ Q := List.getElem_mem lj
  have r0 := (reach_sym N (P.posts.inr f hf) (rf _ m0)).2 _ (rf _ mj)
  have rp := (reach_par W t P.posts P.cl P.adj t' m0 r0).2
  have ix : ∀ k (hk : k < Q.length), Q.idxOf Q[k] = k := fun k hk => by
    have mem : Q[k] ∈ Q := List.getElem_mem hk
    have l2 := List.idxOf_lt_length_of_mem mem
    have g : Q[Q.idxOf Q[k]] = Q[k] := List.getElem_idxOf l2
    exact (List.getElem_inj P.posts.nd).mp g
  rw [ix 0 pos, ix j lj] at rp
  exact rp
theorem ways_loop (W : whole (4 * m) V) (hm : m ≤ 60) (P : PartQ m V B Q) (s1 s3 s4 s8 s9 : Sl) : ∀ (L : List Nat) (s6 s7 : Sl), (∀ k ∈ L, ∃ v, V[k]? = some v ∧ v.1 / 4 ∈ Q) →
    ∃ s6' s7', forF (gTp [gNm 6, gNm 7]) b1__law_part_right (L.map fun k => PyData.tuple [wayD (relW Q (V.getD k (0, none))), .int ((k : Nat) : Int)]) [.d (webD m V), s1, .d (.tuple (intsD Q)), s3, s4, .un, s6, s7, s8, s9] = some (.nx [.d (webD m V), s1, .d (.tuple (intsD Q)), s3, s4, .un, s6', s7', s8, s9])
  | [], s6, s7, _ => ⟨s6, s7, rfl⟩
  | k :: L, s6, s7, h => by
    obtain ⟨v, hv, hq⟩ := h k (List.mem_cons_self ..)
    have ev : V.getD k (0, none) = v := by rw [List.getD_eq_getElem?_getD, hv]; rfl
    have e1 := wayb_turn W P.posts hm P.cl s1 s3 s4 s6 s7 s8 s9 hv hq
    have hg : gTp [gNm 6, gNm 7] (.tuple [wayD (relW Q v), .int (k : Int)]) [.d (webD m V), s1, .d (.tuple (intsD Q)), s3, s4, .un, s6, s7, s8, s9] = some [.d (webD m V), s1, .d (.tuple (intsD Q)), s3, s4, .un, .d (wayD (relW Q v)), .d (.int (k : Int)), s8, s9] := rfl
    obtain ⟨a, b, e2⟩ := ways_loop W hm P s1 s3 s4 s8 s9 L (.d (wayD (relW Q v))) (.d (.int (k : Int))) fun x hx => h x (List.mem_cons_of_mem _ hx)
    exact ⟨a, b, by rw [List.map_cons, ev, for_nx hg e1, e2]⟩
theorem hands_loopP (W : whole (4 * m) V) (t : Tab (4 * m) V B) (hw : g_need_web [webD m V] = some (.list B)) (hm : m ≤ 60) (P : PartQ m V B Q) {B' : List PyData} (t' : Tab (4 * Q.length) (parW V Q) B') (hw' : g_need_web [webD Q.length (parW V Q)] = some (.list B')) (s1 s4 s6 s7 : Sl) : ∀ (L : List Int) (s5 s8 s9 : Sl), (∀ h ∈ L, 0 ≤ h ∧ h < ((4 * Q.length : Nat) : Int)) →
    ∃ s5' s8' s9', forF (gNm 5) b2__law_part_right (intsD L) [.d (webD m V), s1, .d (.tuple (intsD Q)), .d (webD Q.length (parW V Q)), s4, s5, s6, s7, s8, s9] = some (.nx [.d (webD m V), s1, .d (.tuple (intsD Q)), .d (webD Q.length (parW V Q)), s4, s5', s6, s7, s8', s9'])
  | [], s5, s8, s9, _ => ⟨s5, s8, s9, rfl⟩
  | h :: L, s5, s8, s9, hl => by
    obtain ⟨a8, a9, e1⟩ := hand_turn W t hw P.posts hm P.cl t' hw' s1 s4 s6 s7 s8 s9 (hl h (List.mem_cons_self ..))
    have hg : gNm 5 (.int h) [.d (webD m V), s1, .d (.tuple (intsD Q)), .d (webD Q.length (parW V Q)), s4, s5, s6, s7, s8, s9] = some [.d (webD m V), s1, .d (.tuple (intsD Q)), .d (webD Q.length (parW V Q)), s4, .d (.int h), s6, s7, s8, s9] := rfl
    obtain ⟨x, y, z, e2⟩ := hands_loopP W t hw hm P t' hw' s1 s4 s6 s7 L (.d (.int h)) a8 a9 fun x hx => hl x (List.mem_cons_of_mem _ hx)
    exact ⟨x, y, z, by
      show forF _ _ (.int h :: intsD L) _ = _
      rw [for_nx hg e1, e2]⟩
theorem inF_in : ∀ k ∈ inF Q 0 V, ∃ v, V[k]? = some v ∧ v.1 / 4 ∈ Q := fun k hk => by
  obtain ⟨j, v, h1, h2, h3⟩ := inF_mem.mp hk
  have : k = j := by omega
  subst this
  exact ⟨v, h1, h3⟩
theorem inF_len : (inF Q 0 V).length ≤ V.length := by
  have nd : ((inF Q 0 V).map fun k : Nat => (k : Int)).Nodup := ((inF_up Q V 0).imp (fun {a b} h => by omega : ∀ {a b : Nat}, a < b → (a : Int) ≠ (b : Int))).map _ fun a b h => h
  have := in_len V.length _ nd fun x hx => by
    obtain ⟨k, hk, rfl⟩ := List.mem_map.mp hx
    obtain ⟨v, h1, _⟩ := inF_in k hk
    have := (List.getElem?_eq_some_iff.mp h1).1
    omega
  rw [List.length_map] at this
  exact this
theorem part_right_ok (W : whole (4 * m) V) (t : Tab (4 * m) V B) (hw : g_need_web [webD m V] = some (.list B)) (hm : m ≤ 60) {T : Int → Int} (N : Net (4 * m) (XB B) T) (PI : PartsI m (XB B) (partsR m (XB B))) {i : Nat} (hi : (partsR m (XB B))[i]? = some Q) :
    g__law_part_right [webD m V, .int (i : Int), .tuple (intsD Q)] = some (.list (natsD (inF Q 0 V))) := by
  have P := partQ_of W t PI (List.mem_of_getElem? hi)
  have ql := P.posts.len
  have vl := whole_len W
  have np := needed_ok W t hw hm N hi
  have pw := part_web_ok W hm np P.posts P.cl
  have wi := ways_in_ok W hm P.posts
  have pn : g_part_ways [webD m V, .int (i : Int)] = some (.tuple (natsD (inF Q 0 V))) := by
    unfold g_part_ways runP f_part_ways
    simp -implicitDefEqProofs only [eq_self, r_thn, r_tk, r_tk0, r_ret, r_lift, r_lift0, r_var, r_vk, r_bin, r_un, r_nil, r_cons, r_tup, r_of, r_call, r_tst, r_kt, r_ikT, r_ikF, r_ite, r_if, r_ife, r_and, r_or, r_not, r_vand, r_vor, r_vnot, r_chain, r_hkT, r_hkF, r_part, r_ok, r_sl, r_seq, r_skN, r_skR, r_skF, r_skB, r_skC, r_next, r_retS, r_rk, r_retF, r_rfk, r_drop, r_dk, r_asg, r_gk, r_gk2, gNm, r_tp, r_gs, r_qk, r_gs0, r_froz, r_frk, r_cmk, r_setI, r_stk, r_stk2, r_sti, r_pl, r_stj, r_aug, r_aug1, r_aug2, r_aug3, r_opN, r_par, r_prk, r_callN, r_tupRg, and_self, ixN0, ixN1, ixN2, r_peek, r_pk, r_pkI, r_pkB, r_pkS, r_pkN, r_tpeek, r_bk1, r_bk2, r_frz, r_fzk, r_own, owk, r_frkK, r_ownK, r_ixEd, r_ixEt, r_ixEl, r_inK, r_ninK, r_mk4, r_mk3, r_met, r_mk2, r_callM, r_mk2b, r_callM1, r_lenIs, r_callF, r_mat, r_mtk, r_mEnd, r_mCase, r_for, r_lk, r_items, r_itL, r_itT, r_rng, r_enum, r_zipM, zipM_ok, r_star, starL_ok, starT_ok, enumL_ok, enumT_ok, for_nil, r_lc, r_lck2, lc_nil, r_outM, r_outMn, r_outM1, r_outM1n, r_outD, r_outDf, r_outDn, r_outF, ixL0, ixL1, ixL2, ixT0, ixT1, ixT2, addI_ok, subI_ok, gtI_ok, geI_ok, leI_ok, ltI_ok, lenL_ok, lenT_ok, abs_ok, intB_ok, List.getElem?_cons_zero, List.getElem?_cons_succ, List.length_cons, List.length_nil, List.set_cons_zero, List.set_cons_succ, List.map_cons, List.map_nil, List.cons_append, List.nil_append, List.replicate_succ, List.replicate_zero, Nat.reduceAdd, Nat.reduceSub, Nat.reduceLT, Nat.reduceEqDiff, Option.bind_some, Option.bind_none, Option.map_some, Option.map_none, if_true, if_false, ite_true, ite_false, ↓reduceIte, Bool.not_true, Bool.not_false, np, wi]
  obtain ⟨B', hw', ha', t'⟩ := part_tab W hm P
  have W' := par_whole W P.posts P.cl
  have N' := net_of W' t' (nought_mat Q.length)
  obtain ⟨pr, pos⟩ := part_parts W t hm N P t'
  have po := parts_of_ok W' t' hw' (by omega) N' (by rw [pr]; exact pos)
  rw [pr] at po
  have iw : g_is_web [webD Q.length (parW V Q)] = some (.bool true) := by
    have q : notNoneD (.list B') .none = some (.bool true) := rfl
    unfold g_is_web runP f_is_web
    simp -implicitDefEqProofs only [eq_self, r_thn, r_tk, r_tk0, r_ret, r_lift, r_lift0, r_var, r_vk, r_bin, r_un, r_nil, r_cons, r_tup, r_of, r_call, r_tst, r_kt, r_ikT, r_ikF, r_ite, r_if, r_ife, r_and, r_or, r_not, r_vand, r_vor, r_vnot, r_chain, r_hkT, r_hkF, r_part, r_ok, r_sl, r_seq, r_skN, r_skR, r_skF, r_skB, r_skC, r_next, r_retS, r_rk, r_retF, r_rfk, r_drop, r_dk, r_asg, r_gk, r_gk2, gNm, r_tp, r_gs, r_qk, r_gs0, r_froz, r_frk, r_cmk, r_setI, r_stk, r_stk2, r_sti, r_pl, r_stj, r_aug, r_aug1, r_aug2, r_aug3, r_opN, r_par, r_prk, r_callN, r_tupRg, and_self, ixN0, ixN1, ixN2, r_peek, r_pk, r_pkI, r_pkB, r_pkS, r_pkN, r_tpeek, r_bk1, r_bk2, r_frz, r_fzk, r_own, owk, r_frkK, r_ownK, r_ixEd, r_ixEt, r_ixEl, r_inK, r_ninK, r_mk4, r_mk3, r_met, r_mk2, r_callM, r_mk2b, r_callM1, r_lenIs, r_callF, r_mat, r_mtk, r_mEnd, r_mCase, r_for, r_lk, r_items, r_itL, r_itT, r_rng, r_enum, r_zipM, zipM_ok, r_star, starL_ok, starT_ok, enumL_ok, enumT_ok, for_nil, r_lc, r_lck2, lc_nil, r_outM, r_outMn, r_outM1, r_outM1n, r_outD, r_outDf, r_outDn, r_outF, ixL0, ixL1, ixL2, ixT0, ixT1, ixT2, addI_ok, subI_ok, gtI_ok, geI_ok, leI_ok, ltI_ok, lenL_ok, lenT_ok, abs_ok, intB_ok, List.getElem?_cons_zero, List.getElem?_cons_succ, List.length_cons, List.length_nil, List.set_cons_zero, List.set_cons_succ, List.map_cons, List.map_nil, List.cons_append, List.nil_append, List.replicate_succ, List.replicate_zero, Nat.reduceAdd, Nat.reduceSub, Nat.reduceLT, Nat.reduceEqDiff, Option.bind_some, Option.bind_none, Option.map_some, Option.map_none, if_true, if_false, ite_true, ite_false, ↓reduceIte, Bool.not_true, Bool.not_false, ha', q]
  have nb : notB (.bool true) (.bool true) = some (.bool false) := rfl
  have p0 : ixD (webD Q.length (parW V Q)) (.int 0) = some (.int (Q.length : Int)) := ixT0
  have p1 : ixD (webD Q.length (parW V Q)) (.int 1) = some (.tuple ((parW V Q).map wayD)) := ixT1
  have l1 : lenD [.tuple ((parW V Q).map wayD)] = some (.int ((inF Q 0 V).length : Int)) := by
    show some (PyData.int ((((parW V Q).map wayD).length : Nat) : Int)) = _
    unfold parW
    rw [List.length_map, List.length_map]
  have l2 : lenD [.tuple (natsD (inF Q 0 V))] = some (.int ((inF Q 0 V).length : Int)) := by
    show some (PyData.int (((natsD (inF Q 0 V)).length : Nat) : Int)) = _
    unfold natsD
    rw [List.length_map]
  have l3 : lenD [.tuple (intsD Q)] = some (.int (Q.length : Int)) := by
    show some (PyData.int (((intsD Q).length : Nat) : Int)) = _
    rw [intsD_len]
  have ne : ∀ x : Int, neD (.int x) (.int x) = some (.bool false) := fun x => by
    show some (PyData.bool (!(x == x))) = _
    rw [beq_self_eq_true]
    rfl
  have rg : rg1 (.int (Q.length : Int)) = some (intsD (rangeI Q.length)) := by
    have : rgOk 0 (Q.length : Int) = true := decide_eq_true (by omega)
    show (if rgOk 0 (Q.length : Int) = true then some (ups 0 ((Q.length : Int)).toNat) else none) = _
    rw [if_pos this, Int.toNat_natCast, ups_intP]
  have s1 : Tw.sizeOk 1 = true := rfl
  have po' : g_parts_of [webD Q.length (parW V Q)] = some (.tuple [.tuple (intsD (rangeI Q.length))]) := po
  have sh : reprD [.tuple [.tuple (intsD (rangeI Q.length))]] = some (.str (PyData.tuple [.tuple (intsD (rangeI Q.length))]).shown) := by
    have g : Fn false false (21 * 60) 1 (.tuple (intsD (rangeI Q.length))) := Fn.tup (fewI_fn (fun x hx => by have := mem_rangeI.mp hx; omega) (by rw [len_rangeI]; omega))
    exact repr_ok (((Fn.tup (FnL.cons (g.wide (Nat.le_refl _) (by decide : 1 ≤ 10)) (W2 := 0) .nil)).wide (by decide) (by decide)).ok rfl)
  have zp : prs ((parW V Q).map wayD) (natsD (inF Q 0 V)) = (inF Q 0 V).map fun k => PyData.tuple [wayD (relW Q (V.getD k (0, none))), .int ((k : Nat) : Int)] := by
    unfold parW natsD
    rw [List.map_map]
    exact prs_map (fun k => wayD (relW Q (V.getD k (0, none)))) (fun k => .int ((k : Nat) : Int)) (inF Q 0 V)
  obtain ⟨a6, a7, e1⟩ := ways_loop W hm P (.d (.int (i : Int))) (.d (webD Q.length (parW V Q))) (.d (.tuple (natsD (inF Q 0 V)))) .un .un (inF Q 0 V) .un .un inF_in
  have m4 : mulI (.int 4) (.int (Q.length : Int)) = some (.int ((4 * Q.length : Nat) : Int)) := by
    rw [mul_ok 3 7 (by decide) (by decide) (by decide) (by decide) (by omega) (by omega) (by decide)]
    congr 2
  have r4 := rng_ok (n := 4 * Q.length) (by omega)
  rw [ups_intP] at r4
  obtain ⟨a5, a8, a9, e2⟩ := hands_loopP W t hw hm P t' hw' (.d (.int (i : Int))) (.d (.tuple (natsD (inF Q 0 V)))) a6 a7 (rangeI (4 * Q.length)) .un .un .un fun h hh => mem_rangeI.mp hh
  have tl : ∀ ds : List PyData, listD [.tuple ds] = some (.list ds) := fun _ => rfl
  unfold g__law_part_right runP f__law_part_right
  simp -implicitDefEqProofs only [eq_self, r_thn, r_tk, r_tk0, r_ret, r_lift, r_lift0, r_var, r_vk, r_bin, r_un, r_nil, r_cons, r_tup, r_of, r_call, r_tst, r_kt, r_ikT, r_ikF, r_ite, r_if, r_ife, r_and, r_or, r_not, r_vand, r_vor, r_vnot, r_chain, r_hkT, r_hkF, r_part, r_ok, r_sl, r_seq, r_skN, r_skR, r_skF, r_skB, r_skC, r_next, r_retS, r_rk, r_retF, r_rfk, r_drop, r_dk, r_asg, r_gk, r_gk2, gNm, r_tp, r_gs, r_qk, r_gs0, r_froz, r_frk, r_cmk, r_setI, r_stk, r_stk2, r_sti, r_pl, r_stj, r_aug, r_aug1, r_aug2, r_aug3, r_opN, r_par, r_prk, r_callN, r_tupRg, and_self, ixN0, ixN1, ixN2, r_peek, r_pk, r_pkI, r_pkB, r_pkS, r_pkN, r_tpeek, r_bk1, r_bk2, r_frz, r_fzk, r_own, owk, r_frkK, r_ownK, r_ixEd, r_ixEt, r_ixEl, r_inK, r_ninK, r_mk4, r_mk3, r_met, r_mk2, r_callM, r_mk2b, r_callM1, r_lenIs, r_callF, r_mat, r_mtk, r_mEnd, r_mCase, r_for, r_lk, r_items, r_itL, r_itT, r_rng, r_enum, r_zipM, zipM_ok, r_star, starL_ok, starT_ok, enumL_ok, enumT_ok, for_nil, r_lc, r_lck2, lc_nil, r_outM, r_outMn, r_outM1, r_outM1n, r_outD, r_outDf, r_outDn, r_outF, ixL0, ixL1, ixL2, ixT0, ixT1, ixT2, addI_ok, subI_ok, gtI_ok, geI_ok, leI_ok, ltI_ok, lenL_ok, lenT_ok, abs_ok, intB_ok, List.getElem?_cons_zero, List.getElem?_cons_succ, List.length_cons, List.length_nil, List.set_cons_zero, List.set_cons_succ, List.map_cons, List.map_nil, List.cons_append, List.nil_append, List.replicate_succ, List.replicate_zero, Nat.reduceAdd, Nat.reduceSub, Nat.reduceLT, Nat.reduceEqDiff, Option.bind_some, Option.bind_none, Option.map_some, Option.map_none, if_true, if_false, ite_true, ite_false, ↓reduceIte, Bool.not_true, Bool.not_false, pw, pn, iw, nb, p1, l1, l2, p0, l3, ne, po', rg, s1, sh, ne_same, r_zipP, zipT_ok, zp, e1, m4, r4, e2, tl]
end
end Lw

set_option Elab.async false
set_option linter.all false
set_option maxRecDepth 100000
set_option maxHeartbeats 4000000
namespace Lw
open PySem PySem.Spec PyProof.Rows L2 Tw
/-! ### webs beside one another, renamed, turned about -/
theorem sorted_wholeG {n : Nat} {V : List (Int × Option Int)} (hp : (flatW V).Perm (rangeI n)) (ho : ∀ w ∈ V, ∀ g, w.2 = some g → w.1 < g) : ∃ S, sortedD [.list (V.map wayD)] = some (.list (S.map wayD)) ∧ whole n S := by
  obtain ⟨S, h1, h2, h3⟩ := ways_sorted V
  have pf : (flatW S).Perm (flatW V) := flatW_perm h2
  have nd : (flatW S).Nodup := (pf.trans hp).nodup_iff.mpr (nodup_rangeI n)
  refine ⟨S, h1, pf.trans hp, ?_, fun w hw g hg => ho w (h2.mem_iff.mp hw) g hg⟩
  have firsts : ∀ {U : List (Int × Option Int)}, (flatW U).Nodup → U.Pairwise fun v w => v.1 ≠ w.1 := fun {U} => by
    induction U with
    | nil => intro _; exact .nil
    | cons v U ih =>
      intro q
      have q' : (handsW v ++ flatW U).Nodup := q
      obtain ⟨_, q2, q3⟩ := List.nodup_append.mp q'
      refine List.pairwise_cons.mpr ⟨fun w hw => ?_, ih q2⟩
      exact q3 v.1 (List.mem_cons_self ..) w.1 (mem_flat hw)
  exact (h3.and (firsts nd)).imp fun q => by have := q.1; have := q.2; omega
def wayL (v : Int × Option Int) : PyData := .list (intsD (handsW v))
def shiftW (c : Int) (v : Int × Option Int) : Int × Option Int := (c + v.1, v.2.map (c + ·))
theorem handsW_shift (c : Int) (v : Int × Option Int) : handsW (shiftW c v) = (handsW v).map (c + ·) := by
  obtain ⟨a, b⟩ := v
  cases b <;> rfl
theorem flat_shift (c : Int) (V : List (Int × Option Int)) : flatW (V.map (shiftW c)) = (flatW V).map (c + ·) := by
  show (V.map (shiftW c)).flatMap handsW = (V.flatMap handsW).map (c + ·)
  rw [List.flatMap_map, List.map_flatMap]
  congr 1
  funext v
  exact handsW_shift c v
theorem range_add (a b : Nat) : (rangeI (a + b)).Perm (rangeI a ++ (rangeI b).map ((a : Int) + ·)) := by
  unfold rangeI
  rw [List.range_add, List.map_append, List.map_map, List.map_map]
  refine (List.Perm.refl _).append (List.Perm.of_eq ?_)
  exact List.map_congr_left fun i _ => by
    show ((a + i : Nat) : Int) = (a : Int) + (i : Int)
    omega
theorem flat_append (U V : List (Int × Option Int)) : flatW (U ++ V) = flatW U ++ flatW V := List.flatMap_append ..
/-- the ways so far -/
structure Side (n : Nat) (U : List (Int × Option Int)) : Prop where
  perm : (flatW U).Perm (rangeI (4 * n))
  len : U.length ≤ 4 * n
theorem app_way (s0 s3 s4 s5 s6 s7 s9 s10 : Sl) {c : Nat} (hc : c ≤ 60) {U : List PyData} (hU : U.length < 90000) (v : Int × Option Int) :
    b1__law_beside [s0, .d (.int (c : Int)), .m U, s3, s4, s5, s6, s7, .d (wayD v), s9, s10, .un] = some (.nx [s0, .d (.int (c : Int)), .m (.l (U ++ [wayL (shiftW (4 * (c : Int)) v)])), s3, s4, s5, s6, s7, .d (wayD v), s9, s10, .un]) := by
  have m4 : mulI (.int 4) (.int (c : Int)) = some (.int (4 * (c : Int))) := mul_ok 3 7 (by decide) (by decide) (by decide) (by decide) (by omega) (by omega) (by decide)
  have lc : ∀ L : List Int, lcF (gNm 11) (Tw.ret true) (fBin addD (fBin mulI (Tw.ret (.int 4)) (fVar 1)) (fVar 11)) [11] (intsD L) [s0, .d (.int (c : Int)), .m U, s3, s4, s5, s6, s7, .d (.tuple (intsD (handsW v))), s9, s10, .un] = some (intsD (L.map (4 * (c : Int) + ·)), [s0, .d (.int (c : Int)), .m U, s3, s4, s5, s6, s7, .d (.tuple (intsD (handsW v))), s9, s10, .un]) := fun L => by
    induction L with
    | nil => rfl
    | cons h L ih =>
      exact lc_yes (ρ1 := [s0, .d (.int (c : Int)), .m U, s3, s4, s5, s6, s7, .d (.tuple (intsD (handsW v))), s9, s10, .d (.int h)]) (ρ2 := [s0, .d (.int (c : Int)), .m U, s3, s4, s5, s6, s7, .d (.tuple (intsD (handsW v))), s9, s10, .d (.int h)]) (ρ3 := [s0, .d (.int (c : Int)), .m U, s3, s4, s5, s6, s7, .d (.tuple (intsD (handsW v))), s9, s10, .d (.int h)]) rfl rfl (by simp -implicitDefEqProofs only [eq_self, r_thn, r_tk, r_tk0, r_ret, r_lift, r_lift0, r_var, r_vk, r_bin, r_un, r_nil, r_cons, r_tup, r_of, r_call, r_tst, r_kt, r_ikT, r_ikF, r_ite, r_if, r_ife, r_and, r_or, r_not, r_vand, r_vor, r_vnot, r_chain, r_hkT, r_hkF, r_part, r_ok, r_sl, r_seq, r_skN, r_skR, r_skF, r_skB, r_skC, r_next, r_retS, r_rk, r_retF, r_rfk, r_drop, r_dk, r_asg, r_gk, r_gk2, gNm, r_tp, r_gs, r_qk, r_gs0, r_froz, r_frk, r_cmk, r_setI, r_stk, r_stk2, r_sti, r_pl, r_stj, r_aug, r_aug1, r_aug2, r_aug3, r_opN, r_par, r_prk, r_callN, r_tupRg, and_self, ixN0, ixN1, ixN2, r_peek, r_pk, r_pkI, r_pkB, r_pkS, r_pkN, r_tpeek, r_bk1, r_bk2, r_frz, r_fzk, r_own, owk, r_frkK, r_ownK, r_ixEd, r_ixEt, r_ixEl, r_inK, r_ninK, r_mk4, r_mk3, r_met, r_mk2, r_callM, r_mk2b, r_callM1, r_lenIs, r_callF, r_mat, r_mtk, r_mEnd, r_mCase, r_for, r_lk, r_items, r_itL, r_itT, r_rng, r_enum, r_zipM, zipM_ok, r_star, starL_ok, starT_ok, enumL_ok, enumT_ok, for_nil, r_lc, r_lck2, lc_nil, r_outM, r_outMn, r_outM1, r_outM1n, r_outD, r_outDf, r_outDn, r_outF, ixL0, ixL1, ixL2, ixT0, ixT1, ixT2, addI_ok, subI_ok, gtI_ok, geI_ok, leI_ok, ltI_ok, lenL_ok, lenT_ok, abs_ok, intB_ok, List.getElem?_cons_zero, List.getElem?_cons_succ, List.length_cons, List.length_nil, List.set_cons_zero, List.set_cons_succ, List.map_cons, List.map_nil, List.cons_append, List.nil_append, List.replicate_succ, List.replicate_zero, Nat.reduceAdd, Nat.reduceSub, Nat.reduceLT, Nat.reduceEqDiff, Option.bind_some, Option.bind_none, Option.map_some, Option.map_none, if_true, if_false, ite_true, ite_false, ↓reduceIte, Bool.not_true, Bool.not_false, m4]) ih
  have sz : Tw.sizeOk (intsD (handsW v)).length = true := by
    obtain ⟨a, b⟩ := v
    cases b <;> rfl
  have ap := app_ok (L := U) (d := .list (intsD ((handsW v).map (4 * (c : Int) + ·)))) (by omega)
  have ew : wayL (shiftW (4 * (c : Int)) v) = .list (intsD ((handsW v).map (4 * (c : Int) + ·))) := by
    unfold wayL
    rw [handsW_shift]
  rw [ew, wayD_handsP]
  unfold b1__law_beside
  simp -implicitDefEqProofs only [eq_self, r_thn, r_tk, r_tk0, r_ret, r_lift, r_lift0, r_var, r_vk, r_bin, r_un, r_nil, r_cons, r_tup, r_of, r_call, r_tst, r_kt, r_ikT, r_ikF, r_ite, r_if, r_ife, r_and, r_or, r_not, r_vand, r_vor, r_vnot, r_chain, r_hkT, r_hkF, r_part, r_ok, r_sl, r_seq, r_skN, r_skR, r_skF, r_skB, r_skC, r_next, r_retS, r_rk, r_retF, r_rfk, r_drop, r_dk, r_asg, r_gk, r_gk2, gNm, r_tp, r_gs, r_qk, r_gs0, r_froz, r_frk, r_cmk, r_setI, r_stk, r_stk2, r_sti, r_pl, r_stj, r_aug, r_aug1, r_aug2, r_aug3, r_opN, r_par, r_prk, r_callN, r_tupRg, and_self, ixN0, ixN1, ixN2, r_peek, r_pk, r_pkI, r_pkB, r_pkS, r_pkN, r_tpeek, r_bk1, r_bk2, r_frz, r_fzk, r_own, owk, r_frkK, r_ownK, r_ixEd, r_ixEt, r_ixEl, r_inK, r_ninK, r_mk4, r_mk3, r_met, r_mk2, r_callM, r_mk2b, r_callM1, r_lenIs, r_callF, r_mat, r_mtk, r_mEnd, r_mCase, r_for, r_lk, r_items, r_itL, r_itT, r_rng, r_enum, r_zipM, zipM_ok, r_star, starL_ok, starT_ok, enumL_ok, enumT_ok, for_nil, r_lc, r_lck2, lc_nil, r_outM, r_outMn, r_outM1, r_outM1n, r_outD, r_outDf, r_outDn, r_outF, ixL0, ixL1, ixL2, ixT0, ixT1, ixT2, addI_ok, subI_ok, gtI_ok, geI_ok, leI_ok, ltI_ok, lenL_ok, lenT_ok, abs_ok, intB_ok, List.getElem?_cons_zero, List.getElem?_cons_succ, List.length_cons, List.length_nil, List.set_cons_zero, List.set_cons_succ, List.map_cons, List.map_nil, List.cons_append, List.nil_append, List.replicate_succ, List.replicate_zero, Nat.reduceAdd, Nat.reduceSub, Nat.reduceLT, Nat.reduceEqDiff, Option.bind_some, Option.bind_none, Option.map_some, Option.map_none, if_true, if_false, ite_true, ite_false, ↓reduceIte, Bool.not_true, Bool.not_false, r_lck sz, wipeR, lc, backR, ap]
theorem app_ways (s0 s3 s4 s5 s6 s7 s9 s10 : Sl) {c : Nat} (hc : c ≤ 60) : ∀ (V : List (Int × Option Int)) (U : List PyData) (s8 : Sl), U.length + V.length < 90000 →
    ∃ s8', forF (gNm 8) b1__law_beside (V.map wayD) [s0, .d (.int (c : Int)), .m U, s3, s4, s5, s6, s7, s8, s9, s10, .un] = some (.nx [s0, .d (.int (c : Int)), .m (.l (U ++ (V.map (shiftW (4 * (c : Int)))).map wayL)), s3, s4, s5, s6, s7, s8', s9, s10, .un])
  | [], U, s8, _ => ⟨s8, by simp only [List.map_nil, List.append_nil]; rfl⟩
  | v :: V, U, s8, hl => by
    rw [List.length_cons] at hl
    have hg : gNm 8 (wayD v) [s0, .d (.int (c : Int)), .m U, s3, s4, s5, s6, s7, s8, s9, s10, .un] = some [s0, .d (.int (c : Int)), .m U, s3, s4, s5, s6, s7, .d (wayD v), s9, s10, .un] := rfl
    obtain ⟨a, e⟩ := app_ways s0 s3 s4 s5 s6 s7 s9 s10 hc V (U ++ [wayL (shiftW (4 * (c : Int)) v)]) (.d (wayD v)) (by rw [List.length_append, List.length_singleton]; omega)
    exact ⟨a, by rw [List.map_cons, for_nx hg (app_way s0 s3 s4 s5 s6 s7 s9 s10 hc (by omega) v), e, List.append_assoc]; rfl⟩
theorem web_turns (s4 s5 s6 s7 s10 : Sl) : ∀ (x lo : Nat) (k : Nat) (ms : List PyData) (c : Nat) (U : List (Int × Option Int)) (s3 s8 s9 : Sl), Pot k ms → k + 6000 * x < 2 ^ 40 → Side c U → c + 4 * x ≤ 20 →
    ∃ (k' : Nat) (ms' : List PyData) (c' : Nat) (U' : List (Int × Option Int)) (s3' s8' s9' : Sl), forF (gNm 3) b2__law_beside (ups (lo : Int) x) [.m ms, .d (.int (c : Int)), .m (U.map wayL), s3, s4, s5, s6, s7, s8, s9, s10, .un] = some (.nx [.m (.l ms'), .d (.int (c' : Int)), .m (.l (U'.map wayL)), s3', s4, s5, s6, s7, s8', s9', s10, .un]) ∧ Pot k' ms' ∧ k' < 2 ^ 40 ∧ Side c' U' ∧ c' ≤ 20
  | 0, lo, k, ms, c, U, s3, s8, s9, P, hk, S, hc => ⟨k, ms, c, U, s3, s8, s9, rfl, P, by omega, S, by omega⟩
  | x + 1, lo, k, ms, c, U, s3, s8, s9, P, hk, S, hc => by
    obtain ⟨m, Bs, V, ms1, e1, D, P1⟩ := world_ok (most := 4) P (by omega) (by decide)
    have hm : m ≤ 4 := D.le
    have Wh : whole (4 * m) V := D.whole
    have vl := whole_len Wh
    have n4 : ((4 : Nat) : Int) = 4 := rfl
    rw [n4] at e1
    have i0 : ixD (.tuple [webD m V, .tuple (paintD Bs.flatten V)]) (.int 0) = some (webD m V) := rfl
    have j0 : ixD (webD m V) (.int 0) = some (.int (m : Int)) := ixT0
    have j1 : ixD (webD m V) (.int 1) = some (.tuple (V.map wayD)) := ixT1
    obtain ⟨a8, e2⟩ := app_ways (.m ms1) (.d (.int (lo : Int))) s4 s5 s6 s7 (.d (webD m V)) s10 (c := c) (by omega) V (U.map wayL) s8 (by have := S.len; rw [List.length_map]; omega)
    have ead : ((c : Int) + (m : Int)) = ((c + m : Nat) : Int) := by omega
    have eb : b2__law_beside [.m ms, .d (.int (c : Int)), .m (U.map wayL), .d (.int (lo : Int)), s4, s5, s6, s7, s8, s9, s10, .un] = some (.nx [.m (.l ms1), .d (.int ((c + m : Nat) : Int)), .m (.l ((U ++ V.map (shiftW (4 * (c : Int)))).map wayL)), .d (.int (lo : Int)), s4, s5, s6, s7, a8, .d (webD m V), s10, .un]) := by
      rw [List.map_append]
      unfold b2__law_beside
      simp -implicitDefEqProofs only [eq_self, r_thn, r_tk, r_tk0, r_ret, r_lift, r_lift0, r_var, r_vk, r_bin, r_un, r_nil, r_cons, r_tup, r_of, r_call, r_tst, r_kt, r_ikT, r_ikF, r_ite, r_if, r_ife, r_and, r_or, r_not, r_vand, r_vor, r_vnot, r_chain, r_hkT, r_hkF, r_part, r_ok, r_sl, r_seq, r_skN, r_skR, r_skF, r_skB, r_skC, r_next, r_retS, r_rk, r_retF, r_rfk, r_drop, r_dk, r_asg, r_gk, r_gk2, gNm, r_tp, r_gs, r_qk, r_gs0, r_froz, r_frk, r_cmk, r_setI, r_stk, r_stk2, r_sti, r_pl, r_stj, r_aug, r_aug1, r_aug2, r_aug3, r_opN, r_par, r_prk, r_callN, r_tupRg, and_self, ixN0, ixN1, ixN2, r_peek, r_pk, r_pkI, r_pkB, r_pkS, r_pkN, r_tpeek, r_bk1, r_bk2, r_frz, r_fzk, r_own, owk, r_frkK, r_ownK, r_ixEd, r_ixEt, r_ixEl, r_inK, r_ninK, r_mk4, r_mk3, r_met, r_mk2, r_callM, r_mk2b, r_callM1, r_lenIs, r_callF, r_mat, r_mtk, r_mEnd, r_mCase, r_for, r_lk, r_items, r_itL, r_itT, r_rng, r_enum, r_zipM, zipM_ok, r_star, starL_ok, starT_ok, enumL_ok, enumT_ok, for_nil, r_lc, r_lck2, lc_nil, r_outM, r_outMn, r_outM1, r_outM1n, r_outD, r_outDf, r_outDn, r_outF, ixL0, ixL1, ixL2, ixT0, ixT1, ixT2, addI_ok, subI_ok, gtI_ok, geI_ok, leI_ok, ltI_ok, lenL_ok, lenT_ok, abs_ok, intB_ok, List.getElem?_cons_zero, List.getElem?_cons_succ, List.length_cons, List.length_nil, List.set_cons_zero, List.set_cons_succ, List.map_cons, List.map_nil, List.cons_append, List.nil_append, List.replicate_succ, List.replicate_zero, Nat.reduceAdd, Nat.reduceSub, Nat.reduceLT, Nat.reduceEqDiff, Option.bind_some, Option.bind_none, Option.map_some, Option.map_none, if_true, if_false, ite_true, ite_false, ↓reduceIte, Bool.not_true, Bool.not_false, e1, i0, j0, j1, e2, ead]
    have S' : Side (c + m) (U ++ V.map (shiftW (4 * (c : Int)))) := by
      refine ⟨?_, by rw [List.length_append, List.length_map]; have := S.len; omega⟩
      rw [flat_append, flat_shift]
      have r := range_add (4 * c) (4 * m)
      rw [show 4 * c + 4 * m = 4 * (c + m) by omega] at r
      refine (S.perm.append (Wh.1.map _)).trans (List.Perm.trans (List.Perm.of_eq ?_) r.symm)
      congr 1
    have hg : gNm 3 (.int (lo : Int)) [.m ms, .d (.int (c : Int)), .m (U.map wayL), s3, s4, s5, s6, s7, s8, s9, s10, .un] = some [.m ms, .d (.int (c : Int)), .m (U.map wayL), .d (.int (lo : Int)), s4, s5, s6, s7, s8, s9, s10, .un] := rfl
    obtain ⟨k', ms', c', U', a, b, d, e3, P', hk', S2, hc'⟩ := web_turns s4 s5 s6 s7 s10 x (lo + 1) _ ms1 (c + m) (U ++ V.map (shiftW (4 * (c : Int)))) (.d (.int (lo : Int))) a8 (.d (webD m V)) P1 (by omega) S' (by omega)
    refine ⟨k', ms', c', U', a, b, d, ?_, P', hk', S2, hc'⟩
    rw [ups_cons, show (lo : Int) + 1 = ((lo + 1 : Nat) : Int) by omega, for_nx hg eb, e3]
theorem erase_permP {α : Type} : ∀ {L : List α} {j : Nat} (h : j < L.length), (L[j] :: L.eraseIdx j).Perm L
  | a :: L, 0, _ => .refl _
  | a :: L, j + 1, h => by
    have h' : j < L.length := by rw [List.length_cons] at h; omega
    show (L[j] :: a :: L.eraseIdx j).Perm (a :: L)
    exact (List.Perm.swap a L[j] _).trans ((erase_permP h').cons a)
/-- names drawn out of what is left -/
theorem names_lc (s1 s2 s3 s5 s6 s7 s8 s9 s11 : Sl) : ∀ (x lo k : Nat) (ms : List PyData) (L : List Int), L.length = x → x ≤ 100 → Pot k ms → k + x < 2 ^ 50 →
    ∃ (Ns : List Int) (k' : Nat) (ms' : List PyData), lcF (gNm 10) (Tw.ret true) (fMet 4 popG (fCons (fCallM 1 g__law_take 0 (fCons (fPeek 4 (fCall lenD (fCons (fVar 4) fNil))) fNil)) fNil)) [10] (ups (lo : Int) x) [.m ms, s1, s2, s3, .m (intsD L), s5, s6, s7, s8, s9, .un, s11] =
      some (intsD Ns, [.m (.l ms'), s1, s2, s3, .m (.l []), s5, s6, s7, s8, s9, .un, s11]) ∧ Ns.Perm L ∧ Pot k' ms' ∧ k' ≤ k + x
  | 0, lo, k, ms, L, hL, _, P, _ => by
    have : L = [] := List.length_eq_zero_iff.mp hL
    subst this
    exact ⟨[], k, ms, rfl, .nil, P, Nat.le_refl _⟩
  | x + 1, lo, k, ms, L, hL, hx, P, hk => by
    obtain ⟨r, ms1, e1, r0, r1, P1⟩ := take_ok (n := ((x + 1 : Nat) : Int)) P (by omega) (by omega) (by omega)
    obtain ⟨j, rfl⟩ : ∃ j : Nat, r = (j : Int) := ⟨r.toNat, by omega⟩
    have jl : j < L.length := by omega
    have pj := pop_ok (L := intsD L) (j := j) (d := .int L[j]) (intsD_get jl) (by rw [intsD_len]; omega)
    rw [intsD_erase] at pj
    have ln : lenD [.list (intsD L)] = some (.int ((x + 1 : Nat) : Int)) := by
      show some (PyData.int (((intsD L).length : Nat) : Int)) = _
      rw [intsD_len, hL]
    obtain ⟨Ns, k', ms', e2, p2, P2, hk'⟩ := names_lc s1 s2 s3 s5 s6 s7 s8 s9 s11 x (lo + 1) (k + 1) ms1 (L.eraseIdx j) (by rw [List.length_eraseIdx_of_lt jl, hL]; rfl) (by omega) P1 (by omega)
    refine ⟨L[j] :: Ns, k', ms', ?_, ?_, P2, by omega⟩
    · rw [ups_cons, show (lo : Int) + 1 = ((lo + 1 : Nat) : Int) by omega]
      exact lc_yes (ρ1 := [.m ms, s1, s2, s3, .m (intsD L), s5, s6, s7, s8, s9, .d (.int (lo : Int)), s11]) (ρ2 := [.m ms, s1, s2, s3, .m (intsD L), s5, s6, s7, s8, s9, .d (.int (lo : Int)), s11]) (ρ3 := [.m (.l ms1), s1, s2, s3, .m (.l (intsD (L.eraseIdx j))), s5, s6, s7, s8, s9, .d (.int (lo : Int)), s11]) rfl rfl (by simp -implicitDefEqProofs only [eq_self, r_thn, r_tk, r_tk0, r_ret, r_lift, r_lift0, r_var, r_vk, r_bin, r_un, r_nil, r_cons, r_tup, r_of, r_call, r_tst, r_kt, r_ikT, r_ikF, r_ite, r_if, r_ife, r_and, r_or, r_not, r_vand, r_vor, r_vnot, r_chain, r_hkT, r_hkF, r_part, r_ok, r_sl, r_seq, r_skN, r_skR, r_skF, r_skB, r_skC, r_next, r_retS, r_rk, r_retF, r_rfk, r_drop, r_dk, r_asg, r_gk, r_gk2, gNm, r_tp, r_gs, r_qk, r_gs0, r_froz, r_frk, r_cmk, r_setI, r_stk, r_stk2, r_sti, r_pl, r_stj, r_aug, r_aug1, r_aug2, r_aug3, r_opN, r_par, r_prk, r_callN, r_tupRg, and_self, ixN0, ixN1, ixN2, r_peek, r_pk, r_pkI, r_pkB, r_pkS, r_pkN, r_tpeek, r_bk1, r_bk2, r_frz, r_fzk, r_own, owk, r_frkK, r_ownK, r_ixEd, r_ixEt, r_ixEl, r_inK, r_ninK, r_mk4, r_mk3, r_met, r_mk2, r_callM, r_mk2b, r_callM1, r_lenIs, r_callF, r_mat, r_mtk, r_mEnd, r_mCase, r_for, r_lk, r_items, r_itL, r_itT, r_rng, r_enum, r_zipM, zipM_ok, r_star, starL_ok, starT_ok, enumL_ok, enumT_ok, for_nil, r_lc, r_lck2, lc_nil, r_outM, r_outMn, r_outM1, r_outM1n, r_outD, r_outDf, r_outDn, r_outF, ixL0, ixL1, ixL2, ixT0, ixT1, ixT2, addI_ok, subI_ok, gtI_ok, geI_ok, leI_ok, ltI_ok, lenL_ok, lenT_ok, abs_ok, intB_ok, List.getElem?_cons_zero, List.getElem?_cons_succ, List.length_cons, List.length_nil, List.set_cons_zero, List.set_cons_succ, List.map_cons, List.map_nil, List.cons_append, List.nil_append, List.replicate_succ, List.replicate_zero, Nat.reduceAdd, Nat.reduceSub, Nat.reduceLT, Nat.reduceEqDiff, Option.bind_some, Option.bind_none, Option.map_some, Option.map_none, if_true, if_false, ite_true, ite_false, ↓reduceIte, Bool.not_true, Bool.not_false, ln, e1, pj]) e2
    · have hp : (L[j] :: L.eraseIdx j).Perm L := (erase_permP jl)
      exact (p2.cons _).trans hp
end Lw

set_option Elab.async false
set_option linter.all false
set_option maxRecDepth 100000
set_option maxHeartbeats 4000000
namespace Lw
open PySem PySem.Spec PyProof.Rows L2 Tw
def taus : List (List Int) := [[0, 1, 2, 3], [1, 0, 3, 2], [2, 3, 0, 1], [3, 1, 0, 2]]
def rn (Ns : List Int) (Ts : List (List Int)) (h : Int) : Int := 4 * Ns.getD (h / 4).toNat 0 + (Ts.getD (h / 4).toNat []).getD (h % 4).toNat 0
theorem taus_facts : ∀ τ ∈ taus, τ.length = 4 ∧ τ.Nodup ∧ ∀ x ∈ τ, 0 ≤ x ∧ x < 4 := by decide
abbrev tnE : FE PyData := fBin ixD (fOf (thnE (fCons (fTup (fCons (Tw.ret (.int 0)) (fCons (Tw.ret (.int 1)) (fCons (Tw.ret (.int 2)) (fCons (Tw.ret (.int 3)) fNil))))) (fCons (fTup (fCons (Tw.ret (.int 1)) (fCons (Tw.ret (.int 0)) (fCons (Tw.ret (.int 3)) (fCons (Tw.ret (.int 2)) fNil))))) (fCons (fTup (fCons (Tw.ret (.int 2)) (fCons (Tw.ret (.int 3)) (fCons (Tw.ret (.int 0)) (fCons (Tw.ret (.int 1)) fNil))))) (fCons (fTup (fCons (Tw.ret (.int 3)) (fCons (Tw.ret (.int 1)) (fCons (Tw.ret (.int 0)) (fCons (Tw.ret (.int 2)) fNil))))) fNil)))) fun xs => liftO (if Tw.sizeOk xs.length = true then some xs else none))) (fCallM 1 g__law_take 0 (fCons (Tw.ret (.int 4)) fNil))
theorem turns_lc (s1 s2 s3 s4 s5 s6 s7 s8 s9 s11 : Sl) : ∀ (x lo k : Nat) (ms : List PyData), Pot k ms → k + x < 2 ^ 60 →
    ∃ (Ts : List (List Int)) (k' : Nat) (ms' : List PyData), lcF (gNm 10) (Tw.ret true) tnE [10] (ups (lo : Int) x) [.m ms, s1, s2, s3, s4, s5, s6, s7, s8, s9, .un, s11] =
      some (rowsD Ts, [.m (.l ms'), s1, s2, s3, s4, s5, s6, s7, s8, s9, .un, s11]) ∧ Ts.length = x ∧ (∀ τ ∈ Ts, τ ∈ taus) ∧ Pot k' ms'
  | 0, lo, k, ms, P, _ => ⟨[], k, ms, rfl, rfl, fun τ h => (nomatch h), P⟩
  | x + 1, lo, k, ms, P, hk => by
    obtain ⟨r, ms1, e1, r0, r1, P1⟩ := take_ok (n := 4) P (by omega) (by decide) (by decide)
    obtain ⟨Ts, k', ms', e2, l2, t2, P2⟩ := turns_lc s1 s2 s3 s4 s5 s6 s7 s8 s9 s11 x (lo + 1) (k + 1) ms1 P1 (by omega)
    have s4' : Tw.sizeOk 4 = true := rfl
    have pk : ∃ τ ∈ taus, ixD (.list [.tuple [.int 0, .int 1, .int 2, .int 3], .tuple [.int 1, .int 0, .int 3, .int 2], .tuple [.int 2, .int 3, .int 0, .int 1], .tuple [.int 3, .int 1, .int 0, .int 2]]) (.int r) = some (.tuple (intsD τ)) := by
      have e : r = 0 ∨ r = 1 ∨ r = 2 ∨ r = 3 := by omega
      rcases e with rfl | rfl | rfl | rfl
      · exact ⟨[0, 1, 2, 3], by decide, rfl⟩
      · exact ⟨[1, 0, 3, 2], by decide, rfl⟩
      · exact ⟨[2, 3, 0, 1], by decide, rfl⟩
      · exact ⟨[3, 1, 0, 2], by decide, rfl⟩
    obtain ⟨τ, ht, ix⟩ := pk
    refine ⟨τ :: Ts, k', ms', ?_, by rw [List.length_cons, l2], fun σ hσ => ?_, P2⟩
    · rw [ups_cons, show (lo : Int) + 1 = ((lo + 1 : Nat) : Int) by omega]
      exact lc_yes (ρ1 := [.m ms, s1, s2, s3, s4, s5, s6, s7, s8, s9, .d (.int (lo : Int)), s11]) (ρ2 := [.m ms, s1, s2, s3, s4, s5, s6, s7, s8, s9, .d (.int (lo : Int)), s11]) (ρ3 := [.m (.l ms1), s1, s2, s3, s4, s5, s6, s7, s8, s9, .d (.int (lo : Int)), s11]) rfl rfl (by
        unfold tnE
        simp -implicitDefEqProofs only [eq_self, r_thn, r_tk, r_tk0, r_ret, r_lift, r_lift0, r_var, r_vk, r_bin, r_un, r_nil, r_cons, r_tup, r_of, r_call, r_tst, r_kt, r_ikT, r_ikF, r_ite, r_if, r_ife, r_and, r_or, r_not, r_vand, r_vor, r_vnot, r_chain, r_hkT, r_hkF, r_part, r_ok, r_sl, r_seq, r_skN, r_skR, r_skF, r_skB, r_skC, r_next, r_retS, r_rk, r_retF, r_rfk, r_drop, r_dk, r_asg, r_gk, r_gk2, gNm, r_tp, r_gs, r_qk, r_gs0, r_froz, r_frk, r_cmk, r_setI, r_stk, r_stk2, r_sti, r_pl, r_stj, r_aug, r_aug1, r_aug2, r_aug3, r_opN, r_par, r_prk, r_callN, r_tupRg, and_self, ixN0, ixN1, ixN2, r_peek, r_pk, r_pkI, r_pkB, r_pkS, r_pkN, r_tpeek, r_bk1, r_bk2, r_frz, r_fzk, r_own, owk, r_frkK, r_ownK, r_ixEd, r_ixEt, r_ixEl, r_inK, r_ninK, r_mk4, r_mk3, r_met, r_mk2, r_callM, r_mk2b, r_callM1, r_lenIs, r_callF, r_mat, r_mtk, r_mEnd, r_mCase, r_for, r_lk, r_items, r_itL, r_itT, r_rng, r_enum, r_zipM, zipM_ok, r_star, starL_ok, starT_ok, enumL_ok, enumT_ok, for_nil, r_lc, r_lck2, lc_nil, r_outM, r_outMn, r_outM1, r_outM1n, r_outD, r_outDf, r_outDn, r_outF, ixL0, ixL1, ixL2, ixT0, ixT1, ixT2, addI_ok, subI_ok, gtI_ok, geI_ok, leI_ok, ltI_ok, lenL_ok, lenT_ok, abs_ok, intB_ok, List.getElem?_cons_zero, List.getElem?_cons_succ, List.length_cons, List.length_nil, List.set_cons_zero, List.set_cons_succ, List.map_cons, List.map_nil, List.cons_append, List.nil_append, List.replicate_succ, List.replicate_zero, Nat.reduceAdd, Nat.reduceSub, Nat.reduceLT, Nat.reduceEqDiff, Option.bind_some, Option.bind_none, Option.map_some, Option.map_none, if_true, if_false, ite_true, ite_false, ↓reduceIte, Bool.not_true, Bool.not_false, s4', e1, ix]) e2
    · rcases List.mem_cons.mp hσ with rfl | hσ
      · exact ht
      · exact t2 σ hσ
section
variable {c : Nat} {Ns : List Int} {Ts : List (List Int)}
theorem rn_at (hN : Ns.Perm (rangeI c)) (hl : Ts.length = c) (hT : ∀ τ ∈ Ts, τ ∈ taus) {h : Int} (h0 : 0 ≤ h ∧ h < ((4 * c : Nat) : Int)) :
    ∃ (n : Int) (τ : List Int) (y : Int), Ns[(h / 4).toNat]? = some n ∧ Ts[(h / 4).toNat]? = some τ ∧ τ[(h % 4).toNat]? = some y ∧ τ ∈ taus ∧ (0 ≤ n ∧ n < (c : Int)) ∧ (0 ≤ y ∧ y < 4) ∧ rn Ns Ts h = 4 * n + y := by
  have lN : Ns.length = c := by rw [hN.length_eq, len_rangeI]
  have l1 : (h / 4).toNat < Ns.length := by omega
  have l2 : (h / 4).toNat < Ts.length := by omega
  have e1 := List.getElem?_eq_getElem l1
  have e2 := List.getElem?_eq_getElem l2
  have ht := hT _ (List.getElem_mem l2)
  obtain ⟨t1, t2, t3⟩ := taus_facts _ ht
  have l3 : (h % 4).toNat < Ts[(h / 4).toNat].length := by rw [t1]; omega
  have e3 := List.getElem?_eq_getElem l3
  refine ⟨_, _, _, e1, e2, e3, ht, mem_rangeI.mp (hN.mem_iff.mp (List.getElem_mem l1)), t3 _ (List.getElem_mem l3), ?_⟩
  unfold rn
  rw [List.getD_eq_getElem?_getD, e1, List.getD_eq_getElem?_getD (l := Ts), e2]
  show 4 * Ns[(h / 4).toNat] + (Ts[(h / 4).toNat]).getD (h % 4).toNat 0 = _
  rw [List.getD_eq_getElem?_getD, e3]
  rfl
theorem rn_inj (hN : Ns.Perm (rangeI c)) (hl : Ts.length = c) (hT : ∀ τ ∈ Ts, τ ∈ taus) {h g : Int} (h0 : 0 ≤ h ∧ h < ((4 * c : Nat) : Int)) (g0 : 0 ≤ g ∧ g < ((4 * c : Nat) : Int)) (e : rn Ns Ts h = rn Ns Ts g) : h = g := by
  obtain ⟨n, τ, y, a1, a2, a3, a4, a5, a6, a7⟩ := rn_at hN hl hT h0
  obtain ⟨n', τ', y', b1, b2, b3, b4, b5, b6, b7⟩ := rn_at hN hl hT g0
  have en : n = n' := by omega
  have ey : y = y' := by omega
  have ndN : Ns.Nodup := hN.nodup_iff.mpr (nodup_rangeI c)
  have ip : (h / 4).toNat = (g / 4).toNat := by
    obtain ⟨l1, e1⟩ := List.getElem?_eq_some_iff.mp a1
    obtain ⟨l2, e2⟩ := List.getElem?_eq_some_iff.mp b1
    exact (List.getElem_inj ndN).mp (by rw [e1, e2, en])
  rw [ip, b2] at a2
  have et : τ' = τ := Option.some.inj a2
  subst et
  have ir : (h % 4).toNat = (g % 4).toNat := by
    obtain ⟨l1, e1⟩ := List.getElem?_eq_some_iff.mp a3
    obtain ⟨l2, e2⟩ := List.getElem?_eq_some_iff.mp b3
    exact (List.getElem_inj (taus_facts _ a4).2.1).mp (by rw [e1, e2, ey])
  omega
theorem rn_perm (hN : Ns.Perm (rangeI c)) (hl : Ts.length = c) (hT : ∀ τ ∈ Ts, τ ∈ taus) : ((rangeI (4 * c)).map (rn Ns Ts)).Perm (rangeI (4 * c)) := by
  refine perm_of_nodup (map_ndP (nodup_rangeI _) fun a ha b hb e => rn_inj hN hl hT (mem_rangeI.mp ha) (mem_rangeI.mp hb) e) (fun x hx => ?_) (by rw [List.length_map, len_rangeI])
  obtain ⟨h, hh, rfl⟩ := List.mem_map.mp hx
  obtain ⟨n, τ, y, _, _, _, _, a5, a6, a7⟩ := rn_at hN hl hT (mem_rangeI.mp hh)
  omega
theorem ren_way (hN : Ns.Perm (rangeI c)) (hl : Ts.length = c) (hT : ∀ τ ∈ Ts, τ ∈ taus) {v : Int × Option Int} (hv : ∀ h ∈ handsW v, 0 ≤ h ∧ h < ((4 * c : Nat) : Int)) (nd : (handsW v).Nodup) :
    ∃ w : Int × Option Int, PyData.tuple (intsD (sortI ((handsW v).map (rn Ns Ts)))) = wayD w ∧ (handsW w).Perm ((handsW v).map (rn Ns Ts)) ∧ ∀ g, w.2 = some g → w.1 < g := by
  have ndm : ((handsW v).map (rn Ns Ts)).Nodup := map_ndP nd fun a ha b hb e => rn_inj hN hl hT (hv a ha) (hv b hb) e
  have up := sortI_up ndm
  have pm := sortI_perm ((handsW v).map (rn Ns Ts))
  have ln : (sortI ((handsW v).map (rn Ns Ts))).length = (handsW v).length := by rw [pm.length_eq, List.length_map]
  generalize eL : sortI ((handsW v).map (rn Ns Ts)) = L at up pm ln
  obtain ⟨a, b⟩ := v
  cases b with
  | none =>
    match L, ln with
    | [p], _ => exact ⟨(p, none), rfl, pm, fun g h => by cases h⟩
  | some g =>
    match L, ln with
    | [p, q], _ =>
      refine ⟨(p, some q), rfl, pm, fun x h => ?_⟩
      cases h
      exact (List.pairwise_cons.mp up).1 q (List.mem_singleton.mpr rfl)
theorem ren_turn (hc : c ≤ 60) (hN : Ns.Perm (rangeI c)) (hl : Ts.length = c) (hT : ∀ τ ∈ Ts, τ ∈ taus) (s0 s1 s2 s3 s4 s9 s10 : Sl) {v : Int × Option Int} (hv : ∀ h ∈ handsW v, 0 ≤ h ∧ h < ((4 * c : Nat) : Int)) {F : List PyData} (hF : F.length < 90000) :
    b3__law_beside [s0, s1, s2, s3, s4, .d (.list (intsD Ns)), .d (.list (rowsD Ts)), .m F, .d (wayL v), s9, s10, .un] = some (.nx [s0, s1, s2, s3, s4, .d (.list (intsD Ns)), .d (.list (rowsD Ts)), .m (.l (F ++ [.tuple (intsD (sortI ((handsW v).map (rn Ns Ts))))])), .d (wayL v), s9, s10, .un]) := by
  have lc : ∀ L : List Int, (∀ h ∈ L, 0 ≤ h ∧ h < ((4 * c : Nat) : Int)) → lcF (gNm 11) (Tw.ret true) (fBin addD (fBin mulI (Tw.ret (.int 4)) (fBin ixD (fVar 5) (fBin fdivD (fVar 11) (Tw.ret (.int 4))))) (fBin ixD (fBin ixD (fVar 6) (fBin fdivD (fVar 11) (Tw.ret (.int 4)))) (fBin modD (fVar 11) (Tw.ret (.int 4))))) [11] (intsD L) [s0, s1, s2, s3, s4, .d (.list (intsD Ns)), .d (.list (rowsD Ts)), .m F, .d (.list (intsD (handsW v))), s9, s10, .un] =
      some (intsD (L.map (rn Ns Ts)), [s0, s1, s2, s3, s4, .d (.list (intsD Ns)), .d (.list (rowsD Ts)), .m F, .d (.list (intsD (handsW v))), s9, s10, .un]) := fun L => by
    induction L with
    | nil => intro _; rfl
    | cons h L ih =>
      intro hL
      have h0 := hL h (List.mem_cons_self ..)
      obtain ⟨n, τ, y, a1, a2, a3, a4, a5, a6, a7⟩ := rn_at hN hl hT h0
      obtain ⟨j, hj⟩ : ∃ j : Nat, h / 4 = (j : Int) := ⟨(h / 4).toNat, by omega⟩
      obtain ⟨r, hr⟩ : ∃ r : Nat, h % 4 = (r : Int) := ⟨(h % 4).toNat, by omega⟩
      rw [hj, Int.toNat_natCast] at a1 a2
      rw [hr, Int.toNat_natCast] at a3
      have fd : fdivD (.int h) (.int 4) = some (.int (j : Int)) := by
        rw [fdiv_ok (i := h) (j := 4) 3 (by decide) (by decide) (by decide) (by decide), hj]
      have md : modD (.int h) (.int 4) = some (.int (r : Int)) := by rw [mod_ok (by decide), hr]
      have x1 : ixD (.list (intsD Ns)) (.int (j : Int)) = some (.int n) := ixLn (by unfold intsD; rw [List.getElem?_map, a1]; rfl)
      have x2 : ixD (.list (rowsD Ts)) (.int (j : Int)) = some (.tuple (intsD τ)) := ixLn (by unfold rowsD; rw [List.getElem?_map, a2]; rfl)
      have x3 : ixD (.tuple (intsD τ)) (.int (r : Int)) = some (.int y) := ixTn (by unfold intsD; rw [List.getElem?_map, a3]; rfl)
      have m4 : mulI (.int 4) (.int n) = some (.int (4 * n)) := mul_ok 3 7 (by decide) (by decide) (by decide) (by decide) (by omega) (by omega) (by decide)
      have ih' := ih fun x hx => hL x (List.mem_cons_of_mem _ hx)
      rw [List.map_cons, a7]
      exact lc_yes (ρ1 := [s0, s1, s2, s3, s4, .d (.list (intsD Ns)), .d (.list (rowsD Ts)), .m F, .d (.list (intsD (handsW v))), s9, s10, .d (.int h)]) (ρ2 := [s0, s1, s2, s3, s4, .d (.list (intsD Ns)), .d (.list (rowsD Ts)), .m F, .d (.list (intsD (handsW v))), s9, s10, .d (.int h)]) (ρ3 := [s0, s1, s2, s3, s4, .d (.list (intsD Ns)), .d (.list (rowsD Ts)), .m F, .d (.list (intsD (handsW v))), s9, s10, .d (.int h)]) rfl rfl (by simp -implicitDefEqProofs only [eq_self, r_thn, r_tk, r_tk0, r_ret, r_lift, r_lift0, r_var, r_vk, r_bin, r_un, r_nil, r_cons, r_tup, r_of, r_call, r_tst, r_kt, r_ikT, r_ikF, r_ite, r_if, r_ife, r_and, r_or, r_not, r_vand, r_vor, r_vnot, r_chain, r_hkT, r_hkF, r_part, r_ok, r_sl, r_seq, r_skN, r_skR, r_skF, r_skB, r_skC, r_next, r_retS, r_rk, r_retF, r_rfk, r_drop, r_dk, r_asg, r_gk, r_gk2, gNm, r_tp, r_gs, r_qk, r_gs0, r_froz, r_frk, r_cmk, r_setI, r_stk, r_stk2, r_sti, r_pl, r_stj, r_aug, r_aug1, r_aug2, r_aug3, r_opN, r_par, r_prk, r_callN, r_tupRg, and_self, ixN0, ixN1, ixN2, r_peek, r_pk, r_pkI, r_pkB, r_pkS, r_pkN, r_tpeek, r_bk1, r_bk2, r_frz, r_fzk, r_own, owk, r_frkK, r_ownK, r_ixEd, r_ixEt, r_ixEl, r_inK, r_ninK, r_mk4, r_mk3, r_met, r_mk2, r_callM, r_mk2b, r_callM1, r_lenIs, r_callF, r_mat, r_mtk, r_mEnd, r_mCase, r_for, r_lk, r_items, r_itL, r_itT, r_rng, r_enum, r_zipM, zipM_ok, r_star, starL_ok, starT_ok, enumL_ok, enumT_ok, for_nil, r_lc, r_lck2, lc_nil, r_outM, r_outMn, r_outM1, r_outM1n, r_outD, r_outDf, r_outDn, r_outF, ixL0, ixL1, ixL2, ixT0, ixT1, ixT2, addI_ok, subI_ok, gtI_ok, geI_ok, leI_ok, ltI_ok, lenL_ok, lenT_ok, abs_ok, intB_ok, List.getElem?_cons_zero, List.getElem?_cons_succ, List.length_cons, List.length_nil, List.set_cons_zero, List.set_cons_succ, List.map_cons, List.map_nil, List.cons_append, List.nil_append, List.replicate_succ, List.replicate_zero, Nat.reduceAdd, Nat.reduceSub, Nat.reduceLT, Nat.reduceEqDiff, Option.bind_some, Option.bind_none, Option.map_some, Option.map_none, if_true, if_false, ite_true, ite_false, ↓reduceIte, Bool.not_true, Bool.not_false, fd, md, x1, x2, x3, m4]) ih'
  have lc := lc (handsW v) hv
  have sz : Tw.sizeOk (intsD (handsW v)).length = true := by
    obtain ⟨a, b⟩ := v
    cases b <;> rfl
  have so := sortI_ok ((handsW v).map (rn Ns Ts))
  have tl : ∀ ds : List PyData, tupleD [.list ds] = some (.tuple ds) := fun _ => rfl
  have ap := app_ok (L := F) (d := .tuple (intsD (sortI ((handsW v).map (rn Ns Ts))))) (by omega)
  unfold wayL
  unfold b3__law_beside
  simp -implicitDefEqProofs only [eq_self, r_thn, r_tk, r_tk0, r_ret, r_lift, r_lift0, r_var, r_vk, r_bin, r_un, r_nil, r_cons, r_tup, r_of, r_call, r_tst, r_kt, r_ikT, r_ikF, r_ite, r_if, r_ife, r_and, r_or, r_not, r_vand, r_vor, r_vnot, r_chain, r_hkT, r_hkF, r_part, r_ok, r_sl, r_seq, r_skN, r_skR, r_skF, r_skB, r_skC, r_next, r_retS, r_rk, r_retF, r_rfk, r_drop, r_dk, r_asg, r_gk, r_gk2, gNm, r_tp, r_gs, r_qk, r_gs0, r_froz, r_frk, r_cmk, r_setI, r_stk, r_stk2, r_sti, r_pl, r_stj, r_aug, r_aug1, r_aug2, r_aug3, r_opN, r_par, r_prk, r_callN, r_tupRg, and_self, ixN0, ixN1, ixN2, r_peek, r_pk, r_pkI, r_pkB, r_pkS, r_pkN, r_tpeek, r_bk1, r_bk2, r_frz, r_fzk, r_own, owk, r_frkK, r_ownK, r_ixEd, r_ixEt, r_ixEl, r_inK, r_ninK, r_mk4, r_mk3, r_met, r_mk2, r_callM, r_mk2b, r_callM1, r_lenIs, r_callF, r_mat, r_mtk, r_mEnd, r_mCase, r_for, r_lk, r_items, r_itL, r_itT, r_rng, r_enum, r_zipM, zipM_ok, r_star, starL_ok, starT_ok, enumL_ok, enumT_ok, for_nil, r_lc, r_lck2, lc_nil, r_outM, r_outMn, r_outM1, r_outM1n, r_outD, r_outDf, r_outDn, r_outF, ixL0, ixL1, ixL2, ixT0, ixT1, ixT2, addI_ok, subI_ok, gtI_ok, geI_ok, leI_ok, ltI_ok, lenL_ok, lenT_ok, abs_ok, intB_ok, List.getElem?_cons_zero, List.getElem?_cons_succ, List.length_cons, List.length_nil, List.set_cons_zero, List.set_cons_succ, List.map_cons, List.map_nil, List.cons_append, List.nil_append, List.replicate_succ, List.replicate_zero, Nat.reduceAdd, Nat.reduceSub, Nat.reduceLT, Nat.reduceEqDiff, Option.bind_some, Option.bind_none, Option.map_some, Option.map_none, if_true, if_false, ite_true, ite_false, ↓reduceIte, Bool.not_true, Bool.not_false, r_lck sz, wipeR, lc, backR, so, tl, ap]
theorem ren_loop (hc : c ≤ 60) (hN : Ns.Perm (rangeI c)) (hl : Ts.length = c) (hT : ∀ τ ∈ Ts, τ ∈ taus) (s0 s1 s2 s3 s4 s9 s10 : Sl) : ∀ (U : List (Int × Option Int)) (Wf : List (Int × Option Int)) (s8 : Sl), (flatW U).Nodup → (∀ h ∈ flatW U, 0 ≤ h ∧ h < ((4 * c : Nat) : Int)) → Wf.length + U.length < 80000 → (∀ w ∈ Wf, ∀ g, w.2 = some g → w.1 < g) →
    ∃ (Wf' : List (Int × Option Int)) (s8' : Sl), forF (gNm 8) b3__law_beside (U.map wayL) [s0, s1, s2, s3, s4, .d (.list (intsD Ns)), .d (.list (rowsD Ts)), .m (Wf.map wayD), s8, s9, s10, .un] = some (.nx [s0, s1, s2, s3, s4, .d (.list (intsD Ns)), .d (.list (rowsD Ts)), .m (.l (Wf'.map wayD)), s8', s9, s10, .un]) ∧ (flatW Wf').Perm (flatW Wf ++ (flatW U).map (rn Ns Ts)) ∧ ∀ w ∈ Wf', ∀ g, w.2 = some g → w.1 < g
  | [], Wf, s8, _, _, _, ho => ⟨Wf, s8, rfl, List.Perm.of_eq (List.append_nil _).symm, ho⟩
  | v :: U, Wf, s8, nd, hr, hz, ho => by
    have efl : flatW (v :: U) = handsW v ++ flatW U := rfl
    rw [efl] at nd hr
    obtain ⟨n1, n2, n3⟩ := List.nodup_append.mp nd
    rw [List.length_cons] at hz
    have hv : ∀ h ∈ handsW v, 0 ≤ h ∧ h < ((4 * c : Nat) : Int) := fun h hh => hr h (List.mem_append_left _ hh)
    have e1 := ren_turn hc hN hl hT s0 s1 s2 s3 s4 s9 s10 hv (F := Wf.map wayD) (by rw [List.length_map]; omega)
    obtain ⟨w, ew, pw, ow⟩ := ren_way hN hl hT hv n1
    rw [ew] at e1
    have em : Wf.map wayD ++ [wayD w] = (Wf ++ [w]).map wayD := by rw [List.map_append]; rfl
    rw [em] at e1
    have hg : gNm 8 (wayL v) [s0, s1, s2, s3, s4, .d (.list (intsD Ns)), .d (.list (rowsD Ts)), .m (Wf.map wayD), s8, s9, s10, .un] = some [s0, s1, s2, s3, s4, .d (.list (intsD Ns)), .d (.list (rowsD Ts)), .m (Wf.map wayD), .d (wayL v), s9, s10, .un] := rfl
    obtain ⟨Wf', a, e2, p2, o2⟩ := ren_loop hc hN hl hT s0 s1 s2 s3 s4 s9 s10 U (Wf ++ [w]) (.d (wayL v)) n2 (fun h hh => hr h (List.mem_append_right _ hh)) (by rw [List.length_append, List.length_singleton]; omega) fun x hx g hg' => by
      rcases List.mem_append.mp hx with q | q
      · exact ho x q g hg'
      · rw [List.mem_singleton.mp q] at hg' ⊢
        exact ow g hg'
    refine ⟨Wf', a, by rw [List.map_cons, for_nx hg e1, e2], p2.trans ?_, o2⟩
    rw [efl, List.map_append, flat_append]
    have ew1 : flatW [w] = handsW w := by
      show handsW w ++ [] = handsW w
      rw [List.append_nil]
    rw [ew1, List.append_assoc]
    exact (List.Perm.refl _).append (pw.append (List.Perm.refl _))
end
theorem beside_ok {k : Nat} {ms : List PyData} (P : Pot k ms) (hk : k < 1000) : ∃ (c : Nat) (S : List (Int × Option Int)) (ms' : List PyData), g__law_beside ms [] = some (webD c S, ms') ∧ whole (4 * c) S ∧ c ≤ 20 := by
  obtain ⟨r, ms1, e1, r0, r1, P1⟩ := take_ok (n := 3) P (by omega) (by decide) (by decide)
  obtain ⟨x, hx⟩ : ∃ x : Nat, 2 + r = (x : Int) := ⟨(2 + r).toNat, by omega⟩
  have rx := rng_ok (n := x) (by omega)
  have S0 : Side 0 [] := ⟨.nil, Nat.le_refl _⟩
  obtain ⟨k2, ms2, c, U, a3, a8, a9, e2, P2, hk2, SU, hc⟩ := web_turns .un .un .un .un .un x 0 _ ms1 0 [] .un .un .un P1 (by omega) S0 (by omega)
  have z0 : ((0 : Nat) : Int) = 0 := rfl
  rw [z0] at e2
  have s0 : Tw.sizeOk 0 = true := rfl
  have rg : rg1 (.int (c : Int)) = some (intsD (rangeI c)) := by
    have : rgOk 0 (c : Int) = true := decide_eq_true (by omega)
    show (if rgOk 0 (c : Int) = true then some (ups 0 ((c : Int)).toNat) else none) = _
    rw [if_pos this, Int.toNat_natCast, ups_intP]
  have rc := rng_ok (n := c) (by omega)
  have szc : Tw.sizeOk (ups 0 c).length = true := decide_eq_true (by rw [Tw.ups_len]; omega)
  obtain ⟨Ns, k3, ms3, e3, pN, P3, hk3⟩ := names_lc (.d (.int (c : Int))) (.d (.list (U.map wayL))) a3 .un .un .un a8 a9 .un c 0 k2 ms2 (rangeI c) (len_rangeI c) (by omega) P2 (by omega)
  rw [z0] at e3
  obtain ⟨Ts, k4, ms4, e4, lT, hT, P4⟩ := turns_lc (.d (.int (c : Int))) (.d (.list (U.map wayL))) a3 (.m (.l [])) (.d (.list (intsD Ns))) .un .un a8 a9 .un c 0 k3 ms3 P3 (by omega)
  rw [z0] at e4
  have nd : (flatW U).Nodup := SU.perm.nodup_iff.mpr (nodup_rangeI _)
  obtain ⟨Wf, b8, e5, pW, oW⟩ := ren_loop (by omega : c ≤ 60) pN lT hT (.m (.l ms4)) (.d (.int (c : Int))) (.d (.list (U.map wayL))) a3 (.m (.l [])) a9 .un U [] a8 nd (fun h hh => mem_rangeI.mp (SU.perm.mem_iff.mp hh)) (by have := SU.len; rw [List.length_nil]; omega) fun w hw => (nomatch hw)
  have pW' : (flatW Wf).Perm (rangeI (4 * c)) := pW.trans (((SU.perm.map _).trans (rn_perm pN lT hT)))
  obtain ⟨S, so, Wh⟩ := sorted_wholeG pW' oW
  have tl : ∀ ds : List PyData, tupleD [.list ds] = some (.tuple ds) := fun _ => rfl
  have s2 : Tw.sizeOk 2 = true := rfl
  refine ⟨c, S, ms4, ?_, Wh, hc⟩
  have e2' : forF (gNm 3) b2__law_beside (ups 0 x) [.m ms1, .d (.int 0), .m (.l []), .un, .un, .un, .un, .un, .un, .un, .un, .un] = _ := e2
  have e5' : forF (gNm 8) b3__law_beside (U.map wayL) [.m (.l ms4), .d (.int (c : Int)), .d (.list (U.map wayL)), a3, .m (.l []), .d (.list (intsD Ns)), .d (.list (rowsD Ts)), .m (.l []), a8, a9, .un, .un] = _ := e5
  unfold g__law_beside runM f__law_beside
  simp -implicitDefEqProofs only [eq_self, r_thn, r_tk, r_tk0, r_ret, r_lift, r_lift0, r_var, r_vk, r_bin, r_un, r_nil, r_cons, r_tup, r_of, r_call, r_tst, r_kt, r_ikT, r_ikF, r_ite, r_if, r_ife, r_and, r_or, r_not, r_vand, r_vor, r_vnot, r_chain, r_hkT, r_hkF, r_part, r_ok, r_sl, r_seq, r_skN, r_skR, r_skF, r_skB, r_skC, r_next, r_retS, r_rk, r_retF, r_rfk, r_drop, r_dk, r_asg, r_gk, r_gk2, gNm, r_tp, r_gs, r_qk, r_gs0, r_froz, r_frk, r_cmk, r_setI, r_stk, r_stk2, r_sti, r_pl, r_stj, r_aug, r_aug1, r_aug2, r_aug3, r_opN, r_par, r_prk, r_callN, r_tupRg, and_self, ixN0, ixN1, ixN2, r_peek, r_pk, r_pkI, r_pkB, r_pkS, r_pkN, r_tpeek, r_bk1, r_bk2, r_frz, r_fzk, r_own, owk, r_frkK, r_ownK, r_ixEd, r_ixEt, r_ixEl, r_inK, r_ninK, r_mk4, r_mk3, r_met, r_mk2, r_callM, r_mk2b, r_callM1, r_lenIs, r_callF, r_mat, r_mtk, r_mEnd, r_mCase, r_for, r_lk, r_items, r_itL, r_itT, r_rng, r_enum, r_zipM, zipM_ok, r_star, starL_ok, starT_ok, enumL_ok, enumT_ok, for_nil, r_lc, r_lck2, lc_nil, r_outM, r_outMn, r_outM1, r_outM1n, r_outD, r_outDf, r_outDn, r_outF, ixL0, ixL1, ixL2, ixT0, ixT1, ixT2, addI_ok, subI_ok, gtI_ok, geI_ok, leI_ok, ltI_ok, lenL_ok, lenT_ok, abs_ok, intB_ok, List.getElem?_cons_zero, List.getElem?_cons_succ, List.length_cons, List.length_nil, List.set_cons_zero, List.set_cons_succ, List.map_cons, List.map_nil, List.cons_append, List.nil_append, List.replicate_succ, List.replicate_zero, Nat.reduceAdd, Nat.reduceSub, Nat.reduceLT, Nat.reduceEqDiff, Option.bind_some, Option.bind_none, Option.map_some, Option.map_none, if_true, if_false, ite_true, ite_false, ↓reduceIte, Bool.not_true, Bool.not_false, e1, hx, rx, s0, e2', rg, rc, r_lck szc, wipeR, e3, backR, e4, e5', so, tl, s2]
  rfl
end Lw

set_option Elab.async false
set_option linter.all false
set_option maxRecDepth 100000
set_option maxHeartbeats 4000000
namespace Lw
open PySem PySem.Spec PyProof.Rows L2 Tw
def nF (V : List (Int × Option Int)) (Q : List Int) : List Int := (inF Q 0 V).map fun k : Nat => (k : Int)
section
variable {m : Nat} {V : List (Int × Option Int)} {B : List PyData}
theorem natsD_nF (Q : List Int) : natsD (inF Q 0 V) = intsD (nF V Q) := by
  unfold natsD nF intsD
  rw [List.map_map]
  rfl
theorem nF_mem {Q : List Int} {x : Int} : x ∈ nF V Q ↔ ∃ (i : Nat) (v : Int × Option Int), x = (i : Int) ∧ V[i]? = some v ∧ v.1 / 4 ∈ Q := by
  unfold nF
  rw [List.mem_map]
  constructor
  · rintro ⟨k, hk, rfl⟩
    obtain ⟨v, h1, h2⟩ := inF_in k hk
    exact ⟨k, v, rfl, h1, h2⟩
  · rintro ⟨i, v, rfl, h1, h2⟩
    exact ⟨i, inF_mem.mpr ⟨i, v, h1, by omega, h2⟩, rfl⟩
theorem nF_nd (Q : List Int) : (nF V Q).Nodup := ((inF_up Q V 0).imp (fun {a b} h => by omega : ∀ {a b : Nat}, a < b → (a : Int) ≠ (b : Int))).map _ fun a b h => h
theorem nums_nd : ∀ L : List (List Int), L.flatten.Nodup → (L.flatMap (nF V)).Nodup
  | [], _ => .nil
  | Q :: L, nd => by
    rw [List.flatten_cons] at nd
    obtain ⟨n1, n2, n3⟩ := List.nodup_append.mp nd
    rw [List.flatMap_cons]
    refine List.nodup_append.mpr ⟨nF_nd Q, nums_nd L n2, fun a ha b hb e => ?_⟩
    subst e
    obtain ⟨A, hA, h2⟩ := List.mem_flatMap.mp hb
    obtain ⟨i, v, e1, h3, h4⟩ := nF_mem.mp ha
    obtain ⟨j, w, e2, h5, h6⟩ := nF_mem.mp h2
    have : i = j := by omega
    subst this
    rw [h3] at h5
    cases h5
    exact n3 _ h4 _ (List.mem_flatten.mpr ⟨A, hA, h6⟩) rfl
theorem nums_mem (W : whole (4 * m) V) {L : List (List Int)} (cov : ∀ p, 0 ≤ p ∧ p < (m : Int) → p ∈ L.flatten) (x : Int) : x ∈ L.flatMap (nF V) ↔ 0 ≤ x ∧ x < (V.length : Int) := by
  rw [List.mem_flatMap]
  constructor
  · rintro ⟨A, hA, h⟩
    obtain ⟨i, v, rfl, h3, h4⟩ := nF_mem.mp h
    have := (List.getElem?_eq_some_iff.mp h3).1
    omega
  · rintro ⟨h0, h1⟩
    obtain ⟨i, rfl⟩ : ∃ i : Nat, x = (i : Int) := ⟨x.toNat, by omega⟩
    have li : i < V.length := by omega
    have hv : V[i]? = some V[i] := List.getElem?_eq_getElem li
    have rg := mem_rangeI.mp (W.1.mem_iff.mp (mem_flat (List.mem_of_getElem? hv)))
    obtain ⟨A, hA, h⟩ := List.mem_flatten.mp (cov (V[i].1 / 4) (by omega))
    exact ⟨A, hA, nF_mem.mpr ⟨i, V[i], rfl, hv, h⟩⟩
theorem ext_tup {A C : List Int} (h : A.length + C.length ≤ 100000) : extG (intsD A) [.tuple (intsD C)] = some (.none, intsD (A ++ C)) := by
  show (if sizeOk ((intsD A).length + (intsD C).length) = true then some (PyData.none, intsD A ++ intsD C) else none) = _
  have sz : Tw.sizeOk ((intsD A).length + (intsD C).length) = true := decide_eq_true (by rw [intsD_len, intsD_len]; exact h)
  rw [if_pos sz]
  unfold intsD
  rw [List.map_append]
theorem ext_lst {A C : List Int} (h : A.length + C.length ≤ 100000) : extG (intsD A) [.list (intsD C)] = some (.none, intsD (A ++ C)) := by
  show (if sizeOk ((intsD A).length + (intsD C).length) = true then some (PyData.none, intsD A ++ intsD C) else none) = _
  have sz : Tw.sizeOk ((intsD A).length + (intsD C).length) = true := decide_eq_true (by rw [intsD_len, intsD_len]; exact h)
  rw [if_pos sz]
  unfold intsD
  rw [List.map_append]
theorem law_b1 (W : whole (4 * m) V) (t : Tab (4 * m) V B) (hw : g_need_web [webD m V] = some (.list B)) (hm : m ≤ 60) {T : Int → Int} (N : Net (4 * m) (XB B) T) (PI : PartsI m (XB B) (partsR m (XB B))) (s0 s1 s3 s8 : Sl) {ps fs Q : List Int} {j : Nat} (hj : (partsR m (XB B))[j]? = some Q) (hp : ps.length + Q.length ≤ 100000) (hf : fs.length + (nF V Q).length ≤ 100000) :
    b1_law [s0, s1, .d (webD m V), s3, .m (intsD ps), .m (intsD fs), .d (.int (j : Int)), .d (.tuple (intsD Q)), s8] = some (.nx [s0, s1, .d (webD m V), s3, .m (.l (intsD (ps ++ Q))), .m (.l (intsD (fs ++ nF V Q))), .d (.int (j : Int)), .d (.tuple (intsD Q)), .d (.list (intsD (nF V Q)))]) := by
  have r := part_right_ok W t hw hm N PI hj
  rw [natsD_nF] at r
  have q : isNoneD (.list (intsD (nF V Q))) .none = some (.bool false) := rfl
  have x1 := ext_tup hp
  have x2 := ext_lst hf
  unfold b1_law
  simp -implicitDefEqProofs only [eq_self, r_thn, r_tk, r_tk0, r_ret, r_lift, r_lift0, r_var, r_vk, r_bin, r_un, r_nil, r_cons, r_tup, r_of, r_call, r_tst, r_kt, r_ikT, r_ikF, r_ite, r_if, r_ife, r_and, r_or, r_not, r_vand, r_vor, r_vnot, r_chain, r_hkT, r_hkF, r_part, r_ok, r_sl, r_seq, r_skN, r_skR, r_skF, r_skB, r_skC, r_next, r_retS, r_rk, r_retF, r_rfk, r_drop, r_dk, r_asg, r_gk, r_gk2, gNm, r_tp, r_gs, r_qk, r_gs0, r_froz, r_frk, r_cmk, r_setI, r_stk, r_stk2, r_sti, r_pl, r_stj, r_aug, r_aug1, r_aug2, r_aug3, r_opN, r_par, r_prk, r_callN, r_tupRg, and_self, ixN0, ixN1, ixN2, r_peek, r_pk, r_pkI, r_pkB, r_pkS, r_pkN, r_tpeek, r_bk1, r_bk2, r_frz, r_fzk, r_own, owk, r_frkK, r_ownK, r_ixEd, r_ixEt, r_ixEl, r_inK, r_ninK, r_mk4, r_mk3, r_met, r_mk2, r_callM, r_mk2b, r_callM1, r_lenIs, r_callF, r_mat, r_mtk, r_mEnd, r_mCase, r_for, r_lk, r_items, r_itL, r_itT, r_rng, r_enum, r_zipM, zipM_ok, r_star, starL_ok, starT_ok, enumL_ok, enumT_ok, for_nil, r_lc, r_lck2, lc_nil, r_outM, r_outMn, r_outM1, r_outM1n, r_outD, r_outDf, r_outDn, r_outF, ixL0, ixL1, ixL2, ixT0, ixT1, ixT2, addI_ok, subI_ok, gtI_ok, geI_ok, leI_ok, ltI_ok, lenL_ok, lenT_ok, abs_ok, intB_ok, List.getElem?_cons_zero, List.getElem?_cons_succ, List.length_cons, List.length_nil, List.set_cons_zero, List.set_cons_succ, List.map_cons, List.map_nil, List.cons_append, List.nil_append, List.replicate_succ, List.replicate_zero, Nat.reduceAdd, Nat.reduceSub, Nat.reduceLT, Nat.reduceEqDiff, Option.bind_some, Option.bind_none, Option.map_some, Option.map_none, if_true, if_false, ite_true, ite_false, ↓reduceIte, Bool.not_true, Bool.not_false, r, q, x1, x2]
theorem law_loop (W : whole (4 * m) V) (t : Tab (4 * m) V B) (hw : g_need_web [webD m V] = some (.list B)) (hm : m ≤ 60) {T : Int → Int} (N : Net (4 * m) (XB B) T) (PI : PartsI m (XB B) (partsR m (XB B))) (s0 s1 s3 : Sl) : ∀ (L : List (List Int)) (j : Nat) (ps fs : List Int) (s6 s7 s8 : Sl), (∀ i Q, L[i]? = some Q → (partsR m (XB B))[j + i]? = some Q) → ps.length + L.flatten.length ≤ 100000 → fs.length + (L.flatMap (nF V)).length ≤ 100000 →
    ∃ s6' s7' s8', forF (gTp [gNm 6, gNm 7]) b1_law (prs (ups (j : Int) L.length) (rowsD L)) [s0, s1, .d (webD m V), s3, .m (intsD ps), .m (intsD fs), s6, s7, s8] = some (.nx [s0, s1, .d (webD m V), s3, .m (.l (intsD (ps ++ L.flatten))), .m (.l (intsD (fs ++ L.flatMap (nF V)))), s6', s7', s8'])
  | [], j, ps, fs, s6, s7, s8, _, _, _ => ⟨s6, s7, s8, by rw [List.flatten_nil, List.flatMap_nil, List.append_nil, List.append_nil]; rfl⟩
  | Q :: L, j, ps, fs, s6, s7, s8, hi, hp, hf => by
    rw [List.flatten_cons, List.length_append] at hp
    rw [List.flatMap_cons, List.length_append] at hf
    have hj : (partsR m (XB B))[j]? = some Q := hi 0 Q rfl
    have e1 := law_b1 W t hw hm N PI s0 s1 s3 s8 hj (ps := ps) (fs := fs) (by omega) (by omega)
    have hg : gTp [gNm 6, gNm 7] (.tuple [.int (j : Int), .tuple (intsD Q)]) [s0, s1, .d (webD m V), s3, .m (intsD ps), .m (intsD fs), s6, s7, s8] = some [s0, s1, .d (webD m V), s3, .m (intsD ps), .m (intsD fs), .d (.int (j : Int)), .d (.tuple (intsD Q)), s8] := rfl
    obtain ⟨a, b, c, e2⟩ := law_loop W t hw hm N PI s0 s1 s3 L (j + 1) (ps ++ Q) (fs ++ nF V Q) (.d (.int (j : Int))) (.d (.tuple (intsD Q))) (.d (.list (intsD (nF V Q)))) (fun i A h => by
      have := hi (i + 1) A h
      rwa [show j + 1 + i = j + (i + 1) by omega]) (by rw [List.length_append]; omega) (by rw [List.length_append]; omega)
    rw [List.append_assoc, List.append_assoc] at e2
    refine ⟨a, b, c, ?_⟩
    have ep : prs (ups (j : Int) (Q :: L).length) (rowsD (Q :: L)) = .tuple [.int (j : Int), .tuple (intsD Q)] :: prs (ups ((j + 1 : Nat) : Int) L.length) (rowsD L) := by
      rw [List.length_cons, ups_cons, Int.natCast_add]
      rfl
    rw [ep, for_nx hg e1, e2, List.flatten_cons, List.flatMap_cons]
theorem flat_lstI (A : List Int) : flatOk (.list (intsD A)) = true := by
  have hp : PyData.plain (.list (intsD A)) = true := plain_intsP A
  exact Bool.and_eq_true_iff.mpr ⟨hp, decide_eq_true (by show PyData.depthAll (intsD A) + 1 ≤ 60; rw [depth_intsP]; decide)⟩
theorem ne_listI (A : List Int) : neD (.list (intsD A)) (.list (intsD A)) = some (.bool false) := by
  have u : unlen (.list (intsD A)) (.list (intsD A)) = false := by
    show ((intsD A).length != (intsD A).length) = false
    rw [bne_self_eq_false]
  have e : PyData.eqv (.list (intsD A)) (.list (intsD A)) = true := PySem.SeqAt.eqv_refl_plain _ (flatOk_of (flat_lstI A)).1
  unfold neD
  rw [if_neg (by rw [u]; decide), if_pos (by rw [flat_lstI]; rfl), e, Bool.not_true]
theorem rg_int (c : Nat) (h : c < 1000) : rg1 (.int (c : Int)) = some (intsD (rangeI c)) := by
  have : rgOk 0 (c : Int) = true := decide_eq_true (by omega)
  show (if rgOk 0 (c : Int) = true then some (ups 0 ((c : Int)).toNat) else none) = _
  rw [if_pos this, Int.toNat_natCast, ups_intP]
theorem need_tab (W : whole (4 * m) V) (hm : m ≤ 60) : ∃ B, g_need_web [webD m V] = some (.list B) ∧ Tab (4 * m) V B := by
  obtain ⟨B, h1, h2⟩ := ha_web hm W
  refine ⟨B, ?_, h2⟩
  have q : isNoneD (.list B) .none = some (.bool false) := rfl
  unfold g_need_web runP f_need_web
  simp -implicitDefEqProofs only [eq_self, r_thn, r_tk, r_tk0, r_ret, r_lift, r_lift0, r_var, r_vk, r_bin, r_un, r_nil, r_cons, r_tup, r_of, r_call, r_tst, r_kt, r_ikT, r_ikF, r_ite, r_if, r_ife, r_and, r_or, r_not, r_vand, r_vor, r_vnot, r_chain, r_hkT, r_hkF, r_part, r_ok, r_sl, r_seq, r_skN, r_skR, r_skF, r_skB, r_skC, r_next, r_retS, r_rk, r_retF, r_rfk, r_drop, r_dk, r_asg, r_gk, r_gk2, gNm, r_tp, r_gs, r_qk, r_gs0, r_froz, r_frk, r_cmk, r_setI, r_stk, r_stk2, r_sti, r_pl, r_stj, r_aug, r_aug1, r_aug2, r_aug3, r_opN, r_par, r_prk, r_callN, r_tupRg, and_self, ixN0, ixN1, ixN2, r_peek, r_pk, r_pkI, r_pkB, r_pkS, r_pkN, r_tpeek, r_bk1, r_bk2, r_frz, r_fzk, r_own, owk, r_frkK, r_ownK, r_ixEd, r_ixEt, r_ixEl, r_inK, r_ninK, r_mk4, r_mk3, r_met, r_mk2, r_callM, r_mk2b, r_callM1, r_lenIs, r_callF, r_mat, r_mtk, r_mEnd, r_mCase, r_for, r_lk, r_items, r_itL, r_itT, r_rng, r_enum, r_zipM, zipM_ok, r_star, starL_ok, starT_ok, enumL_ok, enumT_ok, for_nil, r_lc, r_lck2, lc_nil, r_outM, r_outMn, r_outM1, r_outM1n, r_outD, r_outDf, r_outDn, r_outF, ixL0, ixL1, ixL2, ixT0, ixT1, ixT2, addI_ok, subI_ok, gtI_ok, geI_ok, leI_ok, ltI_ok, lenL_ok, lenT_ok, abs_ok, intB_ok, List.getElem?_cons_zero, List.getElem?_cons_succ, List.length_cons, List.length_nil, List.set_cons_zero, List.set_cons_succ, List.map_cons, List.map_nil, List.cons_append, List.nil_append, List.replicate_succ, List.replicate_zero, Nat.reduceAdd, Nat.reduceSub, Nat.reduceLT, Nat.reduceEqDiff, Option.bind_some, Option.bind_none, Option.map_some, Option.map_none, if_true, if_false, ite_true, ite_false, ↓reduceIte, Bool.not_true, Bool.not_false, h1, q]
end
theorem law_b2 {ns : List Int} {k : Nat} (s2 s3 s4 s5 s6 s7 s8 : Sl) (hk : k < 1000) : ∃ t2 t3 t4 t5 t6 t7 t8, b2_law [.d (.list (ns.map .int)), .d (.int (k : Int)), s2, s3, s4, s5, s6, s7, s8] = some (.nx [.d (.list (ns.map .int)), .d (.int (k : Int)), t2, t3, t4, t5, t6, t7, t8]) := by
  obtain ⟨ms, e1, P⟩ := pot_ok (ns := ns) (k := k) (by omega)
  obtain ⟨m, V, ms1, e2, W, hm⟩ := beside_ok P (by decide)
  obtain ⟨B, hw, t⟩ := need_tab W (by omega : m ≤ 60)
  have N := net_of W t (nought_mat m)
  obtain ⟨PI, cov⟩ := parts_all N (by omega)
  have ne : ∀ r ∈ partsR m (XB B), r ≠ [] := fun r hr => by
    obtain ⟨f, hf, _⟩ := PI.one r hr
    exact List.ne_nil_of_mem hf
  have rl : ∀ R : List (List Int), (∀ r ∈ R, r ≠ []) → R.length ≤ R.flatten.length := fun R => by
    induction R with
    | nil => intro _; exact Nat.le_refl _
    | cons r R ih =>
      intro h
      have := ih fun x hx => h x (List.mem_cons_of_mem _ hx)
      have := List.length_pos_iff.mpr (h r (List.mem_cons_self ..))
      rw [List.flatten_cons, List.length_append, List.length_cons]
      omega
  have fl : (partsR m (XB B)).flatten.length ≤ m := in_len _ _ PI.nd PI.inr
  have hl := rl _ ne
  have po := parts_of_ok W t hw (by omega) N (by omega)
  have vl := whole_len W
  have nnd := nums_nd (V := V) (partsR m (XB B)) PI.nd
  have nme := nums_mem W cov
  have nl : ((partsR m (XB B)).flatMap (nF V)).length ≤ V.length := in_len _ _ nnd fun x hx => (nme x).mp hx
  obtain ⟨a6, a7, a8, e3⟩ := law_loop W t hw (by omega) N PI (.d (.list (ns.map .int))) (.d (.int (k : Int))) (.d (.tuple (rowsD (partsR m (XB B))))) (partsR m (XB B)) 0 [] [] s6 s7 s8 (fun i Q h => by rwa [Nat.zero_add]) (by rw [List.length_nil]; omega) (by rw [List.length_nil]; omega)
  rw [List.nil_append, List.nil_append] at e3
  have en : enumN [.tuple (rowsD (partsR m (XB B)))] = some (prs (ups ((0 : Nat) : Int) (partsR m (XB B)).length) (rowsD (partsR m (XB B)))) := by
    show some (prs (ups 0 (rowsD (partsR m (XB B))).length) (rowsD (partsR m (XB B)))) = _
    unfold rowsD
    rw [List.length_map]
    rfl
  have e3' : forF (gTp [gNm 6, gNm 7]) b1_law (prs (ups ((0 : Nat) : Int) (partsR m (XB B)).length) (rowsD (partsR m (XB B)))) [.d (.list (ns.map .int)), .d (.int (k : Int)), .d (webD m V), .d (.tuple (rowsD (partsR m (XB B)))), .m (.l []), .m (.l []), s6, s7, s8] = _ := e3
  have so1 := sortI_ok (partsR m (XB B)).flatten
  rw [sortI_range (n := m) PI.nd fun x => ⟨PI.inr x, cov x⟩] at so1
  have so2 := sortI_ok ((partsR m (XB B)).flatMap (nF V))
  rw [sortI_range (n := V.length) nnd nme] at so2
  have i0 : ixD (webD m V) (.int 0) = some (.int (m : Int)) := ixT0
  have i1 : ixD (webD m V) (.int 1) = some (.tuple (V.map wayD)) := ixT1
  have ln : lenD [.tuple (V.map wayD)] = some (.int (V.length : Int)) := by
    show some (PyData.int (((V.map wayD).length : Nat) : Int)) = _
    rw [List.length_map]
  have g1 := rg_int m (by omega)
  have g2 := rg_int V.length (by omega)
  have s0 : Tw.sizeOk 0 = true := rfl
  refine ⟨.d (webD m V), .d (.tuple (rowsD (partsR m (XB B)))), .d (.list (intsD (partsR m (XB B)).flatten)), .d (.list (intsD ((partsR m (XB B)).flatMap (nF V)))), a6, a7, a8, ?_⟩
  unfold b2_law
  cases s4 <;> cases s5 <;> simp -implicitDefEqProofs only [eq_self, r_thn, r_tk, r_tk0, r_ret, r_lift, r_lift0, r_var, r_vk, r_bin, r_un, r_nil, r_cons, r_tup, r_of, r_call, r_tst, r_kt, r_ikT, r_ikF, r_ite, r_if, r_ife, r_and, r_or, r_not, r_vand, r_vor, r_vnot, r_chain, r_hkT, r_hkF, r_part, r_ok, r_sl, r_seq, r_skN, r_skR, r_skF, r_skB, r_skC, r_next, r_retS, r_rk, r_retF, r_rfk, r_drop, r_dk, r_asg, r_gk, r_gk2, gNm, r_tp, r_gs, r_qk, r_gs0, r_froz, r_frk, r_cmk, r_setI, r_stk, r_stk2, r_sti, r_pl, r_stj, r_aug, r_aug1, r_aug2, r_aug3, r_opN, r_par, r_prk, r_callN, r_tupRg, and_self, ixN0, ixN1, ixN2, r_peek, r_pk, r_pkI, r_pkB, r_pkS, r_pkN, r_tpeek, r_bk1, r_bk2, r_frz, r_fzk, r_own, owk, r_frkK, r_ownK, r_ixEd, r_ixEt, r_ixEl, r_inK, r_ninK, r_mk4, r_mk3, r_met, r_mk2, r_callM, r_mk2b, r_callM1, r_lenIs, r_callF, r_mat, r_mtk, r_mEnd, r_mCase, r_for, r_lk, r_items, r_itL, r_itT, r_rng, r_enum, r_zipM, zipM_ok, r_star, starL_ok, starT_ok, enumL_ok, enumT_ok, for_nil, r_lc, r_lck2, lc_nil, r_outM, r_outMn, r_outM1, r_outM1n, r_outD, r_outDf, r_outDn, r_outF, ixL0, ixL1, ixL2, ixT0, ixT1, ixT2, addI_ok, subI_ok, gtI_ok, geI_ok, leI_ok, ltI_ok, lenL_ok, lenT_ok, abs_ok, intB_ok, List.getElem?_cons_zero, List.getElem?_cons_succ, List.length_cons, List.length_nil, List.set_cons_zero, List.set_cons_succ, List.map_cons, List.map_nil, List.cons_append, List.nil_append, List.replicate_succ, List.replicate_zero, Nat.reduceAdd, Nat.reduceSub, Nat.reduceLT, Nat.reduceEqDiff, Option.bind_some, Option.bind_none, Option.map_some, Option.map_none, if_true, if_false, ite_true, ite_false, ↓reduceIte, Bool.not_true, Bool.not_false, e1, e2, po, s0, en, e3', so1, so2, i0, i1, ln, g1, g2, ne_listI]
theorem ans (ns : List Int) (hn : ns.length ≤ 63) : g_law [.list (ns.map .int)] = some (.bool true) := by
  obtain ⟨n, en, hn2⟩ : ∃ n : Nat, (if (if (63 : Int) < ((ns.map PyData.int).length : Int) then (63 : Int) else ((ns.map PyData.int).length : Int)) > 2 then (if (63 : Int) < ((ns.map PyData.int).length : Int) then (63 : Int) else ((ns.map PyData.int).length : Int)) else 2) = (n : Int) ∧ n ≤ 63 := by
    have c : ¬ ((63 : Int) < (ns.length : Int)) := by omega
    rw [List.length_map]
    simp only [if_neg c]
    by_cases h : (ns.length : Int) > 2
    · rw [if_pos h]
      exact ⟨ns.length, rfl, hn⟩
    · rw [if_neg h]
      exact ⟨2, rfl, by decide⟩
  have mx : ∀ i j : Int, maxD [.int i, .int j] = some (.int (if j > i then j else i)) := fun _ _ => rfl
  have mn : ∀ i j : Int, minD [.int i, .int j] = some (.int (if j < i then j else i)) := fun _ _ => rfl
  have hr := rng_ok (n := n) (by omega)
  obtain ⟨ρ, e, s1', s2', s3', s4', s5', s6', s7', s8', rfl⟩ := for_all (ft := gNm 1) (fb := b2_law) (fun j ρ => ∃ s1 s2 s3 s4 s5 s6 s7 s8, ρ = [.d (.list (ns.map .int)), s1, s2, s3, s4, s5, s6, s7, s8]) (ups 0 n) 0 [.d (.list (ns.map .int)), .un, .un, .un, .un, .un, .un, .un, .un] ⟨_, _, _, _, _, _, _, _, rfl⟩ fun j d ρ hj ⟨s1, s2, s3, s4, s5, s6, s7, s8, eρ⟩ => by
    subst eρ
    have hjn : j < n := by
      have := (List.getElem?_eq_some_iff.mp hj).1
      rwa [Tw.ups_len] at this
    have ed := ups_get hj
    rw [Int.zero_add] at ed
    subst ed
    obtain ⟨t2, t3, t4, t5, t6, t7, t8, e⟩ := law_b2 (ns := ns) (k := j) s2 s3 s4 s5 s6 s7 s8 (by omega)
    exact ⟨_, _, rfl, e, _, _, _, _, _, _, _, _, rfl⟩
  unfold g_law runP f_law
  simp -implicitDefEqProofs only [eq_self, r_thn, r_tk, r_tk0, r_ret, r_lift, r_lift0, r_var, r_vk, r_bin, r_un, r_nil, r_cons, r_tup, r_of, r_call, r_tst, r_kt, r_ikT, r_ikF, r_ite, r_if, r_ife, r_and, r_or, r_not, r_vand, r_vor, r_vnot, r_chain, r_hkT, r_hkF, r_part, r_ok, r_sl, r_seq, r_skN, r_skR, r_skF, r_skB, r_skC, r_next, r_retS, r_rk, r_retF, r_rfk, r_drop, r_dk, r_asg, r_gk, r_gk2, gNm, r_tp, r_gs, r_qk, r_gs0, r_froz, r_frk, r_cmk, r_setI, r_stk, r_stk2, r_sti, r_pl, r_stj, r_aug, r_aug1, r_aug2, r_aug3, r_opN, r_par, r_prk, r_callN, r_tupRg, and_self, ixN0, ixN1, ixN2, r_peek, r_pk, r_pkI, r_pkB, r_pkS, r_pkN, r_tpeek, r_bk1, r_bk2, r_frz, r_fzk, r_own, owk, r_frkK, r_ownK, r_ixEd, r_ixEt, r_ixEl, r_inK, r_ninK, r_mk4, r_mk3, r_met, r_mk2, r_callM, r_mk2b, r_callM1, r_lenIs, r_callF, r_mat, r_mtk, r_mEnd, r_mCase, r_for, r_lk, r_items, r_itL, r_itT, r_rng, r_enum, r_zipM, zipM_ok, r_star, starL_ok, starT_ok, enumL_ok, enumT_ok, for_nil, r_lc, r_lck2, lc_nil, r_outM, r_outMn, r_outM1, r_outM1n, r_outD, r_outDf, r_outDn, r_outF, ixL0, ixL1, ixL2, ixT0, ixT1, ixT2, addI_ok, subI_ok, gtI_ok, geI_ok, leI_ok, ltI_ok, lenL_ok, lenT_ok, abs_ok, intB_ok, List.getElem?_cons_zero, List.getElem?_cons_succ, List.length_cons, List.length_nil, List.set_cons_zero, List.set_cons_succ, List.map_cons, List.map_nil, List.cons_append, List.nil_append, List.replicate_succ, List.replicate_zero, Nat.reduceAdd, Nat.reduceSub, Nat.reduceLT, Nat.reduceEqDiff, Option.bind_some, Option.bind_none, Option.map_some, Option.map_none, if_true, if_false, ite_true, ite_false, ↓reduceIte, Bool.not_true, Bool.not_false, mx, mn, en, hr, e]
end Lw

namespace Lw
open PySem PySem.Spec PyProof.Rows L2 Tw
theorem facts {l : PySem.W.OpenLaw} {w : World} {K : PySem.W.Frag} {h : Heap} {mg : Str → Option Value} {fa : Addr} (X : K.In h) (G : h.Ns mainGlobals mg) (hfa : mg "law" = some (.ref fa))
    {f__law_take_ : Addr} {od__law_take an__law_take : Option Addr} {sl__law_take : Array (Option Value)} {oc__law_take kV__law_take dc__law_take pm__law_take cd__law_take ct__law_take : Value}
    {f__law_world_ : Addr} {od__law_world an__law_world : Option Addr} {sl__law_world : Array (Option Value)} {oc__law_world kV__law_world dc__law_world pm__law_world cd__law_world ct__law_world : Value}
    {f__law_beside_ : Addr} {od__law_beside an__law_beside : Option Addr} {sl__law_beside : Array (Option Value)} {oc__law_beside kV__law_beside dc__law_beside pm__law_beside cd__law_beside ct__law_beside : Value}
    {f_posts_from_ : Addr} {od_posts_from an_posts_from : Option Addr} {sl_posts_from : Array (Option Value)} {oc_posts_from kV_posts_from dc_posts_from pm_posts_from cd_posts_from ct_posts_from : Value}
    {f_first_parts_ : Addr} {od_first_parts an_first_parts : Option Addr} {sl_first_parts : Array (Option Value)} {oc_first_parts kV_first_parts dc_first_parts pm_first_parts cd_first_parts ct_first_parts : Value}
    {f_are_all_met_ : Addr} {od_are_all_met an_are_all_met : Option Addr} {sl_are_all_met : Array (Option Value)} {oc_are_all_met kV_are_all_met dc_are_all_met pm_are_all_met cd_are_all_met ct_are_all_met : Value}
    {f_hands_across_ : Addr} {od_hands_across an_hands_across : Option Addr} {sl_hands_across : Array (Option Value)} {oc_hands_across kV_hands_across dc_hands_across pm_hands_across cd_hands_across ct_hands_across : Value}
    {f_need_web_ : Addr} {od_need_web an_need_web : Option Addr} {sl_need_web : Array (Option Value)} {oc_need_web kV_need_web dc_need_web pm_need_web cd_need_web ct_need_web : Value}
    {f_parts_of_ : Addr} {od_parts_of an_parts_of : Option Addr} {sl_parts_of : Array (Option Value)} {oc_parts_of kV_parts_of dc_parts_of pm_parts_of cd_parts_of ct_parts_of : Value}
    {f__law_pot_ : Addr} {od__law_pot an__law_pot : Option Addr} {sl__law_pot : Array (Option Value)} {oc__law_pot kV__law_pot dc__law_pot pm__law_pot cd__law_pot ct__law_pot : Value}
    {f_is_whole_ : Addr} {od_is_whole an_is_whole : Option Addr} {sl_is_whole : Array (Option Value)} {oc_is_whole kV_is_whole dc_is_whole pm_is_whole cd_is_whole ct_is_whole : Value}
    {f_needed_part_ : Addr} {od_needed_part an_needed_part : Option Addr} {sl_needed_part : Array (Option Value)} {oc_needed_part kV_needed_part dc_needed_part pm_needed_part cd_needed_part ct_needed_part : Value}
    {f_ways_in_ : Addr} {od_ways_in an_ways_in : Option Addr} {sl_ways_in : Array (Option Value)} {oc_ways_in kV_ways_in dc_ways_in pm_ways_in cd_ways_in ct_ways_in : Value}
    {f_part_web_ : Addr} {od_part_web an_part_web : Option Addr} {sl_part_web : Array (Option Value)} {oc_part_web kV_part_web dc_part_web pm_part_web cd_part_web ct_part_web : Value}
    {f_part_ways_ : Addr} {od_part_ways an_part_ways : Option Addr} {sl_part_ways : Array (Option Value)} {oc_part_ways kV_part_ways dc_part_ways pm_part_ways cd_part_ways ct_part_ways : Value}
    {f_is_below_ : Addr} {od_is_below an_is_below : Option Addr} {sl_is_below : Array (Option Value)} {oc_is_below kV_is_below dc_is_below pm_is_below cd_is_below ct_is_below : Value}
    {f_across_ : Addr} {od_across an_across : Option Addr} {sl_across : Array (Option Value)} {oc_across kV_across dc_across pm_across cd_across ct_across : Value}
    {f_is_web_ : Addr} {od_is_web an_is_web : Option Addr} {sl_is_web : Array (Option Value)} {oc_is_web kV_is_web dc_is_web pm_is_web cd_is_web ct_is_web : Value}
    {f__law_part_right_ : Addr} {od__law_part_right an__law_part_right : Option Addr} {sl__law_part_right : Array (Option Value)} {oc__law_part_right kV__law_part_right dc__law_part_right pm__law_part_right cd__law_part_right ct__law_part_right : Value}
    {f_law_ : Addr} {od_law an_law : Option Addr} {sl_law : Array (Option Value)} {oc_law kV_law dc_law pm_law cd_law ct_law : Value}
    {t_HANDS : Nat}
    {t_MOST_POSTS : Nat}
    (a__law_take : PySem.W.nsIn K mainGlobals "_law_take" = some (some (.ref f__law_take_)))
    (l__law_take : K.lookup f__law_take_ = some ⟨oc__law_take, od__law_take, .func (PySem.W.fnOf "_law_take" "_law_take" (defArgs s__law_take) (defBody s__law_take) (defScope s__law_take) .none kV__law_take dc__law_take pm__law_take an__law_take cd__law_take ct__law_take), sl__law_take⟩)
    (c__law_take : PySem.W.codeIn K cd__law_take "_law_take" = true)
    (k__law_take : PySem.W.keepIn K (.ref f__law_take_) = true)
    (a__law_world : PySem.W.nsIn K mainGlobals "_law_world" = some (some (.ref f__law_world_)))
    (l__law_world : K.lookup f__law_world_ = some ⟨oc__law_world, od__law_world, .func (PySem.W.fnOf "_law_world" "_law_world" (defArgs s__law_world) (defBody s__law_world) (defScope s__law_world) .none kV__law_world dc__law_world pm__law_world an__law_world cd__law_world ct__law_world), sl__law_world⟩)
    (c__law_world : PySem.W.codeIn K cd__law_world "_law_world" = true)
    (k__law_world : PySem.W.keepIn K (.ref f__law_world_) = true)
    (a__law_beside : PySem.W.nsIn K mainGlobals "_law_beside" = some (some (.ref f__law_beside_)))
    (l__law_beside : K.lookup f__law_beside_ = some ⟨oc__law_beside, od__law_beside, .func (PySem.W.fnOf "_law_beside" "_law_beside" (defArgs s__law_beside) (defBody s__law_beside) (defScope s__law_beside) .none kV__law_beside dc__law_beside pm__law_beside an__law_beside cd__law_beside ct__law_beside), sl__law_beside⟩)
    (c__law_beside : PySem.W.codeIn K cd__law_beside "_law_beside" = true)
    (k__law_beside : PySem.W.keepIn K (.ref f__law_beside_) = true)
    (a_posts_from : PySem.W.nsIn K mainGlobals "posts_from" = some (some (.ref f_posts_from_)))
    (l_posts_from : K.lookup f_posts_from_ = some ⟨oc_posts_from, od_posts_from, .func (PySem.W.fnOf "posts_from" "posts_from" (defArgs s_posts_from) (defBody s_posts_from) (defScope s_posts_from) .none kV_posts_from dc_posts_from pm_posts_from an_posts_from cd_posts_from ct_posts_from), sl_posts_from⟩)
    (c_posts_from : PySem.W.codeIn K cd_posts_from "posts_from" = true)
    (k_posts_from : PySem.W.keepIn K (.ref f_posts_from_) = true)
    (a_first_parts : PySem.W.nsIn K mainGlobals "first_parts" = some (some (.ref f_first_parts_)))
    (l_first_parts : K.lookup f_first_parts_ = some ⟨oc_first_parts, od_first_parts, .func (PySem.W.fnOf "first_parts" "first_parts" (defArgs s_first_parts) (defBody s_first_parts) (defScope s_first_parts) .none kV_first_parts dc_first_parts pm_first_parts an_first_parts cd_first_parts ct_first_parts), sl_first_parts⟩)
    (c_first_parts : PySem.W.codeIn K cd_first_parts "first_parts" = true)
    (k_first_parts : PySem.W.keepIn K (.ref f_first_parts_) = true)
    (a_are_all_met : PySem.W.nsIn K mainGlobals "are_all_met" = some (some (.ref f_are_all_met_)))
    (l_are_all_met : K.lookup f_are_all_met_ = some ⟨oc_are_all_met, od_are_all_met, .func (PySem.W.fnOf "are_all_met" "are_all_met" (defArgs s_are_all_met) (defBody s_are_all_met) (defScope s_are_all_met) .none kV_are_all_met dc_are_all_met pm_are_all_met an_are_all_met cd_are_all_met ct_are_all_met), sl_are_all_met⟩)
    (c_are_all_met : PySem.W.codeIn K cd_are_all_met "are_all_met" = true)
    (k_are_all_met : PySem.W.keepIn K (.ref f_are_all_met_) = true)
    (a_hands_across : PySem.W.nsIn K mainGlobals "hands_across" = some (some (.ref f_hands_across_)))
    (l_hands_across : K.lookup f_hands_across_ = some ⟨oc_hands_across, od_hands_across, .func (PySem.W.fnOf "hands_across" "hands_across" (defArgs s_hands_across) (defBody s_hands_across) (defScope s_hands_across) .none kV_hands_across dc_hands_across pm_hands_across an_hands_across cd_hands_across ct_hands_across), sl_hands_across⟩)
    (c_hands_across : PySem.W.codeIn K cd_hands_across "hands_across" = true)
    (k_hands_across : PySem.W.keepIn K (.ref f_hands_across_) = true)
    (a_need_web : PySem.W.nsIn K mainGlobals "need_web" = some (some (.ref f_need_web_)))
    (l_need_web : K.lookup f_need_web_ = some ⟨oc_need_web, od_need_web, .func (PySem.W.fnOf "need_web" "need_web" (defArgs s_need_web) (defBody s_need_web) (defScope s_need_web) .none kV_need_web dc_need_web pm_need_web an_need_web cd_need_web ct_need_web), sl_need_web⟩)
    (c_need_web : PySem.W.codeIn K cd_need_web "need_web" = true)
    (k_need_web : PySem.W.keepIn K (.ref f_need_web_) = true)
    (a_parts_of : PySem.W.nsIn K mainGlobals "parts_of" = some (some (.ref f_parts_of_)))
    (l_parts_of : K.lookup f_parts_of_ = some ⟨oc_parts_of, od_parts_of, .func (PySem.W.fnOf "parts_of" "parts_of" (defArgs s_parts_of) (defBody s_parts_of) (defScope s_parts_of) .none kV_parts_of dc_parts_of pm_parts_of an_parts_of cd_parts_of ct_parts_of), sl_parts_of⟩)
    (c_parts_of : PySem.W.codeIn K cd_parts_of "parts_of" = true)
    (k_parts_of : PySem.W.keepIn K (.ref f_parts_of_) = true)
    (a__law_pot : PySem.W.nsIn K mainGlobals "_law_pot" = some (some (.ref f__law_pot_)))
    (l__law_pot : K.lookup f__law_pot_ = some ⟨oc__law_pot, od__law_pot, .func (PySem.W.fnOf "_law_pot" "_law_pot" (defArgs s__law_pot) (defBody s__law_pot) (defScope s__law_pot) .none kV__law_pot dc__law_pot pm__law_pot an__law_pot cd__law_pot ct__law_pot), sl__law_pot⟩)
    (c__law_pot : PySem.W.codeIn K cd__law_pot "_law_pot" = true)
    (k__law_pot : PySem.W.keepIn K (.ref f__law_pot_) = true)
    (a_is_whole : PySem.W.nsIn K mainGlobals "is_whole" = some (some (.ref f_is_whole_)))
    (l_is_whole : K.lookup f_is_whole_ = some ⟨oc_is_whole, od_is_whole, .func (PySem.W.fnOf "is_whole" "is_whole" (defArgs s_is_whole) (defBody s_is_whole) (defScope s_is_whole) .none kV_is_whole dc_is_whole pm_is_whole an_is_whole cd_is_whole ct_is_whole), sl_is_whole⟩)
    (c_is_whole : PySem.W.codeIn K cd_is_whole "is_whole" = true)
    (k_is_whole : PySem.W.keepIn K (.ref f_is_whole_) = true)
    (a_needed_part : PySem.W.nsIn K mainGlobals "needed_part" = some (some (.ref f_needed_part_)))
    (l_needed_part : K.lookup f_needed_part_ = some ⟨oc_needed_part, od_needed_part, .func (PySem.W.fnOf "needed_part" "needed_part" (defArgs s_needed_part) (defBody s_needed_part) (defScope s_needed_part) .none kV_needed_part dc_needed_part pm_needed_part an_needed_part cd_needed_part ct_needed_part), sl_needed_part⟩)
    (c_needed_part : PySem.W.codeIn K cd_needed_part "needed_part" = true)
    (k_needed_part : PySem.W.keepIn K (.ref f_needed_part_) = true)
    (a_ways_in : PySem.W.nsIn K mainGlobals "ways_in" = some (some (.ref f_ways_in_)))
    (l_ways_in : K.lookup f_ways_in_ = some ⟨oc_ways_in, od_ways_in, .func (PySem.W.fnOf "ways_in" "ways_in" (defArgs s_ways_in) (defBody s_ways_in) (defScope s_ways_in) .none kV_ways_in dc_ways_in pm_ways_in an_ways_in cd_ways_in ct_ways_in), sl_ways_in⟩)
    (c_ways_in : PySem.W.codeIn K cd_ways_in "ways_in" = true)
    (k_ways_in : PySem.W.keepIn K (.ref f_ways_in_) = true)
    (a_part_web : PySem.W.nsIn K mainGlobals "part_web" = some (some (.ref f_part_web_)))
    (l_part_web : K.lookup f_part_web_ = some ⟨oc_part_web, od_part_web, .func (PySem.W.fnOf "part_web" "part_web" (defArgs s_part_web) (defBody s_part_web) (defScope s_part_web) .none kV_part_web dc_part_web pm_part_web an_part_web cd_part_web ct_part_web), sl_part_web⟩)
    (c_part_web : PySem.W.codeIn K cd_part_web "part_web" = true)
    (k_part_web : PySem.W.keepIn K (.ref f_part_web_) = true)
    (a_part_ways : PySem.W.nsIn K mainGlobals "part_ways" = some (some (.ref f_part_ways_)))
    (l_part_ways : K.lookup f_part_ways_ = some ⟨oc_part_ways, od_part_ways, .func (PySem.W.fnOf "part_ways" "part_ways" (defArgs s_part_ways) (defBody s_part_ways) (defScope s_part_ways) .none kV_part_ways dc_part_ways pm_part_ways an_part_ways cd_part_ways ct_part_ways), sl_part_ways⟩)
    (c_part_ways : PySem.W.codeIn K cd_part_ways "part_ways" = true)
    (k_part_ways : PySem.W.keepIn K (.ref f_part_ways_) = true)
    (a_is_below : PySem.W.nsIn K mainGlobals "is_below" = some (some (.ref f_is_below_)))
    (l_is_below : K.lookup f_is_below_ = some ⟨oc_is_below, od_is_below, .func (PySem.W.fnOf "is_below" "is_below" (defArgs s_is_below) (defBody s_is_below) (defScope s_is_below) .none kV_is_below dc_is_below pm_is_below an_is_below cd_is_below ct_is_below), sl_is_below⟩)
    (c_is_below : PySem.W.codeIn K cd_is_below "is_below" = true)
    (k_is_below : PySem.W.keepIn K (.ref f_is_below_) = true)
    (a_across : PySem.W.nsIn K mainGlobals "across" = some (some (.ref f_across_)))
    (l_across : K.lookup f_across_ = some ⟨oc_across, od_across, .func (PySem.W.fnOf "across" "across" (defArgs s_across) (defBody s_across) (defScope s_across) .none kV_across dc_across pm_across an_across cd_across ct_across), sl_across⟩)
    (c_across : PySem.W.codeIn K cd_across "across" = true)
    (k_across : PySem.W.keepIn K (.ref f_across_) = true)
    (a_is_web : PySem.W.nsIn K mainGlobals "is_web" = some (some (.ref f_is_web_)))
    (l_is_web : K.lookup f_is_web_ = some ⟨oc_is_web, od_is_web, .func (PySem.W.fnOf "is_web" "is_web" (defArgs s_is_web) (defBody s_is_web) (defScope s_is_web) .none kV_is_web dc_is_web pm_is_web an_is_web cd_is_web ct_is_web), sl_is_web⟩)
    (c_is_web : PySem.W.codeIn K cd_is_web "is_web" = true)
    (k_is_web : PySem.W.keepIn K (.ref f_is_web_) = true)
    (a__law_part_right : PySem.W.nsIn K mainGlobals "_law_part_right" = some (some (.ref f__law_part_right_)))
    (l__law_part_right : K.lookup f__law_part_right_ = some ⟨oc__law_part_right, od__law_part_right, .func (PySem.W.fnOf "_law_part_right" "_law_part_right" (defArgs s__law_part_right) (defBody s__law_part_right) (defScope s__law_part_right) .none kV__law_part_right dc__law_part_right pm__law_part_right an__law_part_right cd__law_part_right ct__law_part_right), sl__law_part_right⟩)
    (c__law_part_right : PySem.W.codeIn K cd__law_part_right "_law_part_right" = true)
    (k__law_part_right : PySem.W.keepIn K (.ref f__law_part_right_) = true)
    (a_law : PySem.W.nsIn K mainGlobals "law" = some (some (.ref f_law_)))
    (l_law : K.lookup f_law_ = some ⟨oc_law, od_law, .func (PySem.W.fnOf "law" "law" (defArgs s_law) (defBody s_law) (defScope s_law) .none kV_law dc_law pm_law an_law cd_law ct_law), sl_law⟩)
    (c_law : PySem.W.codeIn K cd_law "law" = true)
    (k_law : PySem.W.keepIn K (.ref f_law_) = true)
    (z_abs : PySem.W.nsIn K mainGlobals "abs" = some none)
    (z_all : PySem.W.nsIn K mainGlobals "all" = some none)
    (z_bool : PySem.W.nsIn K mainGlobals "bool" = some none)
    (z_enumerate : PySem.W.nsIn K mainGlobals "enumerate" = some none)
    (z_int : PySem.W.nsIn K mainGlobals "int" = some none)
    (z_isinstance : PySem.W.nsIn K mainGlobals "isinstance" = some none)
    (z_len : PySem.W.nsIn K mainGlobals "len" = some none)
    (z_list : PySem.W.nsIn K mainGlobals "list" = some none)
    (z_max : PySem.W.nsIn K mainGlobals "max" = some none)
    (z_min : PySem.W.nsIn K mainGlobals "min" = some none)
    (z_range : PySem.W.nsIn K mainGlobals "range" = some none)
    (z_repr : PySem.W.nsIn K mainGlobals "repr" = some none)
    (z_sorted : PySem.W.nsIn K mainGlobals "sorted" = some none)
    (z_tuple : PySem.W.nsIn K mainGlobals "tuple" = some none)
    (z_zip : PySem.W.nsIn K mainGlobals "zip" = some none)
    (q_HANDS : PySem.W.nsIn K mainGlobals "HANDS" = some (some (.int 4 t_HANDS)))
    (q_MOST_POSTS : PySem.W.nsIn K mainGlobals "MOST_POSTS" = some (some (.int 60 t_MOST_POSTS)))
    : ∃ fd : FuncData, (∀ (s : Shared) (u : Value), BindsTo s fd ⟨[u], []⟩ [("_law_script", u)]) ∧ ∀ base : Heap, K.In base → base.Ns mainGlobals mg → FnG l.prog w K mg base 7 fa fd ["_law_script"] (spP K 1 g_law) := by
  have e := hfa.symm.trans (PySem.W.mg_of X G a_law)
  cases e
  have T : Tops K mg := ⟨PySem.W.mg_none_of X G z_abs, PySem.W.mg_none_of X G z_all, PySem.W.mg_none_of X G z_bool, PySem.W.mg_none_of X G z_enumerate, PySem.W.mg_none_of X G z_int, PySem.W.mg_none_of X G z_isinstance, PySem.W.mg_none_of X G z_len, PySem.W.mg_none_of X G z_list, PySem.W.mg_none_of X G z_max, PySem.W.mg_none_of X G z_min, PySem.W.mg_none_of X G z_range, PySem.W.mg_none_of X G z_repr, PySem.W.mg_none_of X G z_sorted, PySem.W.mg_none_of X G z_tuple, PySem.W.mg_none_of X G z_zip, ⟨_, PySem.W.mg_of X G q_HANDS⟩, ⟨_, PySem.W.mg_of X G q_MOST_POSTS⟩⟩
  refine ⟨PySem.W.fnOf "law" "law" (defArgs s_law) (defBody s_law) (defScope s_law) .none kV_law dc_law pm_law an_law cd_law ct_law, fun s u => ?_, fun base _ _ => ?_⟩
  rotate_left
  · have C__law_take := mk__law_take (Pr := l.prog) (w := w) (base := base) T  (fun_mk (st := s__law_take) l__law_take c__law_take k__law_take) (PySem.W.mg_of X G a__law_take)
    have C__law_world := mk__law_world (Pr := l.prog) (w := w) (base := base) T C__law_take (fun_mk (st := s__law_world) l__law_world c__law_world k__law_world) (PySem.W.mg_of X G a__law_world)
    have C__law_beside := mk__law_beside (Pr := l.prog) (w := w) (base := base) T C__law_take C__law_world (fun_mk (st := s__law_beside) l__law_beside c__law_beside k__law_beside) (PySem.W.mg_of X G a__law_beside)
    have C_posts_from := mk_posts_from (Pr := l.prog) (w := w) (base := base) T  (fun_mk (st := s_posts_from) l_posts_from c_posts_from k_posts_from) (PySem.W.mg_of X G a_posts_from)
    have C_first_parts := mk_first_parts (Pr := l.prog) (w := w) (base := base) T C_posts_from (fun_mk (st := s_first_parts) l_first_parts c_first_parts k_first_parts) (PySem.W.mg_of X G a_first_parts)
    have C_are_all_met := mk_are_all_met (Pr := l.prog) (w := w) (base := base) T  (fun_mk (st := s_are_all_met) l_are_all_met c_are_all_met k_are_all_met) (PySem.W.mg_of X G a_are_all_met)
    have C_hands_across := mk_hands_across (Pr := l.prog) (w := w) (base := base) T C_are_all_met (fun_mk (st := s_hands_across) l_hands_across c_hands_across k_hands_across) (PySem.W.mg_of X G a_hands_across)
    have C_need_web := mk_need_web (Pr := l.prog) (w := w) (base := base) T C_hands_across (fun_mk (st := s_need_web) l_need_web c_need_web k_need_web) (PySem.W.mg_of X G a_need_web)
    have C_parts_of := mk_parts_of (Pr := l.prog) (w := w) (base := base) T C_first_parts C_need_web (fun_mk (st := s_parts_of) l_parts_of c_parts_of k_parts_of) (PySem.W.mg_of X G a_parts_of)
    have C__law_pot := mk__law_pot (Pr := l.prog) (w := w) (base := base) T  (fun_mk (st := s__law_pot) l__law_pot c__law_pot k__law_pot) (PySem.W.mg_of X G a__law_pot)
    have C_is_whole := mk_is_whole (Pr := l.prog) (w := w) (base := base) T  (fun_mk (st := s_is_whole) l_is_whole c_is_whole k_is_whole) (PySem.W.mg_of X G a_is_whole)
    have C_needed_part := mk_needed_part (Pr := l.prog) (w := w) (base := base) T C_need_web C_first_parts C_is_whole (fun_mk (st := s_needed_part) l_needed_part c_needed_part k_needed_part) (PySem.W.mg_of X G a_needed_part)
    have C_ways_in := mk_ways_in (Pr := l.prog) (w := w) (base := base) T  (fun_mk (st := s_ways_in) l_ways_in c_ways_in k_ways_in) (PySem.W.mg_of X G a_ways_in)
    have C_part_web := mk_part_web (Pr := l.prog) (w := w) (base := base) T C_needed_part C_ways_in (fun_mk (st := s_part_web) l_part_web c_part_web k_part_web) (PySem.W.mg_of X G a_part_web)
    have C_part_ways := mk_part_ways (Pr := l.prog) (w := w) (base := base) T C_ways_in C_needed_part (fun_mk (st := s_part_ways) l_part_ways c_part_ways k_part_ways) (PySem.W.mg_of X G a_part_ways)
    have C_is_below := mk_is_below (Pr := l.prog) (w := w) (base := base) T  (fun_mk (st := s_is_below) l_is_below c_is_below k_is_below) (PySem.W.mg_of X G a_is_below)
    have C_across := mk_across (Pr := l.prog) (w := w) (base := base) T C_need_web C_is_below (fun_mk (st := s_across) l_across c_across k_across) (PySem.W.mg_of X G a_across)
    have C_is_web := mk_is_web (Pr := l.prog) (w := w) (base := base) T C_hands_across (fun_mk (st := s_is_web) l_is_web c_is_web k_is_web) (PySem.W.mg_of X G a_is_web)
    have C__law_part_right := mk__law_part_right (Pr := l.prog) (w := w) (base := base) T C_part_web C_part_ways C_across C_is_web C_parts_of (fun_mk (st := s__law_part_right) l__law_part_right c__law_part_right k__law_part_right) (PySem.W.mg_of X G a__law_part_right)
    have C_law := mk_law (Pr := l.prog) (w := w) (base := base) T C__law_beside C_parts_of C__law_pot C__law_part_right (fun_mk (st := s_law) l_law c_law k_law) (PySem.W.mg_of X G a_law)
    exact C_law.ok
  · exact .of_eq rfl
end Lw
open PySem PySem.W PyProof.Rows
set_option maxHeartbeats 0 in
theorem PySem.Challenge.cw_tiewheel_k05_whole_parts_again_holds : PySem.Challenge.rw_tiewheel_k05_whole_parts_again.Holds := by
  w_on; o_law; k_head; (case hw => w_witness2)
  k_fill
  refine Tw.walk_G (l := PySem.Challenge.rw_tiewheel_k05_whole_parts_again) (n := 63) (k := 7) (x := "_law_script") (g := Lw.g_law) rfl (by decide) rfl ⟨rfl, by decide, by decide⟩ (fun w h Y => PySem.W.kIn_of Y) ?F Lw.ans
  case F =>
    intro w mg fa h KX G hmg
    refine' Lw.facts KX G hmg ?a__law_take ?l__law_take ?c__law_take ?k__law_take ?a__law_world ?l__law_world ?c__law_world ?k__law_world ?a__law_beside ?l__law_beside ?c__law_beside ?k__law_beside ?a_posts_from ?l_posts_from ?c_posts_from ?k_posts_from ?a_first_parts ?l_first_parts ?c_first_parts ?k_first_parts ?a_are_all_met ?l_are_all_met ?c_are_all_met ?k_are_all_met ?a_hands_across ?l_hands_across ?c_hands_across ?k_hands_across ?a_need_web ?l_need_web ?c_need_web ?k_need_web ?a_parts_of ?l_parts_of ?c_parts_of ?k_parts_of ?a__law_pot ?l__law_pot ?c__law_pot ?k__law_pot ?a_is_whole ?l_is_whole ?c_is_whole ?k_is_whole ?a_needed_part ?l_needed_part ?c_needed_part ?k_needed_part ?a_ways_in ?l_ways_in ?c_ways_in ?k_ways_in ?a_part_web ?l_part_web ?c_part_web ?k_part_web ?a_part_ways ?l_part_ways ?c_part_ways ?k_part_ways ?a_is_below ?l_is_below ?c_is_below ?k_is_below ?a_across ?l_across ?c_across ?k_across ?a_is_web ?l_is_web ?c_is_web ?k_is_web ?a__law_part_right ?l__law_part_right ?c__law_part_right ?k__law_part_right ?a_law ?l_law ?c_law ?k_law ?z_abs ?z_all ?z_bool ?z_enumerate ?z_int ?z_isinstance ?z_len ?z_list ?z_max ?z_min ?z_range ?z_repr ?z_sorted ?z_tuple ?z_zip ?q_HANDS ?q_MOST_POSTS
    (case a__law_take => k_is)
    (case l__law_take => k_is)
    (case c__law_take => k_is)
    (case k__law_take => k_is)
    (case a__law_world => k_is)
    (case l__law_world => k_is)
    (case c__law_world => k_is)
    (case k__law_world => k_is)
    (case a__law_beside => k_is)
    (case l__law_beside => k_is)
    (case c__law_beside => k_is)
    (case k__law_beside => k_is)
    (case a_posts_from => k_is)
    (case l_posts_from => k_is)
    (case c_posts_from => k_is)
    (case k_posts_from => k_is)
    (case a_first_parts => k_is)
    (case l_first_parts => k_is)
    (case c_first_parts => k_is)
    (case k_first_parts => k_is)
    (case a_are_all_met => k_is)
    (case l_are_all_met => k_is)
    (case c_are_all_met => k_is)
    (case k_are_all_met => k_is)
    (case a_hands_across => k_is)
    (case l_hands_across => k_is)
    (case c_hands_across => k_is)
    (case k_hands_across => k_is)
    (case a_need_web => k_is)
    (case l_need_web => k_is)
    (case c_need_web => k_is)
    (case k_need_web => k_is)
    (case a_parts_of => k_is)
    (case l_parts_of => k_is)
    (case c_parts_of => k_is)
    (case k_parts_of => k_is)
    (case a__law_pot => k_is)
    (case l__law_pot => k_is)
    (case c__law_pot => k_is)
    (case k__law_pot => k_is)
    (case a_is_whole => k_is)
    (case l_is_whole => k_is)
    (case c_is_whole => k_is)
    (case k_is_whole => k_is)
    (case a_needed_part => k_is)
    (case l_needed_part => k_is)
    (case c_needed_part => k_is)
    (case k_needed_part => k_is)
    (case a_ways_in => k_is)
    (case l_ways_in => k_is)
    (case c_ways_in => k_is)
    (case k_ways_in => k_is)
    (case a_part_web => k_is)
    (case l_part_web => k_is)
    (case c_part_web => k_is)
    (case k_part_web => k_is)
    (case a_part_ways => k_is)
    (case l_part_ways => k_is)
    (case c_part_ways => k_is)
    (case k_part_ways => k_is)
    (case a_is_below => k_is)
    (case l_is_below => k_is)
    (case c_is_below => k_is)
    (case k_is_below => k_is)
    (case a_across => k_is)
    (case l_across => k_is)
    (case c_across => k_is)
    (case k_across => k_is)
    (case a_is_web => k_is)
    (case l_is_web => k_is)
    (case c_is_web => k_is)
    (case k_is_web => k_is)
    (case a__law_part_right => k_is)
    (case l__law_part_right => k_is)
    (case c__law_part_right => k_is)
    (case k__law_part_right => k_is)
    (case a_law => k_is)
    (case l_law => k_is)
    (case c_law => k_is)
    (case k_law => k_is)
    (case z_abs => k_is)
    (case z_all => k_is)
    (case z_bool => k_is)
    (case z_enumerate => k_is)
    (case z_int => k_is)
    (case z_isinstance => k_is)
    (case z_len => k_is)
    (case z_list => k_is)
    (case z_max => k_is)
    (case z_min => k_is)
    (case z_range => k_is)
    (case z_repr => k_is)
    (case z_sorted => k_is)
    (case z_tuple => k_is)
    (case z_zip => k_is)
    (case q_HANDS => k_is)
    (case q_MOST_POSTS => k_is)
