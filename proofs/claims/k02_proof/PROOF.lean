import PyProof.Rows.All
import Wide.All
import OpenK.AllK
import Wide.FinOn
import HandS.ForMost
import HandS.Evl
import HandS.TupAny
import HandS.Conv
import PyProof.SeqIndex
import HandS.IsInst
import HandS.Wide
import HandS.WideMore
import HandS.Zip
import HandS.TupLe
import HandS.TupMul
import HandS.DictComp
import KE.SortData
import PyProof.ReprRoads
import KE.DataEq
import KE.GoesMore
import HandS.Walk
import PyProof.AutoSeq1
import HandS.Style
import KE.KRevSl
import HandS.Dict
import PyProof.RulesMatchSeq
import PyProof.Rows.MatchSeqLen
import KE.DataAny
import KE.DataMinMax
import PyProof.P3In
import KE.GoesNew
import HandS.Star
import HandS.Defaults
import PyProof.FactsAll.tuple_3
import PySem.Challenge.RW_tiewheel_k02_hands_and_ways
set_option Elab.async false
set_option linter.all false
set_option maxRecDepth 100000
set_option maxHeartbeats 2000000
/-! ## Tw: tuples whose object has no dict of its own, kept as they stand (an object known, not tracked by its items alone), so that t.index may be asked of them -/
namespace Tw
open PySem PySem.Spec PyProof.Rows L2
open Evl (Ex)
def PTu (K : PySem.W.Frag) (H : Hp) (a : Addr) (xs : List V) : Prop := (∃ o : Obj, o.dict = none ∧ H a = some (.frz o (.tup xs))) ∨
  ∃ (o : Obj) (its : Array Value) (n : Nat), K.lookup a = some o ∧ o.dict = none ∧ o.cls = .type "tuple" ∧ o.data = .seq its n ∧ its.size ≤ sizeLine ∧ Vals xs its.toList
section
variable {K : PySem.W.Frag} {H H' : Hp} {a p : Addr} {xs : List V} {o : Obj}
theorem PTu.sq (h : PTu K H a xs) : SqT K H a xs := by
  rcases h with ⟨o, _, h⟩ | ⟨o, its, n, h1, _, h2⟩
  · exact .inl (.inr ⟨o, h⟩)
  · exact .inr ⟨o, its, n, h1, h2⟩
theorem PTu.mono (h : PTu K H a xs) (e : Ex H H') : PTu K H' a xs := h.imp (fun ⟨o, h1, h2⟩ => ⟨o, h1, e _ _ h2⟩) id
theorem PTu.new (h : o.dict = none) : PTu K (upd H p (.frz o (.tup xs))) p xs := .inl ⟨o, h, upd_same⟩
end
/-- what is told of a new tuple -/
abbrev NewT (H : Hp) (Q : VK) (xs : List V) : Prop := ∀ (p : Addr) (o : Obj), H p = none → o.dict = none → Q (.ref p) (upd H p (.frz o (.tup xs)))
section
variable {X : Cx} {pins : List (Addr × Obj)} {σ : L2.St} {H : Hp} {s : Shared} {Q : VK} {xs : List V} {es : List Expr} {t : TA} {pos : Pos}
theorem newT (I : Inv X pins σ H s) {arr : Array Value} (hz : xs.length ≤ sizeLine) (r : Vals xs arr.toList) (k : NewT H Q xs) :
    EP X pins σ Q (.ref s.heap.objs.size) { s with heap := s.heap.push { cls := .type "tuple", data := .seq arr } } := by
  have lay : ObjOk X.prog X.w (upd H s.heap.objs.size (.frz { cls := .type "tuple", data := .seq arr } (.tup xs))) (s.heap.push { cls := .type "tuple", data := .seq arr }) s.heap.objs.size (.frz { cls := .type "tuple", data := .seq arr } (.tup xs)) :=
    ⟨Heap.get?_push_size _ rfl, hz, arr.toList, r, _, Heap.get?_push_size _ rfl, rfl, 0, by simp⟩
  exact ⟨.ref s.heap.objs.size, _, I.laid (t' := s.toks) (fun _ _ z => Heap.get?_push_of_some _ z) (Nat.le_refl _) lay, rfl, k _ _ (I.hok.fresh (Nat.le_refl _)) rfl⟩
/-! the ways to a new tuple -/
def tTupP (t : TA) : TE := fun σ H Q => t σ H fun xs H1 => xs.length ≤ sizeLine ∧ NewT H1 Q xs
theorem pe_tupP {k : Nat} (h : PA X es t) : PE X (.Tuple es k pos) (tTupP t) :=
  ⟨fun pins s σ H Q I hq => wpAny_Tuple_spliced (thn (h.run pos pins s σ H _ I hq) fun us s1 ⟨xs, H1, I1, r, z, q⟩ => ⟨by rw [← r.length]; exact z, newT I1 z (by simpa using r) q⟩)⟩
/-- tuple(x) -/
def rTupP (K : PySem.W.Frag) : List V → Hp → VK → Prop := fun vs H Q => ∃ a ys, vs = [.ref a] ∧ ((SqL K H a ys ∧ NewT H Q ys) ∨ (SqT K H a ys ∧ Q (.ref a) H))
theorem call_tupleP : CallR X (.type "tuple") (rTupP X.K) := fun pins s σ H vs us Q I r h => by
  obtain ⟨a, ys, rfl, h⟩ := h
  obtain ⟨_, rfl, rx⟩ := vals1 r
  cases rx
  rcases h with ⟨hs, q⟩ | ⟨hs, q⟩
  · obtain ⟨its, rv, pl, z⟩ := I.list hs
    exact call_tuple_list pl.isList (fun _ hk => newT (I.kept (t' := s.toks) hk) z (by simpa using rv) q) (by rw [List.size_toArray, ← rv.length]; exact z)
  · obtain ⟨its, rv, pl, z⟩ := I.tuple hs
    exact call_tuple_same pl ⟨.ref a, H, I, rfl, q⟩
/-- t + u -/
def rCatP (K : PySem.W.Frag) : R2 := fun x y H Q => ∃ a b xs ys, x = .ref a ∧ y = .ref b ∧ SqT K H a xs ∧ SqT K H b ys ∧ xs.length + ys.length ≤ sizeLine ∧
  (xs = [] → Q (.ref b) H) ∧ (xs ≠ [] → ys = [] → Q (.ref a) H) ∧ (xs ≠ [] → ys ≠ [] → NewT H Q (xs ++ ys))
theorem op_catP : OpR X (binaryOp .Add) (rCatP X.K) := fun pins s σ H x y v u Q I rx ry h => by
  obtain ⟨a, b, xs, ys, rfl, rfl, ha, hb, z, q0, q1, q2⟩ := h
  cases rx
  cases ry
  obtain ⟨l1, r1, p1, _⟩ := I.tuple ha
  obtain ⟨l2, r2, p2, _⟩ := I.tuple hb
  by_cases e : xs = []
  · subst e
    cases r1
    exact cat_tup0 p1 p2 ⟨.ref b, H, I, rfl, q0 rfl⟩
  · exact HT.cat_tup p1 p2 (fun w => e (r1.nil_iff.mp w)) (fun w => ⟨.ref a, H, I, rfl, q1 e (r2.nil_iff.mp w)⟩)
      (fun w => newT I (by rw [List.length_append]; exact z) (by simpa using r1.append r2) (q2 e fun w' => w (r2.nil_iff.mpr w'))) (by rw [← r1.length, ← r2.length]; exact z)
/-- t[lo:hi] -/
def rSlP (K : PySem.W.Frag) : V → Option Int → Option Int → Hp → VK → Prop := fun x lo hi H Q => ∃ a xs, x = .ref a ∧ SqT K H a xs ∧
  (HT.sIx xs.length 0 lo = 0 ∧ HT.sIx xs.length xs.length hi = xs.length → Q (.ref a) H) ∧ (¬ (HT.sIx xs.length 0 lo = 0 ∧ HT.sIx xs.length xs.length hi = xs.length) → NewT H Q (cutV xs lo hi))
theorem sl_tupP : SlR X (rSlP X.K) := fun pins s σ H x v vl vu lo hi sl Q I rx hs pl pu h => by
  obtain ⟨a, xs, rfl, hx, q1, q2⟩ := h
  cases rx
  obtain ⟨its, r, ht, z⟩ := I.tuple hx
  have hl : its.toArray.size = xs.length := by rw [List.size_toArray]; exact r.length.symm
  refine ⟨"tuple", _, PyProof.Rows.slot_tuple_getitem.lookup, ht.typeIs, ?_⟩
  by_cases w : HT.sIx xs.length 0 lo = 0 ∧ HT.sIx xs.length xs.length hi = xs.length
  · exact getItem_tuple_whole ht hs pl pu (by rw [hl]; exact w) ⟨.ref a, H, I, rfl, q1 w⟩
  · refine HT.getItem_tuple_cut ht hs pl pu (by rw [hl]; exact w) ?_ (by rw [hl]; exact z)
    rw [hl]
    refine newT I (Nat.le_trans (cutV_length xs lo hi) z) ?_ (q2 w)
    exact (r.drop (HT.sIx xs.length 0 lo)).take (HT.sIx xs.length xs.length hi - HT.sIx xs.length 0 lo)
/-- tuple(range(..)) -/
def tTupRgP (te : L2.St → Hp → (Int → Int → Hp → Prop) → Prop) : TE := fun σ H Q => te σ H fun a b H1 => RgOk a b ∧ NewT H1 Q (rgV a b)
theorem pe_tupRgP {e : Expr} {te : L2.St → Hp → (Int → Int → Hp → Prop) → Prop} {p : Pos} (hc : X.calm = true) (hg : Gl X "tuple") (hm : X.mg "tuple" = none) (he : PRg X e te) (na : starEach [e] X.env = (false, eval e X.env) :: starEach [] X.env := by rfl) :
    PE X (.Call (.Name "tuple" p) [e] [] pos) (tTupRgP te) := ⟨fun pins s σ H Q I h => by
  refine Call_ (ld_blt I hg hm boot_tuple (PyProof.Rows.callWith_type1 (args_cons (thn (he pins s σ H _ I h) fun x s1 ⟨r, a, b, t, u, v, H1, ex, hr, I1, ok, q⟩ => args_nil ?_) na) na))
  subst ex
  obtain ⟨b1, b2, b3, b4, b5⟩ := ok
  exact call_tuple_range (n := (b - a).toNat) (I1.ok.hd hc) hr (small_one b1 b2 b3 b4) (rangeSize_nat a b) b5 fun h' tk acc hk hi =>
    newT (I1.kept hk : Inv X pins σ H1 { s1 with heap := h', toks := tk }) (by rw [rgV_length, sizeLine_eq]; omega) (vals_rg hi) q⟩
/-! ### t.index(x), t.index(x, i) -/
/-- the call of a method of a tuple whose object is plain -/
def tTM (K : PySem.W.Frag) (r : V → List V → Hp → VK → Prop) (to : TE) (t : TA) : TE := fun σ H Q => to σ H fun x H1 => (∃ a xs, x = .ref a ∧ PTu K H1 a xs) ∧ t σ H1 fun xs H2 => r x xs H2 Q
theorem PTu.plain {a : Addr} (I : Inv X pins σ H s) (h : PTu X.K H a xs) : s.TypeIs (.ref a) "tuple" ∧ ∀ b, Value.ref a = .ref b → ∃ ob, s.heap.get? b = some ob ∧ ob.dict = none := by
  obtain ⟨its, _, p, _⟩ := I.tuple h.sq
  refine ⟨p.typeIs, fun b e => ?_⟩
  cases e
  rcases h with ⟨o, hd, h⟩ | ⟨o, _, _, h, hd, _⟩
  · exact ⟨o, (show ObjOk X.prog X.w H s.heap a (.frz o (.tup xs)) from I.hok a _ h).1, hd⟩
  · exact ⟨o, I.kIn a o h, hd⟩
theorem pe_tm {o e : Expr} {name : Str} {apos cpos : Pos} {id : String} {to : TE} {r : V → List V → Hp → VK → Prop} (slot : Slot "tuple" name id) (hty : typeOf (.builtin id) = pure (.type "method_descriptor")) (hm : MtR X id r) (ho : PE X o to) (ha : PA X (e :: es) t)
    (hbase : attributeBase o name X.env (eval o X.env) = eval o X.env := by rfl)
    (hfew : ((backTo cpos (starEach (e :: es) X.env)).all (fun x => !x.1) && (backToKw cpos (keywordEach [] X.env)).all (fun x => x.1.isSome)
      && decide ((e :: es).length + ([] : List Keyword).length + (if ([] : List Keyword).isEmpty then 0 else 1) < 30)) = true := by rfl)
    (hline : (apos.endLine == cpos.line) = true := by rfl) (hs : starEach (e :: es) X.env = (false, eval e X.env) :: starEach es X.env := by rfl) (hplain : (backTo cpos (starEach es X.env)).any (·.1) = false := by rfl) :
    PE X (.Call (.Attribute o name apos) (e :: es) [] cpos) (tTM X.K r to t) := ⟨fun pins s σ H Q I h => by
  refine wpAny_Call_method_late hbase hfew hline rfl (thn (ho.run pins s σ H _ I h) fun v s1 hz => ?_)
  obtain ⟨x, H1, I1, r1, ⟨a, xs, rfl, pt⟩, q1⟩ := hz
  cases r1
  obtain ⟨h1, h2⟩ := pt.plain I1
  refine ⟨"tuple", id, PySem.F.plainAttrs_tuple, slot, hty, h1, h2, ?_⟩
  have hA := ha.run cpos pins s1 σ H1 _ I1 q1
  rw [hs] at hA ⊢
  refine Calls.callWith_builtin (by show (false || (backTo cpos (starEach es X.env)).any (·.1)) = false; rw [hplain] <;> rfl) (Calls.evalArgs_plain (thn hA fun us s2 hz => ?_))
  obtain ⟨vs, H2, I2, r2, q2⟩ := hz
  exact hm pins s2 σ H2 (.ref a) vs _ us Q I2 rfl r2 q2⟩
end
end Tw

set_option Elab.async false
set_option linter.all false
set_option maxRecDepth 100000
set_option maxHeartbeats 2000000

/-! ## Tw: values as data, slots as data, readings as partial functions on slots -/
namespace Tw
open PySem PySem.Spec PyProof.Rows L2
open Evl (Ex)

def keyD : Key → PyData
  | .inl i => .int i
  | .inr x => .str x

/-- a list to be read: tracked, locked, or one of the module's own -/
def RL (K : PySem.W.Frag) (H : Hp) (a : Addr) (xs : List V) : Prop := Rd H a (.lst xs) ∨
  ∃ (its : List Value) (n : Nat), K.lookup a = some { cls := .type "list", data := .seq its.toArray n } ∧ Vals xs its ∧ xs.length ≤ sizeLine
theorem RL.of {K : PySem.W.Frag} {H : Hp} {a : Addr} {xs : List V} (h : H a = some (.lst xs)) : RL K H a xs := .inl (Rd.of h)
theorem RL.mono {K : PySem.W.Frag} {H H' : Hp} {a : Addr} {xs : List V} (h : RL K H a xs) (e : Ex H H') : RL K H' a xs := h.imp (fun q => Evl.ex_rd e q) id
theorem RL.sq {K : PySem.W.Frag} {H : Hp} {a : Addr} {xs : List V} (h : RL K H a xs) : SqL K H a xs := h.imp id fun ⟨its, n, e, v, z⟩ => ⟨_, its.toArray, n, e, rfl, rfl, rfl, by rw [List.size_toArray, ← v.length]; exact z, by simpa using v⟩
mutual
inductive Dt (K : PySem.W.Frag) (G : Hp) : V → PyData → Prop
  | nn : Dt K G .non .none
  | bb (b : Bool) : Dt K G (.bl b) (.bool b)
  | ii (i : Int) : Dt K G (.int i) (.int i)
  | ss (x : Str) : Dt K G (.str x) (.str x)
  | ll {a : Addr} {xs : List V} {ds : List PyData} (h : RL K G a xs) (t : Da K G xs ds) :
      Dt K G (.ref a) (.list ds)
  | tt {a : Addr} {xs : List V} {ds : List PyData} (h : PTu K G a xs) (t : Da K G xs ds) :
      Dt K G (.ref a) (.tuple ds)
  | dd {a : Addr} {kvs : List (Key × V)} {ds : List PyData} (h : G a = some (.dK kvs)) (t : Da K G (kvs.map (·.2)) ds) :
      Dt K G (.ref a) (.dict ((kvs.map fun p => keyD p.1).zip ds))
inductive Da (K : PySem.W.Frag) (G : Hp) : List V → List PyData → Prop
  | nil : Da K G [] []
  | cons {v : V} {vs : List V} {d : PyData} {ds : List PyData} (h : Dt K G v d) (t : Da K G vs ds) :
      Da K G (v :: vs) (d :: ds)
end

section
variable {K : PySem.W.Frag} {G G' : Hp}
mutual
theorem Dt.mono (e : Ex G G') : ∀ {v : V} {d : PyData}, Dt K G v d → Dt K G' v d
  | _, _, .nn => .nn
  | _, _, .bb b => .bb b
  | _, _, .ii i => .ii i
  | _, _, .ss x => .ss x
  | _, _, .ll h t => .ll ((h.mono e)) (Da.mono e t)
  | _, _, .tt h t => .tt (h.mono e) (Da.mono e t)
  | _, _, .dd h t => .dd (e _ _ h) (Da.mono e t)
theorem Da.mono (e : Ex G G') : ∀ {vs : List V} {ds : List PyData}, Da K G vs ds → Da K G' vs ds
  | _, _, .nil => .nil
  | _, _, .cons h t => .cons (Dt.mono e h) (Da.mono e t)
end
theorem Da.len : ∀ {vs : List V} {ds : List PyData}, Da K G vs ds → vs.length = ds.length
  | _, _, .nil => rfl
  | _, _, .cons _ t => congrArg (· + 1) (Da.len t)
theorem Da.get : ∀ {vs : List V} {ds : List PyData} {i : Nat} {d : PyData}, Da K G vs ds → ds[i]? = some d → ∃ v, vs[i]? = some v ∧ Dt K G v d
  | _, _, _, _, .nil, e => by simp at e
  | _, _, 0, _, .cons h _, e => by
    simp at e; subst e; exact ⟨_, rfl, h⟩
  | _, _, i + 1, _, .cons _ t, e => by
    obtain ⟨v, h1, h2⟩ := Da.get (i := i) t (by simpa using e)
    exact ⟨v, by simpa using h1, h2⟩
theorem Da.getV : ∀ {vs : List V} {ds : List PyData} {i : Nat} {v : V}, Da K G vs ds → vs[i]? = some v → ∃ d, ds[i]? = some d ∧ Dt K G v d
  | _, _, _, _, .nil, e => by simp at e
  | _, _, 0, _, .cons h _, e => by
    simp at e; subst e; exact ⟨_, rfl, h⟩
  | _, _, i + 1, _, .cons _ t, e => by
    obtain ⟨v, h1, h2⟩ := Da.getV (i := i) t (by simpa using e)
    exact ⟨v, by simpa using h1, h2⟩
theorem Da.app : ∀ {vs ws : List V} {ds es : List PyData}, Da K G vs ds → Da K G ws es → Da K G (vs ++ ws) (ds ++ es)
  | _, _, _, _, .nil, s => s
  | _, _, _, _, .cons h t, s => .cons h (Da.app t s)
theorem Da.one {v : V} {d : PyData} (h : Dt K G v d) : Da K G [v] [d] := .cons h .nil
theorem Da.take : ∀ {vs : List V} {ds : List PyData} (n : Nat), Da K G vs ds → Da K G (vs.take n) (ds.take n)
  | _, _, 0, _ => .nil
  | _, _, _ + 1, .nil => .nil
  | _, _, n + 1, .cons h t => .cons h (Da.take n t)
theorem Da.drop : ∀ {vs : List V} {ds : List PyData} (n : Nat), Da K G vs ds → Da K G (vs.drop n) (ds.drop n)
  | _, _, 0, s => s
  | _, _, _ + 1, .nil => .nil
  | _, _, n + 1, .cons _ t => Da.drop n t
theorem Da.set : ∀ {vs : List V} {ds : List PyData} {v : V} {d : PyData} (i : Nat), Dt K G v d → Da K G vs ds → Da K G (vs.set i v) (ds.set i d)
  | _, _, _, _, _, _, .nil => .nil
  | _, _, _, _, 0, q, .cons _ t => .cons q t
  | _, _, _, _, i + 1, q, .cons h t => .cons h (Da.set i q t)
theorem Da.rev {vs : List V} {ds : List PyData} (h : Da K G vs ds) : Da K G vs.reverse ds.reverse := by
  induction vs generalizing ds with
  | nil => cases h; exact .nil
  | cons v vs ih =>
    cases h with
    | cons h t =>
      rw [List.reverse_cons, List.reverse_cons]
      exact (ih t).app (Da.one h)
theorem Da.of_map {α : Type} {f : α → V} {g : α → PyData} (h : ∀ a, Dt K G (f a) (g a)) : ∀ l : List α, Da K G (l.map f) (l.map g)
  | [] => .nil
  | a :: l => .cons (h a) (Da.of_map h l)
theorem Da.ints (l : List Int) : Da K G (l.map V.int) (l.map PyData.int) := Da.of_map (fun i => .ii i) l
end

/-! ### what the data are in the model's heap -/
theorem key_read {h : Heap} {k : Key} {u : Value} (e : keyIs k u = true) : ∃ as, Reads h u (keyD k) as := by
  rcases keyIs_shape e with ⟨i, t, rfl, rfl⟩ | ⟨x, t, rfl, rfl⟩
  · exact ⟨_, .int i t⟩
  · exact ⟨_, .str x t⟩
theorem keys_read {P : Program} {w : World} {h : Heap} : ∀ {kvs : List (Key × V)} {vs : List (Key × Value)} {es : List DictEntry}, KV kvs vs → Pairs (mixKind P w) es vs →
    (∃ as, ReadsAll h (es.map (·.key)) (kvs.map fun p => keyD p.1) as) ∧ Vals (kvs.map (·.2)) (es.map (·.val))
  | _, _, _, .nil, .nil => ⟨⟨_, .nil⟩, .nil⟩
  | _, _, _, .cons r t, .cons e1 e2 e3 => by
    obtain ⟨⟨as, q1⟩, q2⟩ := keys_read (h := h) t e3
    have e1' : keyIs _ _ = true := e1
    rw [← r.1] at e1'
    obtain ⟨bs, q3⟩ := key_read (h := h) e1'
    refine ⟨⟨_, .cons q3 q1⟩, .cons ?_ q2⟩
    dsimp only
    rw [e2]
    exact r.2
section
variable {X : Cx} {pins : List (Addr × Obj)} {σ : L2.St} {H : Hp} {s : Shared}
mutual
theorem Dt.reads (I : Inv X pins σ H s) : ∀ {v : V} {d : PyData} {u : Value}, Dt X.K H v d → RelV v u → ∃ as, Reads s.heap u d as
  | _, _, _, .nn, r => by
    cases r; exact ⟨_, .none⟩
  | _, _, _, .bb b, r => by
    cases r; exact ⟨_, .bool b⟩
  | _, _, _, .ii i, r => by
    obtain ⟨t, rfl⟩ := r; exact ⟨_, .int i t⟩
  | _, _, _, .ss x, r => by
    obtain ⟨t, rfl⟩ := r; exact ⟨_, .str x t⟩
  | _, _, _, .ll h t, r => by
    cases r
    obtain ⟨its, rv, ⟨o, n, ho, hc, _, hd⟩, _⟩ := I.list h.sq
    obtain ⟨as, hr⟩ := Da.reads I t rv
    exact ⟨_, .list ho hc hd hr⟩
  | _, _, _, .tt h t, r => by
    cases r
    obtain ⟨its, rv, ⟨o, ho, hc, n, hd⟩, _⟩ := I.tuple h.sq
    obtain ⟨as, hr⟩ := Da.reads I t rv
    exact ⟨_, .tuple ho hc hd hr⟩
  | _, _, _, .dd (a := a) (kvs := kvs) (ds := ds) h t, r => by
    cases r
    obtain ⟨_, _, vs, rk, o, es, ep, ho, hx, hd, hk, hp, _⟩ := (show ObjOk X.prog X.w H s.heap a (.dK kvs) from I.hok a _ h)
    obtain ⟨⟨as, q⟩, qv⟩ := keys_read (h := s.heap) rk hp
    obtain ⟨bs, q2⟩ := Da.reads I t qv
    have hl : (kvs.map fun p => keyD p.1).length = ds.length := by
      rw [List.length_map, ← t.len, List.length_map]
    refine ⟨_, .dict (as := as) (bs := bs) ho hx.1 hd ?_ ?_⟩
    · rw [List.map_fst_zip (Nat.le_of_eq hl)]
      exact q
    · rw [List.map_snd_zip (Nat.le_of_eq hl.symm)]
      exact q2
theorem Da.reads (I : Inv X pins σ H s) : ∀ {vs : List V} {ds : List PyData} {us : List Value}, Da X.K H vs ds → Vals vs us → ∃ as, ReadsAll s.heap us ds as
  | _, _, _, .nil, r => by
    cases r; exact ⟨_, .nil⟩
  | _, _, _, .cons h t, r => by
    cases r with
    | cons r1 r2 =>
      obtain ⟨as, q1⟩ := Dt.reads I h r1
      obtain ⟨bs, q2⟩ := Da.reads I t r2
      exact ⟨_, .cons q1 q2⟩
end
end
/-! ### slots -/
/-- what a slot holds: nothing that is known, data, a list of one's own that may change -/
inductive Mu where
  | l (xs : List PyData)
  | k (es : List (PyData × PyData))
instance : Coe (List PyData) Mu := ⟨Mu.l⟩
inductive Sl where
  | un
  | d (x : PyData)
  | m (o : Mu)
abbrev Rho := List Sl
/-- what a changing thing of one's own holds -/
inductive MuOk (K : PySem.W.Frag) (G : Hp) : HO → Mu → Prop
  | l {xs : List V} {ds : List PyData} (h : Da K G xs ds) : MuOk K G (.lst xs) (.l ds)
  | k {kvs : List (Key × V)} {ds : List PyData} (h : Da K G (kvs.map (·.2)) ds) : MuOk K G (.dK kvs) (.k ((kvs.map fun p => keyD p.1).zip ds))
theorem MuOk.mono {K : PySem.W.Frag} {G G' : Hp} {o : HO} {u : Mu} (h : MuOk K G o u) (e : Ex G G') : MuOk K G' o u := by
  cases h with
  | l h => exact .l (h.mono e)
  | k h => exact .k (h.mono e)

def own (σ : L2.St) (ρ : Rho) (l : Addr) : Prop := ∃ (i : Nat) (ds : Mu), ρ[i]? = some (.m ds) ∧ σ[i]? = some (some (.ref l))

structure EnvOk (K : PySem.W.Frag) (G H : Hp) (σ : L2.St) (ρ : Rho) : Prop where
  ex : Ex G H
  len : σ.length = ρ.length
  dat : ∀ (i : Nat) (d : PyData), ρ[i]? = some (.d d) → ∃ v, σ[i]? = some (some v) ∧ Dt K G v d
  mu : ∀ (i : Nat) (ds : Mu), ρ[i]? = some (.m ds) → ∃ l xs, σ[i]? = some (some (.ref l)) ∧ G l = none ∧ H l = some xs ∧ MuOk K G xs ds
  ne : ∀ (i j : Nat) (ds es : Mu) (l : Addr), ρ[i]? = some (.m ds) → ρ[j]? = some (.m es) → σ[i]? = some (some (.ref l)) → σ[j]? = some (some (.ref l)) → i = j

/-- from one state to a later one: what may have changed are the cells of ow -/
structure Tr (ow : Addr → Prop) (G H G' H' : Hp) : Prop where
  g : Ex G G'
  h : ∀ a o, H a = some o → ¬ ow a → H' a = some o
  n : ∀ a o, H a = some o → G a = none → ¬ ow a → G' a = none
  k : ∀ a o, H a = some o → ∃ o', H' a = some o'
abbrev nobody : Addr → Prop := fun _ => False

section
variable {K : PySem.W.Frag} {G H G1 H1 G2 H2 : Hp} {ow ow' : Addr → Prop} {σ : L2.St} {ρ : Rho}
theorem Tr.refl : Tr ow G H G H := ⟨fun _ _ e => e, fun _ _ e _ => e, fun _ _ _ e _ => e, fun _ o e => ⟨o, e⟩⟩
theorem Tr.trans (a : Tr ow G H G1 H1) (b : Tr ow' G1 H1 G2 H2) (s : ∀ x o, H x = some o → ow' x → ow x) : Tr ow G H G2 H2 where
  g := fun x o e => b.g x o (a.g x o e)
  h := fun x o e n => b.h x o (a.h x o e n) fun q => n (s x o e q)
  n := fun x o e g n => b.n x o (a.h x o e n) (a.n x o e g n) fun q => n (s x o e q)
  k := fun x o e => let ⟨o1, e1⟩ := a.k x o e; b.k x o1 e1
theorem Tr.wide (a : Tr ow G H G1 H1) (s : ∀ x o, H x = some o → ow x → ow' x) : Tr ow' G H G1 H1 where
  g := a.g
  h := fun x o e n => a.h x o e fun q => n (s x o e q)
  n := fun x o e g n => a.n x o e g fun q => n (s x o e q)
  k := a.k
theorem Tr.none (a : Tr nobody G H G1 H1) : Tr ow G H G1 H1 := a.wide fun _ _ _ q => q.elim
theorem Tr.exH (a : Tr nobody G H G1 H1) : Ex H H1 := fun x o e => a.h x o e id
/-- a new thing that never changes -/
theorem Tr.new {p : Addr} {o : HO} (hp : H p = Option.none) (e : Ex G H) : Tr ow G H (upd G p o) (upd H p o) where
  g := fun x u q => by
    rw [upd_ne fun z => by subst z; rw [e _ _ q] at hp; cases hp]
    exact q
  h := fun x u q _ => by
    rw [upd_ne fun z => by subst z; rw [q] at hp; cases hp]
    exact q
  n := fun x u q g _ => by
    rw [upd_ne fun z => by subst z; rw [q] at hp; cases hp]
    exact g
  k := fun x u q => ⟨u, by
    rw [upd_ne fun z => by subst z; rw [q] at hp; cases hp]
    exact q⟩
theorem ex_upd {p : Addr} {o : HO} (e : Ex G H) : Ex (upd G p o) (upd H p o) := fun x u q => by
  by_cases z : x = p
  · subst z; rw [upd_same] at q ⊢; exact q
  · rw [upd_ne z] at q ⊢; exact e _ _ q
theorem ex_new {p : Addr} {o : HO} (e : Ex G H) (hp : H p = Option.none) : Ex G (upd H p o) := fun x u q => by
  rw [upd_ne fun z => by subst z; rw [e _ _ q] at hp; cases hp]
  exact e _ _ q
theorem EnvOk.dat' (E : EnvOk K G H σ ρ) {i : Nat} {d : PyData} (h : ρ[i]? = some (.d d)) : ∃ v, σ[i]? = some (some v) ∧ Dt K G v d := E.dat i d h
theorem EnvOk.muL (E : EnvOk K G H σ ρ) {i : Nat} {ds : List PyData} (h : ρ[i]? = some (.m (.l ds))) : ∃ l xs, σ[i]? = some (some (.ref l)) ∧ G l = none ∧ H l = some (.lst xs) ∧ Da K G xs ds := by
  obtain ⟨l, o, h1, h2, h3, h4⟩ := E.mu i _ h
  cases h4 with
  | l h4 => exact ⟨l, _, h1, h2, h3, h4⟩
theorem EnvOk.muK (E : EnvOk K G H σ ρ) {i : Nat} {es : List (PyData × PyData)} (h : ρ[i]? = some (.m (.k es))) : ∃ l kvs ds, σ[i]? = some (some (.ref l)) ∧ G l = none ∧ H l = some (.dK kvs) ∧ Da K G (kvs.map (·.2)) ds ∧ es = (kvs.map fun p => keyD p.1).zip ds := by
  obtain ⟨l, o, h1, h2, h3, h4⟩ := E.mu i _ h
  cases h4 with
  | k h4 => exact ⟨l, _, _, h1, h2, h3, h4, rfl⟩
/-- behind a step that changed none of its cells -/
theorem EnvOk.tr (E : EnvOk K G H σ ρ) (t : Tr nobody G H G1 H1) (e : Ex G1 H1) : EnvOk K G1 H1 σ ρ where
  ex := e
  len := E.len
  dat := fun i d q => by
    obtain ⟨v, h1, h2⟩ := E.dat i d q
    exact ⟨v, h1, h2.mono t.g⟩
  mu := fun i ds q => by
    obtain ⟨l, xs, h1, h2, h3, h4⟩ := E.mu i ds q
    exact ⟨l, xs, h1, t.n l _ h3 h2 id, t.h l _ h3 id, h4.mono t.g⟩
  ne := E.ne
end

/-! ### readings of expressions -/
/-- what one owns, where b says that it may change -/
def ows (b : Bool) (σ : L2.St) (ρ : Rho) : Addr → Prop := fun a => b = true ∧ own σ ρ a
abbrev FE (α : Type) := Rho → Option (α × Rho)
/-- f tells the data that come, and the slots behind -/
def tE (K : PySem.W.Frag) (b : Bool) (f : FE PyData) : TE := fun σ H Q => ∃ (G : Hp) (ρ : Rho) (d : PyData) (ρ' : Rho), EnvOk K G H σ ρ ∧ f ρ = some (d, ρ') ∧
  ∀ v G' H', Tr (ows b σ ρ) G H G' H' → (∀ l, own σ ρ' l → own σ ρ l) → EnvOk K G' H' σ ρ' → Dt K G' v d → Q v H'
def tT (K : PySem.W.Frag) (b : Bool) (f : FE Bool) : TT := fun σ H Q => ∃ (G : Hp) (ρ : Rho) (d : Bool) (ρ' : Rho), EnvOk K G H σ ρ ∧ f ρ = some (d, ρ') ∧
  ∀ G' H', Tr (ows b σ ρ) G H G' H' → (∀ l, own σ ρ' l → own σ ρ l) → EnvOk K G' H' σ ρ' → Q d H'
def tA (K : PySem.W.Frag) (b : Bool) (f : FE (List PyData)) : TA := fun σ H Q => ∃ (G : Hp) (ρ : Rho) (d : List PyData) (ρ' : Rho), EnvOk K G H σ ρ ∧ f ρ = some (d, ρ') ∧
  ∀ v G' H', Tr (ows b σ ρ) G H G' H' → (∀ l, own σ ρ' l → own σ ρ l) → EnvOk K G' H' σ ρ' → Da K G' v d → Q v H'

section
variable {X : Cx} {e : Expr} {es : List Expr} {t t' : TE}
theorem PE.weak (h : PE X e t) (w : ∀ σ H Q, t' σ H Q → t σ H Q) : PE X e t' := ⟨fun pins s σ H Q I q => h.run pins s σ H Q I (w σ H Q q)⟩
theorem PE.weakI (h : PE X e t) (w : ∀ pins s σ H Q, Inv X pins σ H s → t' σ H Q → t σ H Q) : PE X e t' := ⟨fun pins s σ H Q I q => h.run pins s σ H Q I (w pins s σ H Q I q)⟩
theorem PT.weak {t t' : TT} (h : PT X e t) (w : ∀ σ H Q, t' σ H Q → t σ H Q) : PT X e t' := ⟨fun pins s σ H Q I q => h.run pins s σ H Q I (w σ H Q q)⟩
theorem PA.weak {t t' : TA} (h : PA X es t) (w : ∀ σ H Q, t' σ H Q → t σ H Q) : PA X es t' := ⟨fun pos pins s σ H Q I q => h.run pos pins s σ H Q I (w σ H Q q)⟩
theorem PS.weak {st : Stmt} {t t' : TS} (h : PS X st t) (w : ∀ D σ H, t' D σ H → t D σ H) : PS X st t' := ⟨fun pins s σ H D I q => h.run pins s σ H D I (w D σ H q)⟩
theorem PS.weakI {st : Stmt} {t t' : TS} (h : PS X st t) (w : ∀ pins s D σ H, Inv X pins σ H s → t' D σ H → t D σ H) : PS X st t' := ⟨fun pins s σ H D I q => h.run pins s σ H D I (w pins s D σ H I q)⟩
theorem PSs.weak {st : List Stmt} {t t' : TS} (h : PSs X st t) (w : ∀ D σ H, t' D σ H → t D σ H) : PSs X st t' := ⟨fun pins s σ H D I q => h.run pins s σ H D I (w D σ H q)⟩
end
section
variable {X : Cx} {e a b : Expr} {es : List Expr} {pos : Pos} {bb : Bool} {f fa fb : FE PyData}
theorem ows_true {σ : L2.St} {ρ : Rho} {b : Bool} {x : Addr} (h : ows b σ ρ x) : ows true σ ρ x := ⟨rfl, h.2⟩
/-- an expression that changes nothing is one that may -/
theorem e_up (h : PE X e (tE X.K false f)) : PE X e (tE X.K true f) := PE.weak h fun σ H Q ⟨G, ρ, d, ρ', E, ef, k⟩ =>
  ⟨G, ρ, d, ρ', E, ef, fun v G' H' t => k v G' H' (t.wide fun _ _ _ q => ows_true q)⟩
theorem t_up {f : FE Bool} (h : PT X e (tT X.K false f)) : PT X e (tT X.K true f) := PT.weak h fun σ H Q ⟨G, ρ, d, ρ', E, ef, k⟩ =>
  ⟨G, ρ, d, ρ', E, ef, fun G' H' t => k G' H' (t.wide fun _ _ _ q => ows_true q)⟩
theorem a_up {f : FE (List PyData)} (h : PA X es (tA X.K false f)) : PA X es (tA X.K true f) := PA.weak h fun σ H Q ⟨G, ρ, d, ρ', E, ef, k⟩ =>
  ⟨G, ρ, d, ρ', E, ef, fun v G' H' t => k v G' H' (t.wide fun _ _ _ q => ows_true q)⟩
theorem e_cong {f' : FE PyData} (h : PE X e (tE X.K bb f)) (w : ∀ ρ, f' ρ = f ρ) : PE X e (tE X.K bb f') := by
  rw [show f' = f from funext w]; exact h
/-- two steps, one behind the other -/
theorem Tr.seq {σ : L2.St} {ρ ρ1 : Rho} {G H G1 H1 G2 H2 : Hp} (a : Tr (ows bb σ ρ) G H G1 H1) (s : ∀ l, own σ ρ1 l → own σ ρ l) (b : Tr (ows bb σ ρ1) G1 H1 G2 H2) : Tr (ows bb σ ρ) G H G2 H2 :=
  a.trans b fun _ _ _ q => ⟨q.1, s _ q.2⟩
end
/-- nothing behind -/
def ret {α : Type} (x : α) : FE α := fun ρ => some (x, ρ)
/-- one behind another -/
def thnE {α β : Type} (f : FE α) (g : α → FE β) : FE β := fun ρ => (f ρ).bind fun p => g p.1 p.2
theorem thnE_of {α β : Type} {f : FE α} {g : α → FE β} {ρ ρ2 : Rho} {y : β} (h : thnE f g ρ = some (y, ρ2)) : ∃ x ρ1, f ρ = some (x, ρ1) ∧ g x ρ1 = some (y, ρ2) := by
  unfold thnE at h
  obtain ⟨⟨x, ρ1⟩, h1, h2⟩ := Option.bind_eq_some_iff.mp h
  exact ⟨x, ρ1, h1, h2⟩
/-- a reckoning of values that may have no answer -/
def liftO {α : Type} (o : Option α) : FE α := fun ρ => o.map fun x => (x, ρ)
theorem liftO_of {α : Type} {o : Option α} {ρ ρ2 : Rho} {y : α} (h : liftO o ρ = some (y, ρ2)) : o = some y ∧ ρ2 = ρ := by
  unfold liftO at h
  cases o with
  | none => cases h
  | some z =>
    have e := Option.some.inj h
    exact ⟨congrArg some (Prod.mk.inj e).1, (Prod.mk.inj e).2.symm⟩
end Tw

set_option Elab.async false
set_option linter.all false
set_option maxRecDepth 100000
set_option maxHeartbeats 2000000
namespace Tw
open PySem PySem.Spec PyProof.Rows L2
open Evl (Ex)

/-! ### names, constants -/
def fVar (i : Nat) : FE PyData := fun ρ => match ρ[i]? with
  | some (.d x) => some (x, ρ)
  | _ => none
theorem fVar_of {i : Nat} {ρ ρ' : Rho} {d : PyData} (h : fVar i ρ = some (d, ρ')) : ρ[i]? = some (.d d) ∧ ρ' = ρ := by
  unfold fVar at h
  split at h
  · rename_i x e
    have q := Option.some.inj h
    exact ⟨by rw [e, (Prod.mk.inj q).1], (Prod.mk.inj q).2.symm⟩
  · cases h
section
variable {X : Cx} {e a b c : Expr} {es : List Expr} {pos : Pos} {bb : Bool} {f fa fb fc : FE PyData} {g : FE Bool} {σ : L2.St} {ρ ρ1 ρ2 : Rho}
theorem e_var (i : Nat) (h : PE X e (tVar i)) : PE X e (tE X.K bb (fVar i)) := PE.weak h fun σ H Q ⟨G, ρ, d, ρ', E, ef, k⟩ => by
  obtain ⟨h1, rfl⟩ := fVar_of ef
  obtain ⟨v, hv, hd⟩ := E.dat i d h1
  exact ⟨v, hv, k v G H .refl (fun _ q => q) E hd⟩
theorem e_con {v : V} {d : PyData} (h : PE X e (tC v)) (hd : ∀ G, Dt X.K G v d) : PE X e (tE X.K bb (ret d)) := PE.weak h fun σ H Q ⟨G, ρ, d', ρ', E, ef, k⟩ => by
  have q := Option.some.inj ef
  obtain ⟨rfl, rfl⟩ := Prod.mk.inj q
  exact k v G H .refl (fun _ q => q) E (hd G)
theorem e_int {i j pos} : PE X (.Constant (.int i) j pos) (tE X.K bb (ret (.int i))) := e_con pe_int fun _ => .ii i
theorem e_bl {b j pos} : PE X (.Constant (.bool b) j pos) (tE X.K bb (ret (.bool b))) := e_con pe_bl fun _ => .bb b
theorem e_non {j pos} : PE X (.Constant .none j pos) (tE X.K bb (ret .none)) := e_con pe_non fun _ => .nn
theorem e_str {x j pos} : PE X (.Constant (.str x) j pos) (tE X.K bb (ret (.str x))) := e_con pe_str fun _ => .ss x
/-- a module's number -/
theorem e_glob {x : Str} {i : Int} {t : Tok} (hg : Gl X x) (hm : X.mg x = some (.int i t)) (hd : (x == ("__debug__" : Str)) = false := by decide) : PE X (.Name x pos) (tE X.K bb (ret (.int i))) :=
  e_con (v := .int i) (pe_glob hg hm ⟨_, rfl⟩ hd) fun _ => .ii i

/-! ### an operation on two values -/
def OpD (K : PySem.W.Frag) (r : R2) (g : PyData → PyData → Option PyData) : Prop :=
  ∀ (G H : Hp) (x y : V) (d e z : PyData) (Q : VK), Ex G H → Dt K G x d → Dt K G y e → g d e = some z → (∀ v G' H', Tr nobody G H G' H' → Ex G' H' → Dt K G' v z → Q v H') → r x y H Q
def fBin (g : PyData → PyData → Option PyData) (fa fb : FE PyData) : FE PyData := thnE fa fun x => thnE fb fun y => liftO (g x y)
theorem bin_run {r : R2} {g : PyData → PyData → Option PyData} (hr : OpD X.K r g) {H : Hp} {Q : VK} (h : tE X.K bb (fBin g fa fb) σ H Q) : tOp r (tE X.K bb fa) (tE X.K bb fb) σ H Q := by
  obtain ⟨G, ρ, d, ρ', E, ef, k⟩ := h
  obtain ⟨x, ρ1, h1, h2⟩ := thnE_of ef
  obtain ⟨y, ρ2, h3, h4⟩ := thnE_of h2
  obtain ⟨h5, rfl⟩ := liftO_of h4
  refine ⟨G, ρ, x, ρ1, E, h1, fun v G1 H1 t1 o1 E1 d1 => ⟨G1, ρ1, y, ρ', E1, h3, fun u G2 H2 t2 o2 E2 d2 => ?_⟩⟩
  refine hr G2 H2 v u x y d Q E2.ex (d1.mono t2.g) d2 h5 fun z G3 H3 t3 x3 d3 => ?_
  exact k z G3 H3 ((t1.seq o1 t2).trans t3 fun _ _ _ q => q.elim) (fun l q => o1 l (o2 l q)) (E2.tr t3 x3) d3
theorem e_op {op : Operator} {r : R2} {g : PyData → PyData → Option PyData} (ho : OpR X (binaryOp op) r) (hr : OpD X.K r g) (ha : PE X a (tE X.K bb fa)) (hb : PE X b (tE X.K bb fb)) :
    PE X (.BinOp a op b pos) (tE X.K bb (fBin g fa fb)) := PE.weak (pe_op ho ha hb) fun _ _ _ h => bin_run hr h
theorem e_cmp {op : CmpOp} {r : R2} {g : PyData → PyData → Option PyData} (ho : OpR X (compareOp op) r) (hr : OpD X.K r g) (hm : behindInMarks op b = false) (ha : PE X a (tE X.K bb fa)) (hb : PE X b (tE X.K bb fb)) :
    PE X (.Compare a [op] [b] pos) (tE X.K bb (fBin g fa fb)) := PE.weak (pe_cmpR ho ha hb hm) fun _ _ _ h => bin_run hr h
theorem e_ix {r : R2} {g : PyData → PyData → Option PyData} (ho : IxR X r) (hr : OpD X.K r g) (hs : PlainIx b) (ha : PE X a (tE X.K bb fa)) (hb : PE X b (tE X.K bb fb)) :
    PE X (.Subscript a b pos) (tE X.K bb (fBin g fa fb)) := PE.weak (pe_ix ho ha hb hs) fun _ _ _ h => bin_run hr h
theorem OpD.or {K : PySem.W.Frag} {r r' : R2} {g g' : PyData → PyData → Option PyData} (h : OpD K r g) (h' : OpD K r' g') : OpD K (fun x y H Q => r x y H Q ∨ r' x y H Q) (fun d e => (g d e).or (g' d e)) :=
  fun G H x y d e z Q ex hd he hz k => by
    cases q : g d e with
    | some w =>
      have hz' : (g d e).or (g' d e) = some z := hz
      rw [q] at hz'
      exact .inl (h G H x y d e z Q ex hd he (q.trans hz') k)
    | none =>
      have hz' : (g d e).or (g' d e) = some z := hz
      rw [q] at hz'
      exact .inr (h' G H x y d e z Q ex hd he hz' k)
/-- a chain a op b op' c -/
def fChain (g g' : PyData → PyData → Option PyData) (fa fb fc : FE PyData) : FE PyData := thnE fa fun x => thnE fb fun y => thnE (liftO (g x y)) fun k => match k with
  | .bool true => thnE fc fun z => liftO (g' y z)
  | .bool false => ret (.bool false)
  | _ => fun _ => none
theorem dt_bool {K : PySem.W.Frag} {G : Hp} {v : V} {b : Bool} (h : Dt K G v (.bool b)) : v = .bl b := by cases h; rfl
theorem dt_int {K : PySem.W.Frag} {G : Hp} {v : V} {b : Int} (h : Dt K G v (.int b)) : v = .int b := by cases h; rfl
theorem dt_str {K : PySem.W.Frag} {G : Hp} {v : V} {b : Str} (h : Dt K G v (.str b)) : v = .str b := by cases h; rfl
theorem dt_none {K : PySem.W.Frag} {G : Hp} {v : V} (h : Dt K G v .none) : v = .non := by cases h; rfl
theorem dt_list {K : PySem.W.Frag} {G : Hp} {v : V} {ds : List PyData} (h : Dt K G v (.list ds)) : ∃ a xs, v = .ref a ∧ RL K G a xs ∧ Da K G xs ds := by cases h; exact ⟨_, _, rfl, ‹_›, ‹_›⟩
theorem dt_tupP {K : PySem.W.Frag} {G : Hp} {v : V} {ds : List PyData} (h : Dt K G v (.tuple ds)) : ∃ a xs, v = .ref a ∧ PTu K G a xs ∧ Da K G xs ds := by cases h; exact ⟨_, _, rfl, ‹_›, ‹_›⟩
theorem dt_tup {K : PySem.W.Frag} {G : Hp} {v : V} {ds : List PyData} (h : Dt K G v (.tuple ds)) : ∃ a xs, v = .ref a ∧ SqT K G a xs ∧ Da K G xs ds := let ⟨a, xs, h1, h2, h3⟩ := dt_tupP h; ⟨a, xs, h1, h2.sq, h3⟩
theorem chain_run {r r' : R2} {g g' : PyData → PyData → Option PyData} (hr : OpD X.K r g) (hr' : OpD X.K r' g') {H : Hp} {Q : VK} (h : tE X.K bb (fChain g g' fa fb fc) σ H Q) : tChain r r' (tE X.K bb fa) (tE X.K bb fb) (tE X.K bb fc) σ H Q := by
    obtain ⟨G, ρ, d, ρ', E, ef, k⟩ := h
    obtain ⟨x, ρ1, h1, h2⟩ := thnE_of ef
    obtain ⟨y, ρ2, h3, h4⟩ := thnE_of h2
    obtain ⟨z, ρ3, h55, h6⟩ := thnE_of h4
    obtain ⟨h5, rfl⟩ := liftO_of h55
    refine ⟨G, ρ, x, ρ1, E, h1, fun v G1 H1 t1 o1 E1 d1 => ⟨G1, ρ1, y, ρ3, E1, h3, fun u G2 H2 t2 o2 E2 d2 => ?_⟩⟩
    refine hr G2 H2 v u x y z _ E2.ex (d1.mono t2.g) d2 h5 fun w G3 H3 t3 x3 d3 => ?_
    have E3 := E2.tr t3 x3
    have t03 := (t1.seq o1 t2).trans t3 fun _ _ _ q => q.elim
    cases z with
    | bool q =>
      cases q with
      | false =>
        obtain ⟨rfl, rfl⟩ := Prod.mk.inj (Option.some.inj h6)
        refine ⟨false, dt_bool d3, ?_⟩
        rw [if_neg Bool.false_ne_true]
        exact k _ G3 H3 t03 (fun l q => o1 l (o2 l q)) E3 (.bb false)
      | true =>
        obtain ⟨m, ρ4, h7, h8⟩ := thnE_of h6
        obtain ⟨h9, rfl⟩ := liftO_of h8
        refine ⟨true, dt_bool d3, ?_⟩
        rw [if_pos rfl]
        refine ⟨G3, ρ3, m, ρ', E3, h7, fun u4 G4 H4 t4 o4 E4 d4 => ?_⟩
        refine hr' G4 H4 u u4 y m d Q E4.ex (d2.mono fun x o q => t4.g x o (t3.g x o q)) d4 h9 fun z G5 H5 t5 x5 d5 => ?_
        exact k z G5 H5 ((t03.seq (fun l q => o1 l (o2 l q)) t4).trans t5 fun _ _ _ q => q.elim) (fun l q => o1 l (o2 l (o4 l q))) (E4.tr t5 x5) d5
    | _ => cases h6
theorem e_chain {op op' : CmpOp} {r r' : R2} {g g' : PyData → PyData → Option PyData} (ho : OpR X (compareOp op) r) (ho' : OpR X (compareOp op') r') (hr : OpD X.K r g) (hr' : OpD X.K r' g')
    (ha : PE X a (tE X.K bb fa)) (hb : PE X b (tE X.K bb fb)) (hc : PE X c (tE X.K bb fc)) (hm : lastMarks [op, op'] [b, c] = false := by rfl) : PE X (.Compare a [op, op'] [b, c] pos) (tE X.K bb (fChain g g' fa fb fc)) :=
  PE.weak (pe_chain ho ho' ha hb hc hm) fun σ H Q h => chain_run hr hr' h
/-! ### an operation on one value -/
def UnD (K : PySem.W.Frag) (r : V → Hp → VK → Prop) (g : PyData → Option PyData) : Prop :=
  ∀ (G H : Hp) (x : V) (d z : PyData) (Q : VK), Ex G H → Dt K G x d → g d = some z → (∀ v G' H', Tr nobody G H G' H' → Ex G' H' → Dt K G' v z → Q v H') → r x H Q
def fUn (g : PyData → Option PyData) (fa : FE PyData) : FE PyData := thnE fa fun x => liftO (g x)
theorem e_un {op : UnaryOp} {r : V → Hp → VK → Prop} {g : PyData → Option PyData} (ho : UnR X (unaryOp op) r) (hr : UnD X.K r g) (ha : PE X a (tE X.K bb fa)) : PE X (.UnaryOp op a pos) (tE X.K bb (fUn g fa)) :=
  PE.weak (pe_un ho ha) fun σ H Q h => by
    obtain ⟨G, ρ, d, ρ', E, ef, k⟩ := h
    obtain ⟨x, ρ1, h1, h2⟩ := thnE_of ef
    obtain ⟨h5, rfl⟩ := liftO_of h2
    refine ⟨G, ρ, x, ρ', E, h1, fun v G1 H1 t1 o1 E1 d1 => ?_⟩
    refine hr G1 H1 v x d Q E1.ex d1 h5 fun z G3 H3 t3 x3 d3 => ?_
    exact k z G3 H3 (t1.trans t3 fun _ _ _ q => q.elim) o1 (E1.tr t3 x3) d3
/-! ### arguments, displays, calls of what is built in -/
def fNil : FE (List PyData) := ret []
def fCons (f : FE PyData) (r : FE (List PyData)) : FE (List PyData) := thnE f fun x => thnE r fun xs => ret (x :: xs)
theorem ret_of {α : Type} {x y : α} {ρ ρ' : Rho} (h : ret x ρ = some (y, ρ')) : y = x ∧ ρ' = ρ := by
  obtain ⟨q, p⟩ := Prod.mk.inj (Option.some.inj h)
  exact ⟨q.symm, p.symm⟩
theorem a_nil : PA X [] (tA X.K bb fNil) := PA.weak pa_nil fun σ H Q ⟨G, ρ, d, ρ', E, ef, k⟩ => by
  obtain ⟨rfl, rfl⟩ := ret_of ef
  exact k [] G H .refl (fun _ q => q) E .nil
theorem a_cons {r : FE (List PyData)} (ha : PE X e (tE X.K bb f)) (hr : PA X es (tA X.K bb r)) (hs : starEach (e :: es) X.env = (false, eval e X.env) :: starEach es X.env := by rfl) : PA X (e :: es) (tA X.K bb (fCons f r)) :=
  PA.weak (pa_cons ha hr hs) fun σ H Q ⟨G, ρ, d, ρ', E, ef, k⟩ => by
    obtain ⟨x, ρ1, h1, h2⟩ := thnE_of ef
    obtain ⟨xs, ρ2, h3, h4⟩ := thnE_of h2
    obtain ⟨rfl, rfl⟩ := ret_of h4
    refine ⟨G, ρ, x, ρ1, E, h1, fun v G1 H1 t1 o1 E1 d1 => ⟨G1, ρ1, xs, ρ', E1, h3, fun u G2 H2 t2 o2 E2 d2 => ?_⟩⟩
    exact k (v :: u) G2 H2 (t1.seq o1 t2) (fun l q => o1 l (o2 l q)) E2 (.cons (d1.mono t2.g) d2)
def sizeOk (n : Nat) : Bool := decide (n ≤ 100000)
theorem sizeOk_le {n : Nat} (h : sizeOk n = true) : n ≤ sizeLine := Evl.sz_of (of_decide_eq_true h)
def fTup (r : FE (List PyData)) : FE PyData := thnE r fun xs => liftO (if sizeOk xs.length then some (.tuple xs) else none)
def fLst (r : FE (List PyData)) : FE PyData := thnE r fun xs => liftO (if sizeOk xs.length then some (.list xs) else none)
theorem ite_some {α : Type} {c : Bool} {x y : α} (h : (if c = true then some x else none) = some y) : c = true ∧ x = y := by
  cases c with
  | false => cases h
  | true => exact ⟨rfl, Option.some.inj h⟩
theorem e_tup {x1} {r : FE (List PyData)} (h : PA X es (tA X.K bb r)) : PE X (.Tuple es x1 pos) (tE X.K bb (fTup r)) := PE.weak (pe_tupP h) fun σ H Q ⟨G, ρ, d, ρ', E, ef, k⟩ => by
  obtain ⟨x, ρ1, h1, h2⟩ := thnE_of ef
  obtain ⟨h3, rfl⟩ := liftO_of h2
  obtain ⟨hz, rfl⟩ := ite_some h3
  refine ⟨G, ρ, x, ρ', E, h1, fun v G1 H1 t1 o1 E1 d1 => ⟨by rw [d1.len]; exact sizeOk_le hz, fun p o hp ho => ?_⟩⟩
  have t2 : Tr nobody G1 H1 (upd G1 p (.frz o (.tup v))) (upd H1 p (.frz o (.tup v))) := Tr.new hp E1.ex
  exact k _ _ _ (t1.trans t2 fun _ _ _ q => q.elim) o1 (E1.tr t2 (ex_upd E1.ex)) (.tt (PTu.new ho) (d1.mono t2.g))
theorem e_lst {r : FE (List PyData)} (h : PA X es (tA X.K bb r)) : PE X (.List es pos) (tE X.K bb (fLst r)) := PE.weak (pe_lst h) fun σ H Q ⟨G, ρ, d, ρ', E, ef, k⟩ => by
  obtain ⟨x, ρ1, h1, h2⟩ := thnE_of ef
  obtain ⟨h3, rfl⟩ := liftO_of h2
  obtain ⟨hz, rfl⟩ := ite_some h3
  refine ⟨G, ρ, x, ρ', E, h1, fun v G1 H1 t1 o1 E1 d1 => ⟨by rw [d1.len]; exact sizeOk_le hz, fun p hp => ?_⟩⟩
  have t2 : Tr nobody G1 H1 (upd G1 p (.lst v)) (upd H1 p (.lst v)) := Tr.new hp E1.ex
  exact k _ _ _ (t1.trans t2 fun _ _ _ q => q.elim) o1 (E1.tr t2 (ex_upd E1.ex)) (.ll (RL.of upd_same) (d1.mono t2.g))
def CallD (K : PySem.W.Frag) (r : List V → Hp → VK → Prop) (g : List PyData → Option PyData) : Prop :=
  ∀ (G H : Hp) (xs : List V) (ds : List PyData) (z : PyData) (Q : VK), Ex G H → Da K G xs ds → g ds = some z → (∀ v G' H', Tr nobody G H G' H' → Ex G' H' → Dt K G' v z → Q v H') → r xs H Q
def fCall (g : List PyData → Option PyData) (r : FE (List PyData)) : FE PyData := thnE r fun xs => liftO (g xs)
theorem call_run {r : List V → Hp → VK → Prop} {g : List PyData → Option PyData} {ra : FE (List PyData)} (hr : CallD X.K r g) {H : Hp} {Q : VK} (h : tE X.K bb (fCall g ra) σ H Q) : tA X.K bb ra σ H fun vs H1 => r vs H1 Q := by
  obtain ⟨G, ρ, d, ρ', E, ef, k⟩ := h
  obtain ⟨x, ρ1, h1, h2⟩ := thnE_of ef
  obtain ⟨h5, rfl⟩ := liftO_of h2
  refine ⟨G, ρ, x, ρ', E, h1, fun v G1 H1 t1 o1 E1 d1 => ?_⟩
  refine hr G1 H1 v x d Q E1.ex d1 h5 fun z G3 H3 t3 x3 d3 => ?_
  exact k z G3 H3 (t1.trans t3 fun _ _ _ q => q.elim) o1 (E1.tr t3 x3) d3
theorem e_callB {x : Str} {p : Pos} {id : String} {r : List V → Hp → VK → Prop} {g : List PyData → Option PyData} {ra : FE (List PyData)} (hc : CallR X (.builtin id) r) (hr : CallD X.K r g) (hg : Gl X x) (hm : X.mg x = none)
    (hv : bootBuiltins x = some (.builtin id)) (ha : PA X (e :: es) (tA X.K bb ra)) (hn : x ≠ "__name__" := by decide) (hdb : (x == ("__debug__" : Str)) = false := by decide)
    (he : starEach (e :: es) X.env = (false, eval e X.env) :: starEach es X.env := by rfl) (hpl : (backTo pos (starEach es X.env)).any (·.1) = false := by rfl) : PE X (.Call (.Name x p) (e :: es) [] pos) (tE X.K bb (fCall g ra)) :=
  PE.weak (pe_callB hc hg hm hv ha hn hdb he hpl) fun _ _ _ h => call_run hr h
theorem e_callTy {x : Str} {p : Pos} {T : String} {r : List V → Hp → VK → Prop} {g : List PyData → Option PyData} {ra : FE (List PyData)} (hc : CallR X (.type T) r) (hr : CallD X.K r g) (hg : Gl X x) (hm : X.mg x = none)
    (hv : bootBuiltins x = some (.type T)) (ha : PA X (e :: es) (tA X.K bb ra)) (hn : x ≠ "__name__" := by decide) (hdb : (x == ("__debug__" : Str)) = false := by decide)
    (he : starEach (e :: es) X.env = (false, eval e X.env) :: starEach es X.env := by rfl) (hpl : (backTo pos (starEach es X.env)).any (·.1) = false := by rfl) : PE X (.Call (.Name x p) (e :: es) [] pos) (tE X.K bb (fCall g ra)) :=
  PE.weak (pe_callTy hc hg hm hv ha hn hdb he hpl) fun _ _ _ h => call_run hr h
end
end Tw

set_option Elab.async false
set_option linter.all false
set_option maxRecDepth 100000
set_option maxHeartbeats 4000000
/-! ### dicts beside what is no dict: == and != -/
namespace Tw
open PySem PySem.Spec PyProof.Rows
open PySem.SeqAt PySem.AutoSeq1
structure IsD (s : Shared) (l : Addr) : Prop where
  ex : ∃ (dd : Option Addr) (es : Array DictEntry) (n : Nat) (sl : Array (Option Value)), s.heap.get? l = some { cls := .type "dict", dict := dd, data := .dict es n, slots := sl }
theorem IsD.of {s : Shared} {a : Addr} {o : Obj} {es : Array DictEntry} {n : Nat} (h : s.heap.get? a = some o) (hc : o.cls = .type "dict") (hd : o.data = .dict es n) : IsD s a := by
  obtain ⟨c, dd, d, sl⟩ := o
  dsimp only at hc hd
  subst hc
  subst hd
  exact ⟨⟨dd, es, n, sl, h⟩⟩
abbrev dOb (dd : Option Addr) (es : Array DictEntry) (n : Nat) (sl : Array (Option Value)) : Obj := { cls := .type "dict", dict := dd, data := .dict es n, slots := sl }
abbrev qOb (c : Value) (dd : Option Addr) (its : Array Value) (n : Nat) (sl : Array (Option Value)) : Obj := { cls := c, dict := dd, data := .seq its n, slots := sl }
abbrev NI (R : Result → Shared → Prop) (s : Shared) : Prop := R (.ok (.ret .notImplemented)) s
theorem dk_eq_n (l : Addr) (dd : Option Addr) (es : Array DictEntry) (n : Nat) (sl : Array (Option Value)) :
    Meets (Builtin.«dict.__eq__» ⟨[.ref l, .none], []⟩) (fun _ R s => s.heap.get? l = some (dOb dd es n sl) ∧ NI R s) :=
  .of_wp fun prog w A R s h => by
    obtain ⟨hp, g, d, tk, os⟩ := s
    obtain ⟨hl, h⟩ := h
    have f1 := F.sub_NoneType_dict
    wp_walk using wpAny_loadPart' hl, wpAny_load hl
    exact ⟨_, rfl, h⟩
theorem kd_eq_n (l : Addr) (dd : Option Addr) (es : Array DictEntry) (n : Nat) (sl : Array (Option Value)) :
    Meets (Builtin.«NoneType.__eq__» ⟨[.none, .ref l], []⟩) (fun _ R s => s.heap.get? l = some (dOb dd es n sl) ∧ NI R s) :=
  .of_wp fun prog w A R s h => by
    obtain ⟨hp, g, d, tk, os⟩ := s
    obtain ⟨hl, h⟩ := h
    have f1 := F.sub_dict_NoneType
    wp_walk using wpAny_loadPart' hl, wpAny_load hl
    exact ⟨_, rfl, h⟩
theorem dk_eq_b (l : Addr) (dd : Option Addr) (es : Array DictEntry) (n : Nat) (sl : Array (Option Value)) (x : Bool) :
    Meets (Builtin.«dict.__eq__» ⟨[.ref l, .bool x], []⟩) (fun _ R s => s.heap.get? l = some (dOb dd es n sl) ∧ NI R s) :=
  .of_wp fun prog w A R s h => by
    obtain ⟨hp, g, d, tk, os⟩ := s
    obtain ⟨hl, h⟩ := h
    have f1 := F.sub_bool_dict
    wp_walk using wpAny_loadPart' hl, wpAny_load hl
    exact ⟨_, rfl, h⟩
theorem kd_eq_b (l : Addr) (dd : Option Addr) (es : Array DictEntry) (n : Nat) (sl : Array (Option Value)) (x : Bool) :
    Meets (Builtin.«int.__eq__» ⟨[.bool x, .ref l], []⟩) (fun _ R s => s.heap.get? l = some (dOb dd es n sl) ∧ NI R s) :=
  .of_wp fun prog w A R s h => by
    obtain ⟨hp, g, d, tk, os⟩ := s
    obtain ⟨hl, h⟩ := h
    have f1 := F.sub_dict_bool
    wp_walk using wpAny_loadPart' hl, wpAny_load hl
    exact ⟨_, rfl, h⟩
theorem dk_eq_i (l : Addr) (dd : Option Addr) (es : Array DictEntry) (n : Nat) (sl : Array (Option Value)) (x : Int) (u : Tok) :
    Meets (Builtin.«dict.__eq__» ⟨[.ref l, .int x u], []⟩) (fun _ R s => s.heap.get? l = some (dOb dd es n sl) ∧ NI R s) :=
  .of_wp fun prog w A R s h => by
    obtain ⟨hp, g, d, tk, os⟩ := s
    obtain ⟨hl, h⟩ := h
    have f1 := F.sub_int_dict
    wp_walk using wpAny_loadPart' hl, wpAny_load hl
    exact ⟨_, rfl, h⟩
theorem kd_eq_i (l : Addr) (dd : Option Addr) (es : Array DictEntry) (n : Nat) (sl : Array (Option Value)) (x : Int) (u : Tok) :
    Meets (Builtin.«int.__eq__» ⟨[.int x u, .ref l], []⟩) (fun _ R s => s.heap.get? l = some (dOb dd es n sl) ∧ NI R s) :=
  .of_wp fun prog w A R s h => by
    obtain ⟨hp, g, d, tk, os⟩ := s
    obtain ⟨hl, h⟩ := h
    have f1 := F.sub_dict_int
    wp_walk using wpAny_loadPart' hl, wpAny_load hl
    exact ⟨_, rfl, h⟩
theorem dk_eq_s (l : Addr) (dd : Option Addr) (es : Array DictEntry) (n : Nat) (sl : Array (Option Value)) (x : Str) (u : Tok) :
    Meets (Builtin.«dict.__eq__» ⟨[.ref l, .str x u], []⟩) (fun _ R s => s.heap.get? l = some (dOb dd es n sl) ∧ NI R s) :=
  .of_wp fun prog w A R s h => by
    obtain ⟨hp, g, d, tk, os⟩ := s
    obtain ⟨hl, h⟩ := h
    have f1 := F.sub_str_dict
    wp_walk using wpAny_loadPart' hl, wpAny_load hl
    exact ⟨_, rfl, h⟩
theorem kd_eq_s (l : Addr) (dd : Option Addr) (es : Array DictEntry) (n : Nat) (sl : Array (Option Value)) (x : Str) (u : Tok) :
    Meets (Builtin.«str.__eq__» ⟨[.str x u, .ref l], []⟩) (fun _ R s => s.heap.get? l = some (dOb dd es n sl) ∧ NI R s) :=
  .of_wp fun prog w A R s h => by
    obtain ⟨hp, g, d, tk, os⟩ := s
    obtain ⟨hl, h⟩ := h
    have f1 := F.sub_dict_str
    wp_walk using wpAny_loadPart' hl, wpAny_load hl
    exact ⟨_, rfl, h⟩
theorem dk_eq_l (l b : Addr) (dd : Option Addr) (es : Array DictEntry) (n : Nat) (sl : Array (Option Value)) (dd2 : Option Addr) (its : Array Value) (n2 : Nat) (sl2 : Array (Option Value)) :
    Meets (Builtin.«dict.__eq__» ⟨[.ref l, .ref b], []⟩) (fun _ R s => s.heap.get? l = some (dOb dd es n sl) ∧ s.heap.get? b = some (qOb (.type "list") dd2 its n2 sl2) ∧ NI R s) :=
  .of_wp fun prog w A R s h => by
    obtain ⟨hp, g, d, tk, os⟩ := s
    obtain ⟨hl, hb, h⟩ := h
    have f1 := F.sub_list_dict
    wp_walk using wpAny_loadPart' hl, wpAny_loadPart' hb, wpAny_load hb
    exact ⟨_, rfl, h⟩
theorem kd_eq_l (l b : Addr) (dd : Option Addr) (es : Array DictEntry) (n : Nat) (sl : Array (Option Value)) (dd2 : Option Addr) (its : Array Value) (n2 : Nat) (sl2 : Array (Option Value)) :
    Meets (Builtin.«list.__eq__» ⟨[.ref b, .ref l], []⟩) (fun _ R s => s.heap.get? l = some (dOb dd es n sl) ∧ s.heap.get? b = some (qOb (.type "list") dd2 its n2 sl2) ∧ NI R s) :=
  .of_wp fun prog w A R s h => by
    obtain ⟨hp, g, d, tk, os⟩ := s
    obtain ⟨hl, hb, h⟩ := h
    have f1 := F.sub_dict_list
    wp_walk using wpAny_loadPart' hb, wpAny_loadPart' hl, wpAny_load hl
    exact ⟨_, rfl, h⟩
theorem dk_eq_t (l b : Addr) (dd : Option Addr) (es : Array DictEntry) (n : Nat) (sl : Array (Option Value)) (dd2 : Option Addr) (its : Array Value) (n2 : Nat) (sl2 : Array (Option Value)) :
    Meets (Builtin.«dict.__eq__» ⟨[.ref l, .ref b], []⟩) (fun _ R s => s.heap.get? l = some (dOb dd es n sl) ∧ s.heap.get? b = some (qOb (.type "tuple") dd2 its n2 sl2) ∧ NI R s) :=
  .of_wp fun prog w A R s h => by
    obtain ⟨hp, g, d, tk, os⟩ := s
    obtain ⟨hl, hb, h⟩ := h
    have f1 := F.sub_tuple_dict
    wp_walk using wpAny_loadPart' hl, wpAny_loadPart' hb, wpAny_load hb
    exact ⟨_, rfl, h⟩
theorem kd_eq_t (l b : Addr) (dd : Option Addr) (es : Array DictEntry) (n : Nat) (sl : Array (Option Value)) (dd2 : Option Addr) (its : Array Value) (n2 : Nat) (sl2 : Array (Option Value)) :
    Meets (Builtin.«tuple.__eq__» ⟨[.ref b, .ref l], []⟩) (fun _ R s => s.heap.get? l = some (dOb dd es n sl) ∧ s.heap.get? b = some (qOb (.type "tuple") dd2 its n2 sl2) ∧ NI R s) :=
  .of_wp fun prog w A R s h => by
    obtain ⟨hp, g, d, tk, os⟩ := s
    obtain ⟨hl, hb, h⟩ := h
    have f1 := F.sub_dict_tuple
    wp_walk using wpAny_loadPart' hb, wpAny_loadPart' hl, wpAny_load hl
    exact ⟨_, rfl, h⟩
theorem dk_ne_n (l : Addr) (dd : Option Addr) (es : Array DictEntry) (n : Nat) (sl : Array (Option Value)) :
    Meets (Builtin.«dict.__ne__» ⟨[.ref l, .none], []⟩) (fun _ R s => s.heap.get? l = some (dOb dd es n sl) ∧ NI R s) :=
  .of_wp fun prog w A R s h => by
    obtain ⟨hp, g, d, tk, os⟩ := s
    obtain ⟨hl, h⟩ := h
    have f1 := F.sub_NoneType_dict
    wp_walk using wpAny_loadPart' hl, wpAny_load hl
    exact ⟨_, rfl, h⟩
theorem kd_ne_n (l : Addr) (dd : Option Addr) (es : Array DictEntry) (n : Nat) (sl : Array (Option Value)) :
    Meets (Builtin.«NoneType.__ne__» ⟨[.none, .ref l], []⟩) (fun _ R s => s.heap.get? l = some (dOb dd es n sl) ∧ NI R s) :=
  .of_wp fun prog w A R s h => by
    obtain ⟨hp, g, d, tk, os⟩ := s
    obtain ⟨hl, h⟩ := h
    have f1 := F.sub_dict_NoneType
    wp_walk using wpAny_loadPart' hl, wpAny_load hl
    exact ⟨_, rfl, h⟩
theorem dk_ne_b (l : Addr) (dd : Option Addr) (es : Array DictEntry) (n : Nat) (sl : Array (Option Value)) (x : Bool) :
    Meets (Builtin.«dict.__ne__» ⟨[.ref l, .bool x], []⟩) (fun _ R s => s.heap.get? l = some (dOb dd es n sl) ∧ NI R s) :=
  .of_wp fun prog w A R s h => by
    obtain ⟨hp, g, d, tk, os⟩ := s
    obtain ⟨hl, h⟩ := h
    have f1 := F.sub_bool_dict
    wp_walk using wpAny_loadPart' hl, wpAny_load hl
    exact ⟨_, rfl, h⟩
theorem kd_ne_b (l : Addr) (dd : Option Addr) (es : Array DictEntry) (n : Nat) (sl : Array (Option Value)) (x : Bool) :
    Meets (Builtin.«int.__ne__» ⟨[.bool x, .ref l], []⟩) (fun _ R s => s.heap.get? l = some (dOb dd es n sl) ∧ NI R s) :=
  .of_wp fun prog w A R s h => by
    obtain ⟨hp, g, d, tk, os⟩ := s
    obtain ⟨hl, h⟩ := h
    have f1 := F.sub_dict_bool
    wp_walk using wpAny_loadPart' hl, wpAny_load hl
    exact ⟨_, rfl, h⟩
theorem dk_ne_i (l : Addr) (dd : Option Addr) (es : Array DictEntry) (n : Nat) (sl : Array (Option Value)) (x : Int) (u : Tok) :
    Meets (Builtin.«dict.__ne__» ⟨[.ref l, .int x u], []⟩) (fun _ R s => s.heap.get? l = some (dOb dd es n sl) ∧ NI R s) :=
  .of_wp fun prog w A R s h => by
    obtain ⟨hp, g, d, tk, os⟩ := s
    obtain ⟨hl, h⟩ := h
    have f1 := F.sub_int_dict
    wp_walk using wpAny_loadPart' hl, wpAny_load hl
    exact ⟨_, rfl, h⟩
theorem kd_ne_i (l : Addr) (dd : Option Addr) (es : Array DictEntry) (n : Nat) (sl : Array (Option Value)) (x : Int) (u : Tok) :
    Meets (Builtin.«int.__ne__» ⟨[.int x u, .ref l], []⟩) (fun _ R s => s.heap.get? l = some (dOb dd es n sl) ∧ NI R s) :=
  .of_wp fun prog w A R s h => by
    obtain ⟨hp, g, d, tk, os⟩ := s
    obtain ⟨hl, h⟩ := h
    have f1 := F.sub_dict_int
    wp_walk using wpAny_loadPart' hl, wpAny_load hl
    exact ⟨_, rfl, h⟩
theorem dk_ne_s (l : Addr) (dd : Option Addr) (es : Array DictEntry) (n : Nat) (sl : Array (Option Value)) (x : Str) (u : Tok) :
    Meets (Builtin.«dict.__ne__» ⟨[.ref l, .str x u], []⟩) (fun _ R s => s.heap.get? l = some (dOb dd es n sl) ∧ NI R s) :=
  .of_wp fun prog w A R s h => by
    obtain ⟨hp, g, d, tk, os⟩ := s
    obtain ⟨hl, h⟩ := h
    have f1 := F.sub_str_dict
    wp_walk using wpAny_loadPart' hl, wpAny_load hl
    exact ⟨_, rfl, h⟩
theorem kd_ne_s (l : Addr) (dd : Option Addr) (es : Array DictEntry) (n : Nat) (sl : Array (Option Value)) (x : Str) (u : Tok) :
    Meets (Builtin.«str.__ne__» ⟨[.str x u, .ref l], []⟩) (fun _ R s => s.heap.get? l = some (dOb dd es n sl) ∧ NI R s) :=
  .of_wp fun prog w A R s h => by
    obtain ⟨hp, g, d, tk, os⟩ := s
    obtain ⟨hl, h⟩ := h
    have f1 := F.sub_dict_str
    wp_walk using wpAny_loadPart' hl, wpAny_load hl
    exact ⟨_, rfl, h⟩
theorem dk_ne_l (l b : Addr) (dd : Option Addr) (es : Array DictEntry) (n : Nat) (sl : Array (Option Value)) (dd2 : Option Addr) (its : Array Value) (n2 : Nat) (sl2 : Array (Option Value)) :
    Meets (Builtin.«dict.__ne__» ⟨[.ref l, .ref b], []⟩) (fun _ R s => s.heap.get? l = some (dOb dd es n sl) ∧ s.heap.get? b = some (qOb (.type "list") dd2 its n2 sl2) ∧ NI R s) :=
  .of_wp fun prog w A R s h => by
    obtain ⟨hp, g, d, tk, os⟩ := s
    obtain ⟨hl, hb, h⟩ := h
    have f1 := F.sub_list_dict
    wp_walk using wpAny_loadPart' hl, wpAny_loadPart' hb, wpAny_load hb
    exact ⟨_, rfl, h⟩
theorem kd_ne_l (l b : Addr) (dd : Option Addr) (es : Array DictEntry) (n : Nat) (sl : Array (Option Value)) (dd2 : Option Addr) (its : Array Value) (n2 : Nat) (sl2 : Array (Option Value)) :
    Meets (Builtin.«list.__ne__» ⟨[.ref b, .ref l], []⟩) (fun _ R s => s.heap.get? l = some (dOb dd es n sl) ∧ s.heap.get? b = some (qOb (.type "list") dd2 its n2 sl2) ∧ NI R s) :=
  .of_wp fun prog w A R s h => by
    obtain ⟨hp, g, d, tk, os⟩ := s
    obtain ⟨hl, hb, h⟩ := h
    have f1 := F.sub_dict_list
    wp_walk using wpAny_loadPart' hb, wpAny_loadPart' hl, wpAny_load hl
    exact ⟨_, rfl, h⟩
theorem dk_ne_t (l b : Addr) (dd : Option Addr) (es : Array DictEntry) (n : Nat) (sl : Array (Option Value)) (dd2 : Option Addr) (its : Array Value) (n2 : Nat) (sl2 : Array (Option Value)) :
    Meets (Builtin.«dict.__ne__» ⟨[.ref l, .ref b], []⟩) (fun _ R s => s.heap.get? l = some (dOb dd es n sl) ∧ s.heap.get? b = some (qOb (.type "tuple") dd2 its n2 sl2) ∧ NI R s) :=
  .of_wp fun prog w A R s h => by
    obtain ⟨hp, g, d, tk, os⟩ := s
    obtain ⟨hl, hb, h⟩ := h
    have f1 := F.sub_tuple_dict
    wp_walk using wpAny_loadPart' hl, wpAny_loadPart' hb, wpAny_load hb
    exact ⟨_, rfl, h⟩
theorem kd_ne_t (l b : Addr) (dd : Option Addr) (es : Array DictEntry) (n : Nat) (sl : Array (Option Value)) (dd2 : Option Addr) (its : Array Value) (n2 : Nat) (sl2 : Array (Option Value)) :
    Meets (Builtin.«tuple.__ne__» ⟨[.ref b, .ref l], []⟩) (fun _ R s => s.heap.get? l = some (dOb dd es n sl) ∧ s.heap.get? b = some (qOb (.type "tuple") dd2 its n2 sl2) ∧ NI R s) :=
  .of_wp fun prog w A R s h => by
    obtain ⟨hp, g, d, tk, os⟩ := s
    obtain ⟨hl, hb, h⟩ := h
    have f1 := F.sub_dict_tuple
    wp_walk using wpAny_loadPart' hb, wpAny_loadPart' hl, wpAny_load hl
    exact ⟨_, rfl, h⟩
section
variable {A : Around} {s : Shared} {l : Addr}
theorem rc_eq_n (hl : IsD s l) (hu : A.units < cLine) : RcAt A s (.ref l) (.none) false := fun prog w E Q h => by
  obtain ⟨dd, es, n, sl, ho⟩ := hl.ex
  exact rc_eq_decline_or (k := false) ⟨_, ho, rfl⟩ rfl (by decide) F.sub_NoneType_dict F.slot_dict_eq F.slot_NoneType_eq_refl
    (fun _ hq => call_meets F.slot_dict_eq ⟨_, ho, rfl⟩ F.entry_dict_eq (F.args_dict_eq_2 _ _) (dk_eq_n l dd es n sl ) ⟨ho, hq⟩)
    (fun _ hq => call_meets F.slot_NoneType_eq_refl rfl F.entry_NoneType_eq (F.args_NoneType_eq_2 _ _) (kd_eq_n l dd es n sl ) ⟨ho, hq⟩)
    (fun _ hq => wpAny_of_eq (rfl : isSame (.ref l) (.none) = pure false) hq) (.inr hu) h
theorem rc_eq_b (x : Bool) (hl : IsD s l) (hu : A.units < cLine) : RcAt A s (.ref l) (.bool x) false := fun prog w E Q h => by
  obtain ⟨dd, es, n, sl, ho⟩ := hl.ex
  exact rc_eq_decline_or (k := false) ⟨_, ho, rfl⟩ rfl (by decide) F.sub_bool_dict F.slot_dict_eq F.slot_bool_eq_refl
    (fun _ hq => call_meets F.slot_dict_eq ⟨_, ho, rfl⟩ F.entry_dict_eq (F.args_dict_eq_2 _ _) (dk_eq_b l dd es n sl x) ⟨ho, hq⟩)
    (fun _ hq => call_meets F.slot_bool_eq_refl rfl F.entry_int_eq (F.args_int_eq_2 _ _) (kd_eq_b l dd es n sl x) ⟨ho, hq⟩)
    (fun _ hq => wpAny_of_eq (rfl : isSame (.ref l) (.bool x) = pure false) hq) (.inr hu) h
theorem rc_eq_i (x : Int) (u : Tok) (hl : IsD s l) (hu : A.units < cLine) : RcAt A s (.ref l) (.int x u) false := fun prog w E Q h => by
  obtain ⟨dd, es, n, sl, ho⟩ := hl.ex
  exact rc_eq_decline_or (k := false) ⟨_, ho, rfl⟩ rfl (by decide) F.sub_int_dict F.slot_dict_eq F.slot_int_eq_refl
    (fun _ hq => call_meets F.slot_dict_eq ⟨_, ho, rfl⟩ F.entry_dict_eq (F.args_dict_eq_2 _ _) (dk_eq_i l dd es n sl x u) ⟨ho, hq⟩)
    (fun _ hq => call_meets F.slot_int_eq_refl rfl F.entry_int_eq (F.args_int_eq_2 _ _) (kd_eq_i l dd es n sl x u) ⟨ho, hq⟩)
    (fun _ hq => wpAny_of_eq (rfl : isSame (.ref l) (.int x u) = pure false) hq) (.inr hu) h
theorem rc_eq_s (x : Str) (u : Tok) (hl : IsD s l) (hu : A.units < cLine) : RcAt A s (.ref l) (.str x u) false := fun prog w E Q h => by
  obtain ⟨dd, es, n, sl, ho⟩ := hl.ex
  exact rc_eq_decline_or (k := false) ⟨_, ho, rfl⟩ rfl (by decide) F.sub_str_dict F.slot_dict_eq F.slot_str_eq_refl
    (fun _ hq => call_meets F.slot_dict_eq ⟨_, ho, rfl⟩ F.entry_dict_eq (F.args_dict_eq_2 _ _) (dk_eq_s l dd es n sl x u) ⟨ho, hq⟩)
    (fun _ hq => call_meets F.slot_str_eq_refl rfl F.entry_str_eq (F.args_str_eq_2 _ _) (kd_eq_s l dd es n sl x u) ⟨ho, hq⟩)
    (fun _ hq => wpAny_of_eq (rfl : isSame (.ref l) (.str x u) = pure false) hq) (.inr hu) h
theorem rc_eq_l {b : Addr} {its : Array Value} (hl : IsD s l) (hb : s.heap.IsList b its) (hu : A.units < cLine) : RcAt A s (.ref l) (.ref b) false := fun prog w E Q h => by
  obtain ⟨dd, es, n, sl, ho⟩ := hl.ex
  obtain ⟨⟨c2, dd2, d2, sl2⟩, ho2, hc2, n2, hd2⟩ := id hb
  simp only at hc2 hd2
  subst hc2 hd2
  have hne : l ≠ b := fun e => by
    subst e
    rw [ho] at ho2
    have q := congrArg (fun o : Option Obj => o.map (·.cls)) ho2
    simp at q
  exact rc_eq_decline_or (k := false) ⟨_, ho, rfl⟩ ⟨_, ho2, rfl⟩ (by decide) F.sub_list_dict F.slot_dict_eq F.slot_list_eq_refl
    (fun _ hq => call_meets F.slot_dict_eq ⟨_, ho, rfl⟩ F.entry_dict_eq (F.args_dict_eq_2 _ _) (dk_eq_l l b dd es n sl dd2 its n2 sl2) ⟨ho, ho2, hq⟩)
    (fun _ hq => call_meets F.slot_list_eq_refl ⟨_, ho2, rfl⟩ F.entry_list_eq (F.args_list_eq_2 _ _) (kd_eq_l l b dd es n sl dd2 its n2 sl2) ⟨ho, ho2, hq⟩)
    (fun _ hq => wpAny_isSame_ref_other hne ho ho2 (by simp) hq) (.inr hu) h
theorem rc_eq_t {b : Addr} {its : Array Value} (hl : IsD s l) (hb : s.heap.IsTuple b its) (hu : A.units < cLine) : RcAt A s (.ref l) (.ref b) false := fun prog w E Q h => by
  obtain ⟨dd, es, n, sl, ho⟩ := hl.ex
  obtain ⟨⟨c2, dd2, d2, sl2⟩, ho2, hc2, n2, hd2⟩ := id hb
  simp only at hc2 hd2
  subst hc2 hd2
  have hne : l ≠ b := fun e => by
    subst e
    rw [ho] at ho2
    have q := congrArg (fun o : Option Obj => o.map (·.cls)) ho2
    simp at q
  exact rc_eq_decline_or (k := false) ⟨_, ho, rfl⟩ ⟨_, ho2, rfl⟩ (by decide) F.sub_tuple_dict F.slot_dict_eq F.slot_tuple_eq_refl
    (fun _ hq => call_meets F.slot_dict_eq ⟨_, ho, rfl⟩ F.entry_dict_eq (F.args_dict_eq_2 _ _) (dk_eq_t l b dd es n sl dd2 its n2 sl2) ⟨ho, ho2, hq⟩)
    (fun _ hq => call_meets F.slot_tuple_eq_refl ⟨_, ho2, rfl⟩ F.entry_tuple_eq (F.args_tuple_eq_2 _ _) (kd_eq_t l b dd es n sl dd2 its n2 sl2) ⟨ho, ho2, hq⟩)
    (fun _ hq => wpAny_isSame_ref_other hne ho ho2 (by simp) hq) (.inr hu) h
theorem rc_ne_n (hl : IsD s l) (hu : A.units < cLine) : RcNeAt A s (.ref l) (.none) true := fun prog w E Q h => by
  obtain ⟨dd, es, n, sl, ho⟩ := hl.ex
  exact rc_ne_decline_or (k := false) ⟨_, ho, rfl⟩ rfl (by decide) F.sub_NoneType_dict F.slot_dict_ne F.slot_NoneType_ne_refl
    (fun _ hq => call_meets F.slot_dict_ne ⟨_, ho, rfl⟩ F.entry_dict_ne (F.args_dict_ne_2 _ _) (dk_ne_n l dd es n sl ) ⟨ho, hq⟩)
    (fun _ hq => call_meets F.slot_NoneType_ne_refl rfl F.entry_NoneType_ne (F.args_NoneType_ne_2 _ _) (kd_ne_n l dd es n sl ) ⟨ho, hq⟩)
    (fun _ hq => wpAny_of_eq (rfl : isSame (.ref l) (.none) = pure false) hq) (.inr hu) h
theorem rc_ne_b (x : Bool) (hl : IsD s l) (hu : A.units < cLine) : RcNeAt A s (.ref l) (.bool x) true := fun prog w E Q h => by
  obtain ⟨dd, es, n, sl, ho⟩ := hl.ex
  exact rc_ne_decline_or (k := false) ⟨_, ho, rfl⟩ rfl (by decide) F.sub_bool_dict F.slot_dict_ne F.slot_bool_ne_refl
    (fun _ hq => call_meets F.slot_dict_ne ⟨_, ho, rfl⟩ F.entry_dict_ne (F.args_dict_ne_2 _ _) (dk_ne_b l dd es n sl x) ⟨ho, hq⟩)
    (fun _ hq => call_meets F.slot_bool_ne_refl rfl F.entry_int_ne (F.args_int_ne_2 _ _) (kd_ne_b l dd es n sl x) ⟨ho, hq⟩)
    (fun _ hq => wpAny_of_eq (rfl : isSame (.ref l) (.bool x) = pure false) hq) (.inr hu) h
theorem rc_ne_i (x : Int) (u : Tok) (hl : IsD s l) (hu : A.units < cLine) : RcNeAt A s (.ref l) (.int x u) true := fun prog w E Q h => by
  obtain ⟨dd, es, n, sl, ho⟩ := hl.ex
  exact rc_ne_decline_or (k := false) ⟨_, ho, rfl⟩ rfl (by decide) F.sub_int_dict F.slot_dict_ne F.slot_int_ne_refl
    (fun _ hq => call_meets F.slot_dict_ne ⟨_, ho, rfl⟩ F.entry_dict_ne (F.args_dict_ne_2 _ _) (dk_ne_i l dd es n sl x u) ⟨ho, hq⟩)
    (fun _ hq => call_meets F.slot_int_ne_refl rfl F.entry_int_ne (F.args_int_ne_2 _ _) (kd_ne_i l dd es n sl x u) ⟨ho, hq⟩)
    (fun _ hq => wpAny_of_eq (rfl : isSame (.ref l) (.int x u) = pure false) hq) (.inr hu) h
theorem rc_ne_s (x : Str) (u : Tok) (hl : IsD s l) (hu : A.units < cLine) : RcNeAt A s (.ref l) (.str x u) true := fun prog w E Q h => by
  obtain ⟨dd, es, n, sl, ho⟩ := hl.ex
  exact rc_ne_decline_or (k := false) ⟨_, ho, rfl⟩ rfl (by decide) F.sub_str_dict F.slot_dict_ne F.slot_str_ne_refl
    (fun _ hq => call_meets F.slot_dict_ne ⟨_, ho, rfl⟩ F.entry_dict_ne (F.args_dict_ne_2 _ _) (dk_ne_s l dd es n sl x u) ⟨ho, hq⟩)
    (fun _ hq => call_meets F.slot_str_ne_refl rfl F.entry_str_ne (F.args_str_ne_2 _ _) (kd_ne_s l dd es n sl x u) ⟨ho, hq⟩)
    (fun _ hq => wpAny_of_eq (rfl : isSame (.ref l) (.str x u) = pure false) hq) (.inr hu) h
theorem rc_ne_l {b : Addr} {its : Array Value} (hl : IsD s l) (hb : s.heap.IsList b its) (hu : A.units < cLine) : RcNeAt A s (.ref l) (.ref b) true := fun prog w E Q h => by
  obtain ⟨dd, es, n, sl, ho⟩ := hl.ex
  obtain ⟨⟨c2, dd2, d2, sl2⟩, ho2, hc2, n2, hd2⟩ := id hb
  simp only at hc2 hd2
  subst hc2 hd2
  have hne : l ≠ b := fun e => by
    subst e
    rw [ho] at ho2
    have q := congrArg (fun o : Option Obj => o.map (·.cls)) ho2
    simp at q
  exact rc_ne_decline_or (k := false) ⟨_, ho, rfl⟩ ⟨_, ho2, rfl⟩ (by decide) F.sub_list_dict F.slot_dict_ne F.slot_list_ne_refl
    (fun _ hq => call_meets F.slot_dict_ne ⟨_, ho, rfl⟩ F.entry_dict_ne (F.args_dict_ne_2 _ _) (dk_ne_l l b dd es n sl dd2 its n2 sl2) ⟨ho, ho2, hq⟩)
    (fun _ hq => call_meets F.slot_list_ne_refl ⟨_, ho2, rfl⟩ F.entry_list_ne (F.args_list_ne_2 _ _) (kd_ne_l l b dd es n sl dd2 its n2 sl2) ⟨ho, ho2, hq⟩)
    (fun _ hq => wpAny_isSame_ref_other hne ho ho2 (by simp) hq) (.inr hu) h
theorem rc_ne_t {b : Addr} {its : Array Value} (hl : IsD s l) (hb : s.heap.IsTuple b its) (hu : A.units < cLine) : RcNeAt A s (.ref l) (.ref b) true := fun prog w E Q h => by
  obtain ⟨dd, es, n, sl, ho⟩ := hl.ex
  obtain ⟨⟨c2, dd2, d2, sl2⟩, ho2, hc2, n2, hd2⟩ := id hb
  simp only at hc2 hd2
  subst hc2 hd2
  have hne : l ≠ b := fun e => by
    subst e
    rw [ho] at ho2
    have q := congrArg (fun o : Option Obj => o.map (·.cls)) ho2
    simp at q
  exact rc_ne_decline_or (k := false) ⟨_, ho, rfl⟩ ⟨_, ho2, rfl⟩ (by decide) F.sub_tuple_dict F.slot_dict_ne F.slot_tuple_ne_refl
    (fun _ hq => call_meets F.slot_dict_ne ⟨_, ho, rfl⟩ F.entry_dict_ne (F.args_dict_ne_2 _ _) (dk_ne_t l b dd es n sl dd2 its n2 sl2) ⟨ho, ho2, hq⟩)
    (fun _ hq => call_meets F.slot_tuple_ne_refl ⟨_, ho2, rfl⟩ F.entry_tuple_ne (F.args_tuple_ne_2 _ _) (kd_ne_t l b dd es n sl dd2 its n2 sl2) ⟨ho, ho2, hq⟩)
    (fun _ hq => wpAny_isSame_ref_other hne ho ho2 (by simp) hq) (.inr hu) h
end
end Tw

set_option Elab.async false
set_option linter.all false
set_option maxRecDepth 100000
set_option maxHeartbeats 4000000
namespace Tw
open PySem PySem.Spec PyProof.Rows
open PySem.SeqAt PySem.AutoSeq1
theorem eq_of_rc {A : Around} {s : Shared} {l : Addr} {b : Value} {k : Bool} (hne : Value.ref l ≠ b) (h : RcAt A s (.ref l) b k) : EqAt A s (.ref l) b k := fun prog w E Q hq => by
  unfold eqBool
  refine wpAny_holding (wpAny_ite_split (fun z => absurd (eq_of_beq z) hne) fun _ => ?_)
  cases b <;> exact wpAny_bind (h prog w E _ (wpAny_truthy_bool hq))
theorem dep_t (ys : List PyData) : (PyData.tuple ys).depth = PyData.depthAll ys + 1 := rfl
theorem dep_l (ys : List PyData) : (PyData.list ys).depth = PyData.depthAll ys + 1 := rfl
theorem dep_c (y : PyData) (ys : List PyData) : PyData.depthAll (y :: ys) = max y.depth (PyData.depthAll ys) := rfl
theorem un_in (A : Around) : A.in1.units = A.units + 1 := rfl
mutual
/-- ==, where what stands right has no dict within -/
theorem eq_half : ∀ (db da : PyData) (A : Around) (s : Shared) (a b : Value) (p q : List Addr), Reads s.heap a da p → Reads s.heap b db q → db.plain = true → A.units + db.depth < cLine → EqAt A s a b (PyData.eqv da db)
  | db, da, A, s, a, b, p, q, ra, rb, hb, hu => by
    have h0 : A.units < cLine := by omega
    by_cases hp : da.plain = true
    · exact eqAt_plain da db A s a b p q ra rb hp hb (by omega)
    · cases ra with
      | none => exact absurd rfl hp
      | bool => exact absurd rfl hp
      | int => exact absurd rfl hp
      | str => exact absurd rfl hp
      | dict h1 h2 h3 h4 h5 =>
        have D := IsD.of h1 h2 h3
        cases rb with
        | none => exact eq_of_rc (fun z => nomatch z) (rc_eq_n D h0)
        | bool x => exact eq_of_rc (fun z => nomatch z) (rc_eq_b x D h0)
        | int x u => exact eq_of_rc (fun z => nomatch z) (rc_eq_i x u D h0)
        | str x u => exact eq_of_rc (fun z => nomatch z) (rc_eq_s x u D h0)
        | list k1 k2 k3 k4 =>
          refine eq_of_rc (fun z => ?_) (rc_eq_l D ⟨_, k1, k2, _, k3⟩ h0)
          cases z
          rw [h1] at k1
          cases k1
          rw [h2] at k2
          exact absurd k2 (by simp)
        | tuple k1 k2 k3 k4 =>
          refine eq_of_rc (fun z => ?_) (rc_eq_t D ⟨_, k1, k2, _, k3⟩ h0)
          cases z
          rw [h1] at k1
          cases k1
          rw [h2] at k2
          exact absurd k2 (by simp)
        | dict => exact nomatch hb
      | @list l o vs n xs as1 h1 h2 h3 h4 =>
        have hl : s.heap.IsList l vs := ⟨_, h1, h2, _, h3⟩
        cases rb with
        | none => exact EqAt.list_none hl h0
        | bool x => exact EqAt.list_bool x hl h0
        | int x u => exact EqAt.list_int x u hl h0
        | str x u => exact EqAt.list_str x u hl h0
        | tuple k1 k2 k3 k4 => exact EqAt.list_tuple hl ⟨_, k1, k2, _, k3⟩ h0
        | dict => exact nomatch hb
        | @list m o2 ws n2 ys bs1 k1 k2 k3 k4 =>
          have hm : s.heap.IsList m ws := ⟨_, k1, k2, _, k3⟩
          have n1 : vs.size = xs.length := by simpa using ReadsAll.length _ _ _ h4
          have n2 : ws.size = ys.length := by simpa using ReadsAll.length _ _ _ k4
          have hd := dep_l ys
          refine EqAt.of_refs (fun z => hp ?_) ?_
          · subst z
            rw [plain_unique (.list ys) (.list xs) _ _ _ hb (.list k1 k2 k3 k4) (.list h1 h2 h3 h4)] at hb
            exact hb
          · show RcAt A s (.ref l) (.ref m) (PyData.eqvAll xs ys)
            by_cases hz : vs.size = ws.size
            · rw [← eqvAll_same_length (by omega : xs.length = ys.length), ← n1]
              refine RcAt.lists hl hm hz h0 fun j j1 j2 => ?_
              have := eq_halfAll ys xs A.in1 s vs.toList ws.toList _ _ h4 k4 hb (by rw [un_in]; omega) j (by simpa using j1) (by simpa using j2)
              simpa using this
            · rw [eqvAll_other_length (by omega : xs.length ≠ ys.length)]
              exact RcAt.lists_lengths hl hm (by simpa using hz) h0
      | @tuple l o vs n xs as1 h1 h2 h3 h4 =>
        have hl : s.heap.IsTuple l vs := ⟨_, h1, h2, _, h3⟩
        cases rb with
        | none => exact EqAt.tuple_none hl h0
        | bool x => exact EqAt.tuple_bool x hl h0
        | int x u => exact EqAt.tuple_int x u hl h0
        | str x u => exact EqAt.tuple_str x u hl h0
        | list k1 k2 k3 k4 => exact EqAt.tuple_list hl ⟨_, k1, k2, _, k3⟩ h0
        | dict => exact nomatch hb
        | @tuple m o2 ws n2 ys bs1 k1 k2 k3 k4 =>
          have hm : s.heap.IsTuple m ws := ⟨_, k1, k2, _, k3⟩
          have n1 : vs.size = xs.length := by simpa using ReadsAll.length _ _ _ h4
          have n2 : ws.size = ys.length := by simpa using ReadsAll.length _ _ _ k4
          have hd := dep_t ys
          refine EqAt.of_refs (fun z => hp ?_) ?_
          · subst z
            rw [plain_unique (.tuple ys) (.tuple xs) _ _ _ hb (.tuple k1 k2 k3 k4) (.tuple h1 h2 h3 h4)] at hb
            exact hb
          · show RcAt A s (.ref l) (.ref m) (PyData.eqvAll xs ys)
            rw [← eqvAll_eq xs ys, ← n1, ← n2]
            refine RcAt.tuples hl hm h0 fun j j1 j2 => ?_
            have := eq_halfAll ys xs A.in1 s vs.toList ws.toList _ _ h4 k4 hb (by rw [un_in]; omega) j (by simpa using j1) (by simpa using j2)
            simpa using this
theorem eq_halfAll : ∀ (ys xs : List PyData) (A : Around) (s : Shared) (vs ws : List Value) (p q : List Addr), ReadsAll s.heap vs xs p → ReadsAll s.heap ws ys q → PyData.plainAll ys = true → A.units + PyData.depthAll ys < cLine →
    ∀ j (h1 : j < vs.length) (h2 : j < ws.length), EqAt A s vs[j] ws[j] (pairEq xs ys j)
  | [], xs, A, s, vs, ws, p, q, ra, rb, hb, hu => fun j h1 h2 => by
    cases rb
    exact absurd h2 (Nat.not_lt_zero _)
  | y :: ys, xs, A, s, vs, ws, p, q, ra, rb, hb, hu => fun j h1 h2 => by
    cases rb with
    | cons r' rs' =>
      cases ra with
      | nil => exact absurd h1 (Nat.not_lt_zero _)
      | cons r rs =>
        have hb' : y.plain = true ∧ PyData.plainAll ys = true := by simpa [PyData.plainAll] using hb
        have hd := dep_c y ys
        cases j with
        | zero => exact eq_half y _ A s _ _ _ _ r r' hb'.1 (by omega)
        | succ j => exact eq_halfAll ys _ A s _ _ _ _ rs rs' hb'.2 (by omega) j (Nat.lt_of_succ_lt_succ h1) (Nat.lt_of_succ_lt_succ h2)
end
/-- == at the top -/
theorem rc_half {db da : PyData} {A : Around} {s : Shared} {a b : Value} {p q : List Addr} (ra : Reads s.heap a da p) (rb : Reads s.heap b db q) (hb : db.plain = true) (hu : A.units + db.depth < cLine) : RcAt A s a b (PyData.eqv da db) := by
  have h0 : A.units < cLine := by omega
  by_cases hp : da.plain = true
  · exact rcAt_plain ra rb hp hb (by omega)
  · cases ra with
    | none => exact absurd rfl hp
    | bool => exact absurd rfl hp
    | int => exact absurd rfl hp
    | str => exact absurd rfl hp
    | dict h1 h2 h3 h4 h5 =>
      have D := IsD.of h1 h2 h3
      cases rb with
      | none => exact rc_eq_n D h0
      | bool x => exact rc_eq_b x D h0
      | int x u => exact rc_eq_i x u D h0
      | str x u => exact rc_eq_s x u D h0
      | list k1 k2 k3 k4 => exact rc_eq_l D ⟨_, k1, k2, _, k3⟩ h0
      | tuple k1 k2 k3 k4 => exact rc_eq_t D ⟨_, k1, k2, _, k3⟩ h0
      | dict => exact nomatch hb
    | @list l o vs n xs as1 h1 h2 h3 h4 =>
      have hl : s.heap.IsList l vs := ⟨_, h1, h2, _, h3⟩
      cases rb with
      | none => exact RcAt.list_none hl h0
      | bool x => exact RcAt.list_bool x hl h0
      | int x u => exact RcAt.list_int x u hl h0
      | str x u => exact RcAt.list_str x u hl h0
      | tuple k1 k2 k3 k4 => exact RcAt.list_tuple hl ⟨_, k1, k2, _, k3⟩ h0
      | dict => exact nomatch hb
      | @list m o2 ws n2 ys bs1 k1 k2 k3 k4 =>
        have hm : s.heap.IsList m ws := ⟨_, k1, k2, _, k3⟩
        have n1 : vs.size = xs.length := by simpa using ReadsAll.length _ _ _ h4
        have n2 : ws.size = ys.length := by simpa using ReadsAll.length _ _ _ k4
        have hd := dep_l ys
        show RcAt A s (.ref l) (.ref m) (PyData.eqvAll xs ys)
        by_cases hz : vs.size = ws.size
        · rw [← eqvAll_same_length (by omega : xs.length = ys.length), ← n1]
          refine RcAt.lists hl hm hz h0 fun j j1 j2 => ?_
          have := eq_halfAll ys xs A.in1 s vs.toList ws.toList _ _ h4 k4 hb (by rw [un_in]; omega) j (by simpa using j1) (by simpa using j2)
          simpa using this
        · rw [eqvAll_other_length (by omega : xs.length ≠ ys.length)]
          exact RcAt.lists_lengths hl hm (by simpa using hz) h0
    | @tuple l o vs n xs as1 h1 h2 h3 h4 =>
      have hl : s.heap.IsTuple l vs := ⟨_, h1, h2, _, h3⟩
      cases rb with
      | none => exact RcAt.tuple_none hl h0
      | bool x => exact RcAt.tuple_bool x hl h0
      | int x u => exact RcAt.tuple_int x u hl h0
      | str x u => exact RcAt.tuple_str x u hl h0
      | list k1 k2 k3 k4 => exact RcAt.tuple_list hl ⟨_, k1, k2, _, k3⟩ h0
      | dict => exact nomatch hb
      | @tuple m o2 ws n2 ys bs1 k1 k2 k3 k4 =>
        have hm : s.heap.IsTuple m ws := ⟨_, k1, k2, _, k3⟩
        have n1 : vs.size = xs.length := by simpa using ReadsAll.length _ _ _ h4
        have n2 : ws.size = ys.length := by simpa using ReadsAll.length _ _ _ k4
        have hd := dep_t ys
        show RcAt A s (.ref l) (.ref m) (PyData.eqvAll xs ys)
        rw [← eqvAll_eq xs ys, ← n1, ← n2]
        refine RcAt.tuples hl hm h0 fun j j1 j2 => ?_
        have := eq_halfAll ys xs A.in1 s vs.toList ws.toList _ _ h4 k4 hb (by rw [un_in]; omega) j (by simpa using j1) (by simpa using j2)
        simpa using this
def atomE : PyData → Bool
  | .none => true
  | .bool _ => true
  | .int _ => true
  | .str _ => true
  | _ => false
/-- != of whatever stands left and an atom -/
theorem rn_half {db da : PyData} {A : Around} {s : Shared} {a b : Value} {p q : List Addr} (ra : Reads s.heap a da p) (rb : Reads s.heap b db q) (hb : atomE db = true) (h0 : A.units + 1 < cLine) : RcNeAt A s a b (!PyData.eqv da db) := by
  have h1 : A.units < cLine := by omega
  have hpl : db.plain = true := by cases db <;> first | rfl | cases hb
  have hdp : db.depth = 0 := by cases db <;> first | rfl | cases hb
  by_cases hp : da.plain = true
  · exact rcNe_plain ra rb hp hpl (by omega)
  · cases ra with
    | none => exact absurd rfl hp
    | bool => exact absurd rfl hp
    | int => exact absurd rfl hp
    | str => exact absurd rfl hp
    | dict g1 g2 g3 g4 g5 =>
      have D := IsD.of g1 g2 g3
      cases rb with
      | none => exact rc_ne_n D h1
      | bool x => exact rc_ne_b x D h1
      | int x u => exact rc_ne_i x u D h1
      | str x u => exact rc_ne_s x u D h1
      | list => cases hb
      | tuple => cases hb
      | dict => cases hb
    | @list l o vs n xs as1 g1 g2 g3 g4 =>
      have hl : s.heap.IsList l vs := ⟨_, g1, g2, _, g3⟩
      cases rb with
      | none => exact RcNeAt.list_none hl h1
      | bool x => exact RcNeAt.list_bool x hl h1
      | int x u => exact RcNeAt.list_int x u hl h1
      | str x u => exact RcNeAt.list_str x u hl h1
      | list => cases hb
      | tuple => cases hb
      | dict => cases hb
    | @tuple l o vs n xs as1 g1 g2 g3 g4 =>
      have hl : s.heap.IsTuple l vs := ⟨_, g1, g2, _, g3⟩
      cases rb with
      | none => exact RcNeAt.tuple_none hl h1
      | bool x => exact RcNeAt.tuple_bool x hl h1
      | int x u => exact RcNeAt.tuple_int x u hl h1
      | str x u => exact RcNeAt.tuple_str x u hl h1
      | list => cases hb
      | tuple => cases hb
      | dict => cases hb
end Tw

set_option Elab.async false
set_option linter.all false
set_option maxRecDepth 100000
set_option maxHeartbeats 2000000
namespace Tw
open PySem PySem.Spec PyProof.Rows L2
open Evl (Ex)
section
variable {X : Cx} {pins : List (Addr × Obj)} {σ : L2.St} {H : Hp} {s : Shared}
theorem lstR (I : Inv X pins σ H s) {l : Addr} {xs : List V} (hH : RL X.K H l xs) : xs.length ≤ sizeLine ∧ ∃ (its : List Value) (n : Nat), Vals xs its ∧ xs.length = its.length ∧
    s.heap.get? l = some { cls := .type "list", data := .seq its.toArray n } := by
  rcases hH with hH | ⟨its, n, e, r, z⟩
  · have o := hH.ok I.hok
    obtain ⟨z, its, n, r, e⟩ := o
    exact ⟨z, its, n, r, r.length, e⟩
  · exact ⟨z, its, n, r, r.length, I.kIn _ _ e⟩
end
/-! ### numbers -/
def addI : PyData → PyData → Option PyData
  | .int i, .int j => some (.int (i + j))
  | _, _ => none
def subD : PyData → PyData → Option PyData
  | .int i, .int j => some (.int (i - j))
  | _, _ => none
def mulI : PyData → PyData → Option PyData
  | .int i, .int j => if i.natAbs.log2 + j.natAbs.log2 < 1000000 then some (.int (i * j)) else none
  | _, _ => none
def fdivD : PyData → PyData → Option PyData
  | .int i, .int j => if 0 < j ∧ j.natAbs.log2 < 9000 then some (.int (i / j)) else none
  | _, _ => none
def modD : PyData → PyData → Option PyData
  | .int i, .int j => if 0 < j then some (.int (i % j)) else none
  | _, _ => none
def powD : PyData → PyData → Option PyData
  | .int i, .int j => if 0 ≤ j ∧ (Builtin.Int.intBits i : Int) * j ≤ 2 ^ 27 then some (.int (i ^ j.toNat)) else none
  | _, _ => none
def xorD : PyData → PyData → Option PyData
  | .int i, .int j => some (.int (Builtin.bitXor i j))
  | _, _ => none
def negD : PyData → Option PyData
  | .int i => some (.int (-i))
  | _ => none
theorem opD_I {K : PySem.W.Frag} {C : Int → Int → Prop} {h : Int → Int → PyData} {v : Int → Int → V} (hv : ∀ i j G, Dt K G (v i j) (h i j)) {g : PyData → PyData → Option PyData}
    (hg : ∀ d e z, g d e = some z → ∃ i j, d = .int i ∧ e = .int j ∧ C i j ∧ z = h i j) : OpD K (rI C v) g := fun G H x y d e z Q ex hd he hz k => by
  obtain ⟨i, j, rfl, rfl, hc, rfl⟩ := hg d e z hz
  exact ⟨i, j, dt_int hd, dt_int he, hc, k _ G H .refl ex (hv i j G)⟩
theorem opD_I0 {K : PySem.W.Frag} {h : Int → Int → PyData} {v : Int → Int → V} (hv : ∀ i j G, Dt K G (v i j) (h i j)) {g : PyData → PyData → Option PyData}
    (hg : ∀ d e z, g d e = some z → ∃ i j, d = .int i ∧ e = .int j ∧ z = h i j) : OpD K (rI0 v) g := fun G H x y d e z Q ex hd he hz k => by
  obtain ⟨i, j, rfl, rfl, rfl⟩ := hg d e z hz
  exact ⟨i, j, dt_int hd, dt_int he, k _ G H .refl ex (hv i j G)⟩
theorem ite_p {α : Type} {c : Prop} [Decidable c] {x y : α} (h : (if c then some x else none) = some y) : c ∧ y = x := by
  by_cases q : c
  · rw [if_pos q] at h; exact ⟨q, (Option.some.inj h).symm⟩
  · rw [if_neg q] at h; cases h
section
variable {X : Cx} {K : PySem.W.Frag}
theorem op_powW : OpR X (binaryOp .Pow) (rI (fun i j => 0 ≤ j ∧ (Builtin.Int.intBits i : Int) * j ≤ 2 ^ 27) fun i j => .int (i ^ j.toNat)) := opI fun _ _ _ _ _ _ _ hc q => pow_int hc.1 hc.2 q
theorem d_addI : OpD K (rI0 fun i j => .int (i + j)) addI := opD_I0 (h := fun i j => .int (i + j)) (fun _ _ _ => .ii _) fun d e z h => by
  unfold addI at h
  split at h
  · exact ⟨_, _, rfl, rfl, (Option.some.inj h).symm⟩
  · cases h
theorem d_sub : OpD K (rI0 fun i j => .int (i - j)) subD := opD_I0 (h := fun i j => .int (i - j)) (fun _ _ _ => .ii _) fun d e z h => by
  unfold subD at h
  split at h
  · exact ⟨_, _, rfl, rfl, (Option.some.inj h).symm⟩
  · cases h
theorem d_xor : OpD K (rI0 fun i j => .int (Builtin.bitXor i j)) xorD := opD_I0 (h := fun i j => .int (Builtin.bitXor i j)) (fun _ _ _ => .ii _) fun d e z h => by
  unfold xorD at h
  split at h
  · exact ⟨_, _, rfl, rfl, (Option.some.inj h).symm⟩
  · cases h
theorem d_mulI : OpD K (rI CMulW fun i j => .int (i * j)) mulI := opD_I (h := fun i j => .int (i * j)) (fun _ _ _ => .ii _) fun d e z h => by
  unfold mulI at h
  split at h
  · obtain ⟨h1, h2⟩ := ite_p h
    exact ⟨_, _, rfl, rfl, h1, h2⟩
  · cases h
theorem d_fdiv : OpD K (rI CDivW fun i j => .int (i / j)) fdivD := opD_I (h := fun i j => .int (i / j)) (fun _ _ _ => .ii _) fun d e z h => by
  unfold fdivD at h
  split at h
  · obtain ⟨h1, h2⟩ := ite_p h
    exact ⟨_, _, rfl, rfl, h1, h2⟩
  · cases h
theorem d_mod : OpD K (rI (fun _ j => 0 < j) fun i j => .int (i % j)) modD := opD_I (h := fun i j => .int (i % j)) (fun _ _ _ => .ii _) fun d e z h => by
  unfold modD at h
  split at h
  · obtain ⟨h1, h2⟩ := ite_p h
    exact ⟨_, _, rfl, rfl, h1, h2⟩
  · cases h
theorem d_pow : OpD K (rI (fun i j => 0 ≤ j ∧ (Builtin.Int.intBits i : Int) * j ≤ 2 ^ 27) fun i j => .int (i ^ j.toNat)) powD := opD_I (h := fun i j => .int (i ^ j.toNat)) (fun _ _ _ => .ii _) fun d e z h => by
  unfold powD at h
  split at h
  · obtain ⟨h1, h2⟩ := ite_p h
    exact ⟨_, _, rfl, rfl, h1, h2⟩
  · cases h
theorem d_neg : UnD K (rU fun i => .int (-i)) negD := fun G H x d z Q ex hd hz k => by
  unfold negD at hz
  split at hz
  · cases hz
    exact ⟨_, dt_int hd, k _ G H .refl ex (.ii _)⟩
  · cases hz
/-! ### comparisons of numbers -/
def ltI : PyData → PyData → Option PyData
  | .int i, .int j => some (.bool (decide (i < j)))
  | _, _ => none
/-- a truth as a number -/
def bI (b : Bool) : Int := if b = true then 1 else 0
def leI : PyData → PyData → Option PyData
  | .int i, .int j => some (.bool (decide (i ≤ j)))
  | .bool i, .int j => some (.bool (decide (bI i ≤ j)))
  | _, _ => none
def gtI : PyData → PyData → Option PyData
  | .int i, .int j => some (.bool (decide (j < i)))
  | .bool i, .int j => some (.bool (decide (j < bI i)))
  | _, _ => none
def geI : PyData → PyData → Option PyData
  | .int i, .int j => some (.bool (decide (j ≤ i)))
  | .bool i, .int j => some (.bool (decide (j ≤ bI i)))
  | _, _ => none
theorem d_ltI : OpD K (rI0 fun i j => .bl (decide (i < j))) ltI := opD_I0 (h := fun i j => .bool (decide (i < j))) (fun _ _ _ => .bb _) fun d e z h => by
  unfold ltI at h
  split at h
  · exact ⟨_, _, rfl, rfl, (Option.some.inj h).symm⟩
  · cases h
def r_leI : R2 := fun x y H Q => rI0 (fun i j => .bl (decide (i ≤ j))) x y H Q ∨ ∃ b j, x = .bl b ∧ y = .int j ∧ Q (.bl (decide (bI b ≤ j))) H
theorem gv_leI (b : Bool) (i : Int) (u : Tok) : Gives (Builtin.«int.__le__» ⟨[.bool b, .int i u], []⟩) (.val (.bool (decide (bI b ≤ i)))) := by cases b <;> exact .of_eq rfl
theorem op_leI : OpR X (compareOp .LtE) r_leI := fun pins s σ H x y v u Q I rx ry h => by
  rcases h with h | ⟨b, j, rfl, rfl, q⟩
  · exact op_le pins s σ H x y v u Q I rx ry h
  · obtain rfl : v = Value.bool b := rx
    obtain ⟨t, rfl⟩ := ry
    refine SeqAt.rc_left_or (op := .LtE) (Ta := "bool") (Tb := "int") rfl rfl (by decide) F.sub_int_bool F.slot_bool_le (call_meets F.slot_bool_le rfl F.entry_int_le (F.args_int_le_2 _ _) (gv_leI b j t).meets ?_) (.inl rfl)
    exact ⟨(fun z => nomatch z), .bl _, H, I, rfl, q⟩
theorem d_leI : OpD K r_leI leI := fun G H x y d e z Q ex hd he hz k => by
  unfold leI at hz
  split at hz
  · cases hz
    exact .inl ⟨_, _, dt_int hd, dt_int he, k _ G H .refl ex (.bb _)⟩
  · cases hz
    exact .inr ⟨_, _, dt_bool hd, dt_int he, k _ G H .refl ex (.bb _)⟩
  · cases hz
def r_gtI : R2 := fun x y H Q => rI0 (fun i j => .bl (decide (j < i))) x y H Q ∨ ∃ b j, x = .bl b ∧ y = .int j ∧ Q (.bl (decide (j < bI b))) H
theorem gv_gtI (b : Bool) (i : Int) (u : Tok) : Gives (Builtin.«int.__gt__» ⟨[.bool b, .int i u], []⟩) (.val (.bool (decide (i < bI b)))) := by cases b <;> exact .of_eq rfl
theorem op_gtI : OpR X (compareOp .Gt) r_gtI := fun pins s σ H x y v u Q I rx ry h => by
  rcases h with h | ⟨b, j, rfl, rfl, q⟩
  · exact op_gt pins s σ H x y v u Q I rx ry h
  · obtain rfl : v = Value.bool b := rx
    obtain ⟨t, rfl⟩ := ry
    refine SeqAt.rc_left_or (op := .Gt) (Ta := "bool") (Tb := "int") rfl rfl (by decide) F.sub_int_bool F.slot_bool_gt (call_meets F.slot_bool_gt rfl F.entry_int_gt (F.args_int_gt_2 _ _) (gv_gtI b j t).meets ?_) (.inl rfl)
    exact ⟨(fun z => nomatch z), .bl _, H, I, rfl, q⟩
theorem d_gtI : OpD K r_gtI gtI := fun G H x y d e z Q ex hd he hz k => by
  unfold gtI at hz
  split at hz
  · cases hz
    exact .inl ⟨_, _, dt_int hd, dt_int he, k _ G H .refl ex (.bb _)⟩
  · cases hz
    exact .inr ⟨_, _, dt_bool hd, dt_int he, k _ G H .refl ex (.bb _)⟩
  · cases hz
/-- < where a truth stands for a number -/
def rLtB : R2 := fun x y H Q => (∃ b j, x = .bl b ∧ y = .int j ∧ Q (.bl (decide (bI b < j))) H) ∨ (∃ i b, x = .int i ∧ y = .bl b ∧ Q (.bl (decide (i < bI b))) H) ∨ ∃ a b, x = .bl a ∧ y = .bl b ∧ Q (.bl (decide (bI a < bI b))) H
theorem gv_ltI (b : Bool) (i : Int) (u : Tok) : Gives (Builtin.«int.__lt__» ⟨[.bool b, .int i u], []⟩) (.val (.bool (decide (bI b < i)))) := by cases b <;> exact .of_eq rfl
theorem gv_ltB (a b : Bool) : Gives (Builtin.«int.__lt__» ⟨[.bool a, .bool b], []⟩) (.val (.bool (decide (bI a < bI b)))) := by cases a <;> cases b <;> exact .of_eq rfl
theorem op_ltB : OpR X (compareOp .Lt) rLtB := fun pins s σ H x y v u Q I rx ry h => by
  rcases h with ⟨b, j, rfl, rfl, q⟩ | ⟨i, b, rfl, rfl, q⟩ | ⟨a, b, rfl, rfl, q⟩
  · obtain rfl : v = Value.bool b := rx
    obtain ⟨t, rfl⟩ := ry
    refine SeqAt.rc_left_or (op := .Lt) (Ta := "bool") (Tb := "int") rfl rfl (by decide) F.sub_int_bool F.slot_bool_lt (call_meets F.slot_bool_lt rfl F.entry_int_lt (F.args_int_lt_2 _ _) (gv_ltI b j t).meets ?_) (.inl rfl)
    exact ⟨(fun z => nomatch z), .bl _, H, I, rfl, q⟩
  · obtain ⟨t, rfl⟩ := rx
    obtain rfl : u = Value.bool b := ry
    refine SeqAt.rc_sub_first_or (op := .Lt) (Ta := "int") (Tb := "bool") rfl rfl (by decide) F.sub_bool_int F.slot_bool_gt (call_meets F.slot_bool_gt rfl F.entry_int_gt (F.args_int_gt_2 _ _) (gv_gtI b i t).meets ?_) (.inl rfl)
    exact ⟨(fun z => nomatch z), .bl _, H, I, rfl, q⟩
  · obtain rfl : v = Value.bool a := rx
    obtain rfl : u = Value.bool b := ry
    exact richCompare_gives (op := .Lt) (T := "bool") rfl rfl F.slot_bool_lt F.entry_int_lt (F.args_int_lt_2 _ _) (gv_ltB a b) (fun x => nomatch x) ⟨.bl _, H, I, rfl, q⟩
def ltB : PyData → PyData → Option PyData
  | .bool b, .int j => some (.bool (decide (bI b < j)))
  | .int i, .bool b => some (.bool (decide (i < bI b)))
  | .bool a, .bool b => some (.bool (decide (bI a < bI b)))
  | _, _ => none
theorem d_ltB : OpD K rLtB ltB := fun G H x y d e z Q ex hd he hz k => by
  unfold ltB at hz
  split at hz
  · cases hz
    exact .inl ⟨_, _, dt_bool hd, dt_int he, k _ G H .refl ex (.bb _)⟩
  · cases hz
    exact .inr (.inl ⟨_, _, dt_int hd, dt_bool he, k _ G H .refl ex (.bb _)⟩)
  · cases hz
    exact .inr (.inr ⟨_, _, dt_bool hd, dt_bool he, k _ G H .refl ex (.bb _)⟩)
  · cases hz
def r_geI : R2 := fun x y H Q => rI0 (fun i j => .bl (decide (j ≤ i))) x y H Q ∨ ∃ b j, x = .bl b ∧ y = .int j ∧ Q (.bl (decide (j ≤ bI b))) H
theorem gv_geI (b : Bool) (i : Int) (u : Tok) : Gives (Builtin.«int.__ge__» ⟨[.bool b, .int i u], []⟩) (.val (.bool (decide (i ≤ bI b)))) := by cases b <;> exact .of_eq rfl
theorem op_geI : OpR X (compareOp .GtE) r_geI := fun pins s σ H x y v u Q I rx ry h => by
  rcases h with h | ⟨b, j, rfl, rfl, q⟩
  · exact op_ge pins s σ H x y v u Q I rx ry h
  · obtain rfl : v = Value.bool b := rx
    obtain ⟨t, rfl⟩ := ry
    refine SeqAt.rc_left_or (op := .GtE) (Ta := "bool") (Tb := "int") rfl rfl (by decide) F.sub_int_bool F.slot_bool_ge (call_meets F.slot_bool_ge rfl F.entry_int_ge (F.args_int_ge_2 _ _) (gv_geI b j t).meets ?_) (.inl rfl)
    exact ⟨(fun z => nomatch z), .bl _, H, I, rfl, q⟩
theorem d_geI : OpD K r_geI geI := fun G H x y d e z Q ex hd he hz k => by
  unfold geI at hz
  split at hz
  · cases hz
    exact .inl ⟨_, _, dt_int hd, dt_int he, k _ G H .refl ex (.bb _)⟩
  · cases hz
    exact .inr ⟨_, _, dt_bool hd, dt_int he, k _ G H .refl ex (.bb _)⟩
  · cases hz
/-- tuples of numbers -/
def intsOf : List PyData → Option (List Int)
  | [] => some []
  | .int i :: r => (intsOf r).map (i :: ·)
  | _ :: _ => none
theorem intsOf_eq : ∀ {ds : List PyData} {ns : List Int}, intsOf ds = some ns → ds = ns.map .int
  | [], ns, h => by cases h; rfl
  | .int i :: r, ns, h => by
    unfold intsOf at h
    cases q : intsOf r with
    | none => rw [q] at h; cases h
    | some ms =>
      rw [q] at h
      cases h
      rw [intsOf_eq q]
      rfl
  | .none :: _, _, h => by cases h
  | .bool _ :: _, _, h => by cases h
  | .str _ :: _, _, h => by cases h
  | .list _ :: _, _, h => by cases h
  | .tuple _ :: _, _, h => by cases h
  | .dict _ :: _, _, h => by cases h
theorem intsOf_map : ∀ ns : List Int, intsOf (ns.map .int) = some ns
  | [] => rfl
  | n :: ns => by
    show (intsOf (ns.map .int)).map (n :: ·) = _
    rw [intsOf_map ns]
    rfl
theorem da_ints {G : Hp} : ∀ {xs : List V} {ns : List Int}, Da K G xs (ns.map .int) → xs = ns.map V.int
  | _, [], .nil => rfl
  | _, _ :: _, .cons h t => by
    rw [List.map_cons, dt_int h, da_ints t]
def ltT : PyData → PyData → Option PyData
  | .tuple ds, .tuple es => (intsOf ds).bind fun ns => (intsOf es).map fun ms => .bool (HT.lexLt ns ms)
  | _, _ => none
theorem d_ltT : OpD K (rLtT K) ltT := fun G H x y d e z Q ex hd he hz k => by
  unfold ltT at hz
  split at hz
  · rename_i ds es
    obtain ⟨ns, h1, h2⟩ := Option.bind_eq_some_iff.mp hz
    obtain ⟨ms, h3, rfl⟩ := Option.map_eq_some_iff.mp h2
    obtain rfl := intsOf_eq h1
    obtain rfl := intsOf_eq h3
    obtain ⟨a, xs, rfl, hx, dx⟩ := dt_tup hd
    obtain ⟨b, ys, rfl, hy, dy⟩ := dt_tup he
    obtain rfl := da_ints dx
    obtain rfl := da_ints dy
    exact ⟨a, b, ns, ms, rfl, rfl, Evl.ex_t ex hx, Evl.ex_t ex hy, k _ G H .refl ex (.bb _)⟩
  · cases hz
/-! ### == and != -/
/-- no dict within, not too deep -/
def flatOk (d : PyData) : Bool := d.plain && decide (d.depth ≤ 60)
theorem flatOk_of {d : PyData} (h : flatOk d = true) : d.plain = true ∧ d.depth ≤ 60 := by
  have q := Bool.and_eq_true_iff.mp h
  exact ⟨q.1, of_decide_eq_true q.2⟩
/-- lists of unlike lengths, whatever they hold -/
def unlen : PyData → PyData → Bool
  | .list xs, .list ys => xs.length != ys.length
  | _, _ => false
/-- what is right of == has no dict within, of != it is an atom: then left may stand anything -/
def halfE (_ e : PyData) : Bool := flatOk e
def halfN (_ e : PyData) : Bool := atomE e
def eqD : PyData → PyData → Option PyData := fun d e => if unlen d e = true then some (.bool false) else if (flatOk d && flatOk e) = true then some (.bool (PyData.eqv d e)) else if halfE d e = true then some (.bool (PyData.eqv d e)) else none
def neD : PyData → PyData → Option PyData := fun d e => if unlen d e = true then some (.bool true) else if (flatOk d && flatOk e) = true then some (.bool (!PyData.eqv d e)) else if halfN d e = true then some (.bool (!PyData.eqv d e)) else none
def rCmp2 (K : PySem.W.Frag) (u : Bool) (h g : PyData → PyData → Bool) : R2 := fun x y H Q => ∃ d e, Dt K H x d ∧ Dt K H y e ∧ ((unlen d e = true ∧ Q (.bl u) H) ∨ (flatOk d = true ∧ flatOk e = true ∧ Q (.bl (g d e)) H) ∨ (h d e = true ∧ Q (.bl (g d e)) H))
abbrev rEq2 (K : PySem.W.Frag) : R2 := rCmp2 K false halfE PyData.eqv
abbrev rNe2 (K : PySem.W.Frag) : R2 := rCmp2 K true halfN fun d e => !PyData.eqv d e
theorem unlen_at {h : Heap} {a b : Value} {d e : PyData} {as bs : List Addr} (u : unlen d e = true) (ra : Reads h a d as) (rb : Reads h b e bs) : ∃ l l' vs vs', a = .ref l ∧ b = .ref l' ∧ h.IsList l vs ∧ h.IsList l' vs' ∧ (vs.size != vs'.size) = true := by
  unfold unlen at u
  split at u
  · cases ra with
    | list h1 h2 h3 h4 =>
      cases rb with
      | list k1 k2 k3 k4 =>
        rename_i vs _ _ _ _ vs' _ _
        have n1 := SeqAt.ReadsAll.length _ _ _ h4
        have n2 := SeqAt.ReadsAll.length _ _ _ k4
        refine ⟨_, _, _, _, rfl, rfl, ⟨_, h1, h2, _, h3⟩, ⟨_, k1, k2, _, k3⟩, ?_⟩
        simp only [Array.length_toList] at n1 n2
        rw [n1, n2]
        exact u
  · cases u
theorem op_eq2 (hu : X.A.units + 64 < cLine) : OpR X (compareOp .Eq) (rEq2 X.K) := fun pins s σ H x y v u Q I rx ry ⟨d, e, hd, he, q⟩ => by
  obtain ⟨as, r1⟩ := hd.reads I rx
  obtain ⟨bs, r2⟩ := he.reads I ry
  rcases q with ⟨z, q⟩ | ⟨sd, se, q⟩ | ⟨se, q⟩
  rotate_right
  · exact rc_half r1 r2 (flatOk_of se).1 (by have := (flatOk_of se).2; omega) _ _ _ _ ⟨.bl _, H, I, rfl, q⟩
  · obtain ⟨l, l', vs, vs', rfl, rfl, h1, h2, h3⟩ := unlen_at z r1 r2
    exact SeqAt.RcAt.lists_lengths h1 h2 h3 (by omega) _ _ _ _ ⟨.bl _, H, I, rfl, q⟩
  · exact SeqAt.eq_plain r1 r2 (flatOk_of sd).1 (flatOk_of se).1 (by have := (flatOk_of sd).2; omega) ⟨.bl _, H, I, rfl, q⟩
theorem op_ne2 (hu : X.A.units + 64 < cLine) : OpR X (compareOp .NotEq) (rNe2 X.K) := fun pins s σ H x y v u Q I rx ry ⟨d, e, hd, he, q⟩ => by
  obtain ⟨as, r1⟩ := hd.reads I rx
  obtain ⟨bs, r2⟩ := he.reads I ry
  rcases q with ⟨z, q⟩ | ⟨sd, se, q⟩ | ⟨se, q⟩
  rotate_right
  · exact rn_half r1 r2 se (by omega) _ _ _ _ ⟨.bl _, H, I, rfl, q⟩
  · obtain ⟨l, l', vs, vs', rfl, rfl, h1, h2, h3⟩ := unlen_at z r1 r2
    exact SeqAt.RcNeAt.lists_lengths h1 h2 h3 (by omega) _ _ _ _ ⟨.bl _, H, I, rfl, q⟩
  · exact SeqAt.ne_plain r1 r2 (flatOk_of sd).1 (flatOk_of se).1 (by have := (flatOk_of sd).2; omega) ⟨.bl _, H, I, rfl, q⟩
theorem d_cmp2 {u : Bool} {h g : PyData → PyData → Bool} : OpD K (rCmp2 K u h g) (fun d e => if unlen d e = true then some (.bool u) else if (flatOk d && flatOk e) = true then some (.bool (g d e)) else if h d e = true then some (.bool (g d e)) else none) := fun G H x y d e z Q ex hd he hz k => by
  refine ⟨d, e, hd.mono ex, he.mono ex, ?_⟩
  dsimp only at hz
  split at hz
  · rename_i hc
    cases hz
    exact .inl ⟨hc, k _ G H .refl ex (.bb _)⟩
  · split at hz
    · rename_i h1
      cases hz
      rw [Bool.and_eq_true] at h1
      exact .inr (.inl ⟨h1.1, h1.2, k _ G H .refl ex (.bb _)⟩)
    · obtain ⟨h1, rfl⟩ := ite_p hz
      exact .inr (.inr ⟨h1, k _ G H .refl ex (.bb _)⟩)
theorem d_eq : OpD K (rEq2 K) eqD := d_cmp2
theorem d_ne : OpD K (rNe2 K) neD := d_cmp2
/-! ### items -/
/-- a list's place told by a truth -/
theorem sub_bool {M : Model} {A : Around} {E : Value → Shared → Prop} {s : Shared} {b : Bool} {Q : Option Int → Shared → Prop} (h : Q (some (bI b)) s) : wpAny M A (Builtin.List.listSubscript? (.bool b)) Q E s := by
  unfold Builtin.List.listSubscript?
  refine wpAny_bind (wpAny_specialOf (T := "bool") rfl F.slot_bool_index.lookup ?_)
  show wpAny M A (asIndex (.bool b) >>= _) Q E s
  refine wpAny_bind (wpAny_of_eq (a := bI b) (by cases b <;> rfl) ?_)
  have hf : Builtin.List.listFitsIndex (bI b) = true := by cases b <;> decide
  show wpAny M A (if (!Builtin.List.listFitsIndex (bI b)) = true then _ else _) Q E s
  rw [hf]
  exact wpAny_pure h
theorem get_bool {prog : Program} {w : World} {A : Around} {E : Value → Shared → Prop} {s : Shared} {l : Addr} {items : Array Value} {b : Bool} {x : Value} {Q : Value → Shared → Prop} (hl : s.heap.IsList l items) (hx : items[(bI b).toNat]? = some x) (h : Q x s) :
    wpAny (model prog w) A (getItem (.ref l) (.bool b)) Q E s := by
  obtain ⟨o, ho, hc, ne, hd⟩ := id hl
  unfold getItem
  try with_reducible refine wpAny_holding ?_
  first | refine wpAny_bind (wpAny_pure ?_) | skip
  refine wpAny_bind (wpAny_sequenceKey hl.typeIs (by decide) ?_)
  refine wpAny_bind (wpAny_callSpecial?_slot (name := Str.ofString "__getitem__") hl.typeIs slot_list_getitem (wpAny_call_entry slot_list_getitem hl.typeIs entry_list_getitem ?_ (args_list_getitem _ _)))
  show wpAny _ _ (Builtin.List.listSubscript? (.bool b) >>= _) _ _ s
  refine wpAny_bind (sub_bool ?_)
  have hb : bI b = (((bI b).toNat : Nat) : Int) := by cases b <;> rfl
  rw [hb]
  generalize (bI b).toNat = j at hx
  show wpAny _ _ ((seqItemAt l j >>= fun r => pure (r.map (j, ·))) >>= _) _ _ s
  refine wpAny_bind (wpAny_bind (wpAny_seqItemAt ho hd (wpAny_pure ?_)))
  rw [hx]
  first
    | exact wpAny_bind (wpAny_pure (wpAny_pure ⟨x, rfl, wpAny_pure h⟩))
    | exact wpAny_pure ⟨x, rfl, wpAny_pure h⟩
def rIxB (K : PySem.W.Frag) : R2 := fun x y H Q => ∃ p xs b v, x = .ref p ∧ y = .bl b ∧ SqL K H p xs ∧ xs[(bI b).toNat]? = some v ∧ Q v H
theorem ix_listB {X : Cx} : IxR X (rIxB X.K) := fun value slice pins s σ H x y v u Q I rx ry h hs => by
  obtain ⟨p, xs, b, z, rfl, rfl, hq, he, q⟩ := h
  cases rx
  obtain rfl : u = Value.bool b := ry
  obtain ⟨its, r, pl, hz⟩ := I.list hq
  obtain ⟨w, ew, rw'⟩ := r.get he
  exact subscriptTail_builtinR (x := w) pl.isList.typeIs slot_list_getitem.lookup (get_bool (Q := fun r s' => r = w ∧ EP X pins σ Q r s') pl.isList (by simpa using ew) ⟨rfl, z, H, I, rw', q⟩) hs
def rIx3 (K : PySem.W.Frag) : R2 := fun x y H Q => rIx K x y H Q ∨ rIxB K x y H Q
theorem ix_seqB {X : Cx} : IxR X (rIx3 X.K) := ix_seq.or ix_listB
def ixD : PyData → PyData → Option PyData
  | .list ds, .int i => atI ds i
  | .list ds, .bool b => ds[(bI b).toNat]?
  | .tuple ds, .int i => atI ds i
  | .str z, .int i => if z.length ≤ sizeLine then (atI z.cps.toList i).map fun c => .str ⟨#[c]⟩ else none
  | _, _ => none
theorem atI_da {G : Hp} {xs : List V} {ds : List PyData} (h : Da K G xs ds) {i : Int} {d : PyData} (e : atI ds i = some d) : ∃ v, atI xs i = some v ∧ Dt K G v d := by
  unfold atI at e ⊢
  obtain ⟨j, h1, h2⟩ := Option.bind_eq_some_iff.mp e
  obtain ⟨v, h3, h4⟩ := h.get h2
  rw [h.len, h1]
  exact ⟨v, h3, h4⟩
theorem d_ix : OpD K (rIx3 K) ixD := fun G H x y d e z Q ex hd he hz k => by
  unfold ixD at hz
  split at hz
  · obtain ⟨a, xs, rfl, hx, dx⟩ := dt_list hd
    obtain ⟨v, hv, dv⟩ := atI_da dx hz
    exact .inl (.inl ⟨a, xs, _, v, rfl, dt_int he, (hx.mono ex).sq, hv, k _ G H .refl ex dv⟩)
  · obtain ⟨a, xs, rfl, hx, dx⟩ := dt_list hd
    obtain ⟨v, hv, dv⟩ := dx.get hz
    exact .inr ⟨a, xs, _, v, rfl, dt_bool he, (hx.mono ex).sq, hv, k _ G H .refl ex dv⟩
  · obtain ⟨a, xs, rfl, hx, dx⟩ := dt_tup hd
    obtain ⟨v, hv, dv⟩ := atI_da dx hz
    exact .inl (.inr (.inl ⟨a, xs, _, v, rfl, dt_int he, Evl.ex_t ex hx, hv, k _ G H .refl ex dv⟩))
  · split at hz
    · rename_i hl
      obtain ⟨c, hc, rfl⟩ := Option.map_eq_some_iff.mp hz
      exact .inl (.inr (.inr ⟨_, _, c, dt_str hd, dt_int he, hl, hc, k _ G H .refl ex (.ss _)⟩))
    · cases hz
  · cases hz
/-! ### + of lists, tuples, texts -/
def rCatR (K : PySem.W.Frag) : R2 := fun x y H Q => ∃ l b xs zs, x = .ref l ∧ y = .ref b ∧ RL K H l xs ∧ RL K H b zs ∧ xs.length + zs.length ≤ sizeLine ∧ ∀ p, H p = none → Q (.ref p) (upd H p (.lst (xs ++ zs)))
theorem op_catR : OpR X (binaryOp .Add) (rCatR X.K) := fun pins s σ H x y v u Q I rx ry ⟨l, b, xs, zs, ex, ey, hH, hB, hz, q⟩ => by
  subst ex; subst ey
  cases rx
  cases ry
  obtain ⟨z, its, n, r, hl, e⟩ := lstR I hH
  obtain ⟨z2, its2, n2, r2, hl2, e2⟩ := lstR I hB
  refine PySem.P.add_list e e2 ?_ (by simp only [List.size_toArray]; omega)
  have ea : its.toArray ++ its2.toArray = (its ++ its2).toArray := by simp
  rw [ea]
  refine ⟨.ref s.heap.objs.size, _, I.lnew (t' := s.toks) (r.append r2) (by simp only [List.length_append]; omega), rfl, q _ I.fresh⟩
def catD : PyData → PyData → Option PyData
  | .list ds, .list es => if sizeOk (ds.length + es.length) = true then some (.list (ds ++ es)) else none
  | _, _ => none
theorem d_cat : OpD K (rCatR K) catD := fun G H x y d e z Q ex hd he hz k => by
  unfold catD at hz
  split at hz
  · obtain ⟨hs, rfl⟩ := ite_p hz
    obtain ⟨a, xs, rfl, hx, dx⟩ := dt_list hd
    obtain ⟨b, ys, rfl, hy, dy⟩ := dt_list he
    refine ⟨a, b, xs, ys, rfl, rfl, (hx.mono ex), (hy.mono ex), by rw [dx.len, dy.len]; exact sizeOk_le hs, fun p hp => ?_⟩
    have t : Tr nobody G H (upd G p (.lst (xs ++ ys))) (upd H p (.lst (xs ++ ys))) := Tr.new hp ex
    exact k _ _ _ t (ex_upd ex) (.ll (RL.of upd_same) ((dx.app dy).mono t.g))
  · cases hz
def catT : PyData → PyData → Option PyData
  | .tuple ds, .tuple es => if sizeOk (ds.length + es.length) = true then some (.tuple (ds ++ es)) else none
  | _, _ => none
theorem d_catT : OpD K (rCatP K) catT := fun G H x y d e z Q ex hd he hz k => by
  unfold catT at hz
  split at hz
  · obtain ⟨hs, rfl⟩ := ite_p hz
    obtain ⟨a, xs, rfl, hx, dx⟩ := dt_tup hd
    obtain ⟨b, ys, rfl, hy, dy⟩ := dt_tup he
    refine ⟨a, b, xs, ys, rfl, rfl, Evl.ex_t ex hx, Evl.ex_t ex hy, by rw [dx.len, dy.len]; exact sizeOk_le hs, fun h0 => ?_, fun h1 h2 => ?_, fun h1 h2 p o hp ho => ?_⟩
    · subst h0
      cases dx
      exact k _ G H .refl ex he
    · subst h2
      cases dy
      exact k _ G H .refl ex (by rw [List.append_nil]; exact hd)
    · have t : Tr nobody G H (upd G p (.frz o (.tup (xs ++ ys)))) (upd H p (.frz o (.tup (xs ++ ys)))) := Tr.new hp ex
      exact k _ _ _ t (ex_upd ex) (.tt (PTu.new ho) ((dx.app dy).mono t.g))
  · cases hz
def catS : PyData → PyData → Option PyData
  | .str x, .str y => if x.length + y.length ≤ sizeLine then some (.str (x ++ y)) else none
  | _, _ => none
def rCatZ : R2 := fun x y H Q => ∃ i j, x = .str i ∧ y = .str j ∧ i.length + j.length ≤ sizeLine ∧ Q (.str (i ++ j)) H
theorem d_catS : OpD K rCatZ catS := fun G H x y d e z Q ex hd he hz k => by
  unfold catS at hz
  split at hz
  · obtain ⟨hs, rfl⟩ := ite_p hz
    exact ⟨_, _, dt_str hd, dt_str he, hs, k _ G H .refl ex (.ss _)⟩
  · cases hz
def addB : PyData → PyData → Option PyData
  | .bool b, .int j => some (.int (bI b + j))
  | _, _ => none
def rAddB : R2 := fun x y H Q => ∃ b j, x = .bl b ∧ y = .int j ∧ Q (.int (bI b + j)) H
theorem op_addB : OpR X (binaryOp .Add) rAddB := fun pins s σ H x y v u Q I rx ry ⟨b, j, e1, e2, q⟩ => by
  subst e1; subst e2
  obtain rfl : v = Value.bool b := rx
  obtain ⟨t, rfl⟩ := ry
  exact PySem.IntBool.add_bool_int ⟨.int _, H, I.tok _, ⟨_, rfl⟩, q⟩
theorem d_addB : OpD K rAddB addB := fun G H x y d e z Q ex hd he hz k => by
  unfold addB at hz
  split at hz
  · cases hz
    exact ⟨_, _, dt_bool hd, dt_int he, k _ G H .refl ex (.ii _)⟩
  · cases hz
def addD : PyData → PyData → Option PyData
  | .int i, .int j => some (.int (i + j))
  | .bool b, .int j => some (.int (bI b + j))
  | .list ds, .list es => if sizeOk (ds.length + es.length) = true then some (.list (ds ++ es)) else none
  | .tuple ds, .tuple es => if sizeOk (ds.length + es.length) = true then some (.tuple (ds ++ es)) else none
  | .str x, .str y => if x.length + y.length ≤ sizeLine then some (.str (x ++ y)) else none
  | _, _ => none
theorem OpD.eq {r : R2} {g g' : PyData → PyData → Option PyData} (h : OpD K r g) (e : ∀ d z, g' d z = g d z) : OpD K r g' := by
  rw [show g' = g from funext fun d => funext fun z => e d z]; exact h
def rAdd (K : PySem.W.Frag) : R2 := fun x y H Q => rI0 (fun i j => .int (i + j)) x y H Q ∨ rCatR K x y H Q ∨ rCatP K x y H Q ∨ rCatZ x y H Q ∨ rAddB x y H Q
theorem op_addD : OpR X (binaryOp .Add) (rAdd X.K) := op_add.or (op_catR.or (op_catP.or (op_add_str.or op_addB)))
theorem d_add : OpD K (rAdd K) addD := (d_addI.or (d_cat.or (d_catT.or (d_catS.or d_addB)))).eq fun d e => by
  cases d <;> cases e <;> first | rfl | (simp only [addD, addI, catD, catT, catS, addB]; split <;> rfl)
def ltD : PyData → PyData → Option PyData
  | .int i, .int j => some (.bool (decide (i < j)))
  | .tuple ds, .tuple es => (intsOf ds).bind fun ns => (intsOf es).map fun ms => .bool (HT.lexLt ns ms)
  | .bool b, .int j => some (.bool (decide (bI b < j)))
  | .int i, .bool b => some (.bool (decide (i < bI b)))
  | .bool a, .bool b => some (.bool (decide (bI a < bI b)))
  | _, _ => none
def rLtD (K : PySem.W.Frag) : R2 := fun x y H Q => rI0 (fun i j => .bl (decide (i < j))) x y H Q ∨ rLtT K x y H Q ∨ rLtB x y H Q
theorem op_ltD (hu : X.A.units < cLine) : OpR X (compareOp .Lt) (rLtD X.K) := op_lt.or ((op_ltT hu).or op_ltB)
theorem d_lt : OpD K (rLtD K) ltD := (d_ltI.or (d_ltT.or d_ltB)).eq fun d e => by
  cases d <;> cases e <;> first | rfl | (simp only [ltD, ltI, ltT, ltB, Option.none_or, Option.or_none])
end
end Tw

set_option Elab.async false
set_option linter.all false
set_option maxRecDepth 100000
set_option maxHeartbeats 2000000
namespace Tw
open PySem PySem.Spec PyProof.Rows L2
open Evl (Ex)
section
variable {X : Cx} {e a b c : Expr} {es rest : List Expr} {pos : Pos} {bb : Bool} {f fa fb fc : FE PyData} {g g1 g2 : FE Bool} {σ : L2.St} {ρ ρ1 ρ2 : Rho}
/-! ### tests -/
def fTst (f : FE PyData) : FE Bool := thnE f fun x => match x with
  | .bool b => ret b
  | _ => fun _ => none
theorem fTst_of {f : FE PyData} {ρ ρ' : Rho} {b : Bool} (h : fTst f ρ = some (b, ρ')) : f ρ = some (.bool b, ρ') := by
  obtain ⟨x, ρ1, h1, h2⟩ := thnE_of h
  cases x with
  | bool c =>
    obtain ⟨rfl, rfl⟩ := ret_of h2
    exact h1
  | _ => cases h2
theorem tst_run {H : Hp} {Q : Bool → Hp → Prop} (h : tT X.K bb (fTst f) σ H Q) : tE X.K bb f σ H fun x H1 => ∃ c, x = .bl c ∧ Q c H1 := by
  obtain ⟨G, ρ, d, ρ', E, ef, k⟩ := h
  exact ⟨G, ρ, _, ρ', E, fTst_of ef, fun v G1 H1 t1 o1 E1 d1 => ⟨d, dt_bool d1, k G1 H1 t1 o1 E1⟩⟩
theorem t_val (h : PE X e (tE X.K bb f)) (he : ∀ whole, isTrue e X.env whole = (do let v ← whole; standAt e.pos; holding [v] (truthy v)) := by intro _; rfl) : PT X e (tT X.K bb (fTst f)) :=
  PT.weak (pt_val h he) fun _ _ _ h => tst_run h
theorem t_cmp {op : CmpOp} {r : R2} {g : PyData → PyData → Option PyData} (ho : OpR X (compareOp op) r) (hr : OpD X.K r g) (hm : behindInMarks op b = false) (ha : PE X a (tE X.K bb fa)) (hb : PE X b (tE X.K bb fb)) :
    PT X (.Compare a [op] [b] pos) (tT X.K bb (fTst (fBin g fa fb))) := PT.weak (pt_cmpR ho ha hb hm) fun _ _ _ h => by
  obtain ⟨G, ρ, d, ρ', E, ef, k⟩ := tst_run h
  exact bin_run hr ⟨G, ρ, d, ρ', E, ef, k⟩
def tdAnd (g1 g2 : FE Bool) : FE Bool := thnE g1 fun c => if c = true then g2 else ret false
def tdOr (g1 g2 : FE Bool) : FE Bool := thnE g1 fun c => if c = true then ret true else g2
def tdNot (g1 : FE Bool) : FE Bool := thnE g1 fun c => ret (!c)
theorem w_and1 (h : PT X a (tT X.K bb g)) : PW X (.BoolOp .And [a] pos) (tT X.K bb g) := pw_and1 h
theorem w_or1 (h : PT X a (tT X.K bb g)) : PW X (.BoolOp .Or [a] pos) (tT X.K bb g) := pw_or1 h
theorem PW.weak {t t' : TT} (h : PW X e t) (w : ∀ σ H Q, t' σ H Q → t σ H Q) : PW X e t' := ⟨fun whole pins s σ H Q I q => h.run whole pins s σ H Q I (w σ H Q q)⟩
theorem w_and (ha : PT X a (tT X.K bb g1)) (hb : PW X (.BoolOp .And (b :: rest) pos) (tT X.K bb g2)) : PW X (.BoolOp .And (a :: b :: rest) pos) (tT X.K bb (tdAnd g1 g2)) :=
  PW.weak (pw_and ha hb) fun σ H Q ⟨G, ρ, d, ρ', E, ef, k⟩ => by
    obtain ⟨c, ρ1, h1, h2⟩ := thnE_of ef
    refine ⟨G, ρ, c, ρ1, E, h1, fun G1 H1 t1 o1 E1 => ?_⟩
    cases c with
    | true => exact ⟨G1, ρ1, d, ρ', E1, h2, fun G2 H2 t2 o2 E2 => k G2 H2 (t1.seq o1 t2) (fun l q => o1 l (o2 l q)) E2⟩
    | false =>
      obtain ⟨rfl, rfl⟩ := ret_of (show ret false ρ1 = _ from h2)
      exact k G1 H1 t1 o1 E1
theorem w_or (ha : PT X a (tT X.K bb g1)) (hb : PW X (.BoolOp .Or (b :: rest) pos) (tT X.K bb g2)) : PW X (.BoolOp .Or (a :: b :: rest) pos) (tT X.K bb (tdOr g1 g2)) :=
  PW.weak (pw_or ha hb) fun σ H Q ⟨G, ρ, d, ρ', E, ef, k⟩ => by
    obtain ⟨c, ρ1, h1, h2⟩ := thnE_of ef
    refine ⟨G, ρ, c, ρ1, E, h1, fun G1 H1 t1 o1 E1 => ?_⟩
    cases c with
    | false => exact ⟨G1, ρ1, d, ρ', E1, h2, fun G2 H2 t2 o2 E2 => k G2 H2 (t1.seq o1 t2) (fun l q => o1 l (o2 l q)) E2⟩
    | true =>
      obtain ⟨rfl, rfl⟩ := ret_of (show ret true ρ1 = _ from h2)
      exact k G1 H1 t1 o1 E1
theorem t_not (ha : PT X a (tT X.K bb g)) : PT X (.UnaryOp .Not a pos) (tT X.K bb (tdNot g)) := PT.weak (pt_not ha) fun σ H Q ⟨G, ρ, d, ρ', E, ef, k⟩ => by
  obtain ⟨c, ρ1, h1, h2⟩ := thnE_of ef
  obtain ⟨rfl, rfl⟩ := ret_of h2
  exact ⟨G, ρ, c, ρ', E, h1, fun G1 H1 t1 o1 E1 => k G1 H1 t1 o1 E1⟩
/-! ### and, or, not, if as values -/
def vAnd (fa fb : FE PyData) : FE PyData := thnE (fTst fa) fun c => if c = true then fb else ret (.bool false)
def vOr (fa fb : FE PyData) : FE PyData := thnE (fTst fa) fun c => if c = true then ret (.bool true) else fb
def vNot (fa : FE PyData) : FE PyData := thnE (fTst fa) fun c => ret (.bool (!c))
def fIf (g : FE Bool) (fa fb : FE PyData) : FE PyData := thnE g fun c => if c = true then fa else fb
theorem e_one {op} (h : PE X a (tE X.K bb f)) : PE X (.BoolOp op [a] pos) (tE X.K bb f) := pe_one h
theorem e_and (ha : PE X a (tE X.K bb fa)) (hb : PE X (.BoolOp .And (b :: rest) pos) (tE X.K bb fb)) : PE X (.BoolOp .And (a :: b :: rest) pos) (tE X.K bb (vAnd fa fb)) :=
  PE.weak (pe_and ha hb) fun σ H Q ⟨G, ρ, d, ρ', E, ef, k⟩ => by
    obtain ⟨c, ρ1, h1, h2⟩ := thnE_of ef
    refine ⟨G, ρ, _, ρ1, E, fTst_of h1, fun v G1 H1 t1 o1 E1 d1 => ⟨c, dt_bool d1, ?_⟩⟩
    cases c with
    | true =>
      rw [if_pos rfl]
      exact ⟨G1, ρ1, d, ρ', E1, h2, fun u G2 H2 t2 o2 E2 d2 => k u G2 H2 (t1.seq o1 t2) (fun l q => o1 l (o2 l q)) E2 d2⟩
    | false =>
      rw [if_neg Bool.false_ne_true]
      obtain ⟨rfl, rfl⟩ := ret_of (show ret (PyData.bool false) ρ1 = _ from h2)
      exact k _ G1 H1 t1 o1 E1 (.bb false)
theorem e_or (ha : PE X a (tE X.K bb fa)) (hb : PE X (.BoolOp .Or (b :: rest) pos) (tE X.K bb fb)) : PE X (.BoolOp .Or (a :: b :: rest) pos) (tE X.K bb (vOr fa fb)) :=
  PE.weak (pe_or ha hb) fun σ H Q ⟨G, ρ, d, ρ', E, ef, k⟩ => by
    obtain ⟨c, ρ1, h1, h2⟩ := thnE_of ef
    refine ⟨G, ρ, _, ρ1, E, fTst_of h1, fun v G1 H1 t1 o1 E1 d1 => ⟨c, dt_bool d1, ?_⟩⟩
    cases c with
    | false =>
      rw [if_neg Bool.false_ne_true]
      exact ⟨G1, ρ1, d, ρ', E1, h2, fun u G2 H2 t2 o2 E2 d2 => k u G2 H2 (t1.seq o1 t2) (fun l q => o1 l (o2 l q)) E2 d2⟩
    | true =>
      rw [if_pos rfl]
      obtain ⟨rfl, rfl⟩ := ret_of (show ret (PyData.bool true) ρ1 = _ from h2)
      exact k _ G1 H1 t1 o1 E1 (.bb true)
theorem e_not (ha : PE X a (tE X.K bb fa)) : PE X (.UnaryOp .Not a pos) (tE X.K bb (vNot fa)) := PE.weak (pe_not ha) fun σ H Q ⟨G, ρ, d, ρ', E, ef, k⟩ => by
  obtain ⟨c, ρ1, h1, h2⟩ := thnE_of ef
  obtain ⟨rfl, rfl⟩ := ret_of h2
  exact ⟨G, ρ, _, ρ', E, fTst_of h1, fun v G1 H1 t1 o1 E1 d1 => ⟨c, dt_bool d1, k _ G1 H1 t1 o1 E1 (.bb _)⟩⟩
theorem e_if (ht : PT X c (tT X.K bb g)) (ha : PE X a (tE X.K bb fa)) (hb : PE X b (tE X.K bb fb)) : PE X (.IfExp c a b pos) (tE X.K bb (fIf g fa fb)) := PE.weak (pe_ifExp ht ha hb) fun σ H Q ⟨G, ρ, d, ρ', E, ef, k⟩ => by
  obtain ⟨q, ρ1, h1, h2⟩ := thnE_of ef
  refine ⟨G, ρ, q, ρ1, E, h1, fun G1 H1 t1 o1 E1 => ?_⟩
  cases q with
  | true =>
    rw [if_pos rfl]
    exact ⟨G1, ρ1, d, ρ', E1, h2, fun u G2 H2 t2 o2 E2 d2 => k u G2 H2 (t1.seq o1 t2) (fun l q => o1 l (o2 l q)) E2 d2⟩
  | false =>
    rw [if_neg Bool.false_ne_true]
    exact ⟨G1, ρ1, d, ρ', E1, h2, fun u G2 H2 t2 o2 E2 d2 => k u G2 H2 (t1.seq o1 t2) (fun l q => o1 l (o2 l q)) E2 d2⟩
/-! ### slices -/
def tO (K : PySem.W.Frag) (b : Bool) (f : FE (Option Int)) : TO := fun σ H Q => ∃ (G : Hp) (ρ : Rho) (d : Option Int) (ρ' : Rho), EnvOk K G H σ ρ ∧ f ρ = some (d, ρ') ∧
  ∀ G' H', Tr (ows b σ ρ) G H G' H' → (∀ l, own σ ρ' l → own σ ρ l) → EnvOk K G' H' σ ρ' → Q d H'
def fPart (f : FE PyData) : FE (Option Int) := thnE f fun x => match x with
  | .int i => ret (some i)
  | _ => fun _ => none
theorem PO.weak {o : Option Expr} {t t' : TO} (h : PO X o t) (w : ∀ σ H Q, t' σ H Q → t σ H Q) : PO X o t' := ⟨fun pins s σ H Q I q => h.run pins s σ H Q I (w σ H Q q)⟩
theorem o_none : PO X none (tO X.K bb (ret none)) := PO.weak po_none fun σ H Q ⟨G, ρ, d, ρ', E, ef, k⟩ => by
  obtain ⟨rfl, rfl⟩ := ret_of ef
  exact k G H .refl (fun _ q => q) E
theorem o_some (h : PE X e (tE X.K bb f)) : PO X (some e) (tO X.K bb (fPart f)) := PO.weak (po_some h) fun σ H Q ⟨G, ρ, d, ρ', E, ef, k⟩ => by
  obtain ⟨x, ρ1, h1, h2⟩ := thnE_of ef
  cases x with
  | int i =>
    obtain ⟨rfl, rfl⟩ := ret_of (show ret (some i) ρ1 = _ from h2)
    exact ⟨G, ρ, _, ρ', E, h1, fun v G1 H1 t1 o1 E1 d1 => ⟨i, dt_int d1, k G1 H1 t1 o1 E1⟩⟩
  | _ => cases h2
def cutD (ds : List PyData) (lo hi : Option Int) : List PyData := (ds.drop (HT.sIx ds.length 0 lo)).take (HT.sIx ds.length ds.length hi - HT.sIx ds.length 0 lo)
theorem cut_da {K : PySem.W.Frag} {G : Hp} {xs : List V} {ds : List PyData} (h : Da K G xs ds) (lo hi : Option Int) : Da K G (cutV xs lo hi) (cutD ds lo hi) := by
  unfold cutV cutD
  rw [h.len]
  exact (h.drop _).take _
def slD (x : PyData) (lo hi : Option Int) : Option PyData := match x with
  | .list ds => some (.list (cutD ds lo hi))
  | .tuple ds => some (.tuple (cutD ds lo hi))
  | _ => none
def rSlD (K : PySem.W.Frag) : V → Option Int → Option Int → Hp → VK → Prop := fun x lo hi H Q => rSlL K x lo hi H Q ∨ rSlP K x lo hi H Q
theorem sl_D : SlR X (rSlD X.K) := sl_list.or sl_tupP
def fSl (f : FE PyData) (lo hi : FE (Option Int)) : FE PyData := thnE f fun x => thnE lo fun l => thnE hi fun h => liftO (slD x l h)
theorem take_all {α : Type} {l : List α} {n : Nat} (h : n = l.length) : l.take n = l := List.take_of_length_le (Nat.le_of_eq h.symm)
theorem e_sl {lo hi : Option Expr} {flo fhi : FE (Option Int)} {p2 : Pos} (he : PE X e (tE X.K bb f)) (hl : PO X lo (tO X.K bb flo)) (hh : PO X hi (tO X.K bb fhi)) :
    PE X (.Subscript e (.Slice lo hi none p2) pos) (tE X.K bb (fSl f flo fhi)) := PE.weak (pe_slice sl_D he hl hh) fun σ H Q ⟨G, ρ, d, ρ', E, ef, k⟩ => by
  obtain ⟨x, ρ1, h1, h2⟩ := thnE_of ef
  obtain ⟨l, ρ2, h3, h4⟩ := thnE_of h2
  obtain ⟨u, ρ3, h5, h6⟩ := thnE_of h4
  obtain ⟨h7, rfl⟩ := liftO_of h6
  refine ⟨G, ρ, x, ρ1, E, h1, fun v G1 H1 t1 o1 E1 d1 => ⟨G1, ρ1, l, ρ2, E1, h3, fun G2 H2 t2 o2 E2 => ⟨G2, ρ2, u, ρ', E2, h5, fun G3 H3 t3 o3 E3 => ?_⟩⟩⟩
  have t := (t1.seq o1 t2).seq (fun l q => o1 l (o2 l q)) t3
  have o : ∀ l, own σ ρ' l → own σ ρ l := fun l q => o1 l (o2 l (o3 l q))
  have d3 := d1.mono fun x o q => t3.g x o (t2.g x o q)
  unfold slD at h7
  split at h7
  · cases h7
    obtain ⟨a, xs, rfl, hx, dx⟩ := dt_list d3
    refine .inl ⟨a, xs, rfl, (hx.mono E3.ex).sq, fun p hp => ?_⟩
    have t4 : Tr nobody G3 H3 (upd G3 p (.lst (cutV xs l u))) (upd H3 p (.lst (cutV xs l u))) := Tr.new hp E3.ex
    exact k _ _ _ (t.trans t4 fun _ _ _ q => q.elim) o (E3.tr t4 (ex_upd E3.ex)) (.ll (RL.of upd_same) ((cut_da dx l u).mono t4.g))
  · cases h7
    obtain ⟨a, xs, rfl, hx, dx⟩ := dt_tup d3
    refine .inr ⟨a, xs, rfl, Evl.ex_t E3.ex hx, fun hw => ?_, fun hw p ob hp ho => ?_⟩
    · refine k _ G3 H3 t o E3 ?_
      have e1 : cutD ‹List PyData› l u = ‹List PyData› := by
        unfold cutD
        rw [← dx.len, hw.1, hw.2, List.drop_zero, Nat.sub_zero]
        exact take_all dx.len
      rw [e1]
      exact d3
    · have t4 : Tr nobody G3 H3 (upd G3 p (.frz ob (.tup (cutV xs l u)))) (upd H3 p (.frz ob (.tup (cutV xs l u)))) := Tr.new hp E3.ex
      exact k _ _ _ (t.trans t4 fun _ _ _ q => q.elim) o (E3.tr t4 (ex_upd E3.ex)) (.tt (PTu.new ho) ((cut_da dx l u).mono t4.g))
  · cases h7
end
end Tw

set_option Elab.async false
set_option linter.all false
set_option maxRecDepth 100000
set_option maxHeartbeats 2000000
/-! ### sorted of a tuple -/
namespace PySem.W
open PySem PySem.Spec PyProof.Rows PySem.Calls
section
variable {prog : Program} {w : World} {A : Around} {E : Value → Shared → Prop} {s : Shared}
/-- what a tuple holds, in a new list -/
theorem gatherT {t : Addr} {us : List Value} {Q : List Value → Shared → Prop} (ht : s.heap.IsTuple t us.toArray) (hz : us.length ≤ sizeLine)
    (h : Q us { s with heap := (s.heap.push (seqObj "list" #[] 0)).update s.heap.objs.size (Obj.mapSeq (· ++ us.toArray)) }) : wpAny (model prog w) A (collect (.ref t)) Q E s := by
  obtain ⟨o, ho, hc, n, hd⟩ := id ht
  have made : (s.heap.push (seqObj "list" #[] 0)).get? s.heap.objs.size = some (seqObj "list" #[] 0) := Heap.get?_push_size _ rfl
  have kept := Heap.get?_push_of_some (seqObj "list" #[] 0) ho
  have same : (Value.type "tuple" == Value.type "tuple") = true := by rfl
  unfold collect
  refine wpAny_bind (wpAny_runValue (codeAny_builtin entry_proto_collect' ?_))
  show wpAny _ _ (do again (.builtin "list.__iadd__" ⟨[← newList [], .ref t], []⟩)) _ _ s
  refine wpAny_bind (wpAny_newList (wpAny_pure ⟨Code.quiet_builtin _ (by decide +kernel), ?_⟩))
  refine codeAny_builtin entry_list_iadd' ?_
  show wpAny _ _ (Builtin.List.listExtendWith (.ref s.heap.objs.size) (.ref t) (.ref s.heap.objs.size)) _ _ ⟨s.heap.push (seqObj "list" #[] 0), s.gens, s.drawn, s.toks, s.os⟩
  unfold Builtin.List.listExtendWith
  refine wpAny_bind (wpAny_typeOf (T := "tuple") ⟨o, kept, hc⟩ ?_)
  rw [if_pos (by simp [same])]
  refine wpAny_bind (listItems_at kept hd (wpAny_bind (listItems_at made rfl ?_)))
  rw [if_neg (by simp)]
  refine wpAny_bind (listUpdate_at made rfl (wpAny_pure ?_) (Nat.zero_le _) (by simp only [Array.size_append, List.size_toArray, List.length_nil]; omega))
  refine wpAny_bind (wpAny_load (get?_update_seq made _) ?_)
  show wpAny _ _ (pure ((#[] : Array Value) ++ us.toArray).toList) Q E _
  rw [show ((#[] : Array Value) ++ us.toArray).toList = us from by simp]
  exact wpAny_pure h
theorem sortT_of {t : Addr} {us : List Value} {Q : Value → Shared → Prop} (ht : s.heap.IsTuple t us.toArray) (hz : us.length ≤ sizeLine)
    (body : ∀ E' : Value → Shared → Prop, wpAny (model prog w) A.in1.in1 (Builtin.«list.sort» ⟨[.ref (s.heap.objs.size + 1)], []⟩) (fun f s' => f = .done (.ret .none) ∧ Q (.ref (s.heap.objs.size + 1)) s') E' { s with heap := copyHeap s.heap us }) :
    wpAny (model prog w) A (call (.builtin "sorted") [.ref t]) Q E s := by
  refine call_function_entry_kw kind_sorted plain_sorted entry_sorted (args_sorted1 _) ?_
  unfold Builtin.«sorted»
  refine wpAny_bind (m := checkCount "sorted" 1 1 _) (wpAny_pure (wpAny_bind (gatherT ht hz (wpAny_bind (wpAny_newList ?_ hz)))))
  have e : ((s.heap.push (seqObj "list" #[] 0)).update s.heap.objs.size (Obj.mapSeq (· ++ us.toArray))).objs.size = s.heap.objs.size + 1 := (Heap.size_update _ _ _).trans (size_push' _ _)
  show wpAny _ _ _ _ _ { s with heap := copyHeap s.heap us }
  rw [e]
  refine wpAny_bind (wpAny_holding (wpAny_call_entry_kw slot_list_sort ⟨_, copyHeap_at s.heap us, rfl⟩ entry_list_sort ?_ (args_list_sort _)))
  refine wpAny_mono (body _) (fun f s' ⟨ef, hq⟩ => ?_) fun _ _ z => z
  subst ef
  exact ⟨_, rfl, wpAny_pure ⟨_, rfl, hq⟩⟩
theorem sortT_data {t : Addr} {us : List Value} {bs : List PyData} {R : Value → PyData → Prop} {Q : Value → Shared → Prop} (ht : s.heap.IsTuple t us.toArray) (e : EachIs R us bs) (er : EachIs (fun v b => ∃ as, Reads s.heap v b as) us bs) (hal : AllAlike bs) (hk : Sortable bs) (hL : bs.length ≤ sizeLine)
    (hu : ∀ b, b ∈ bs → A.units + 2 + b.depth < cLine) (h : ∀ out, out.length = bs.length → EachIs R out (bs.mergeSort (dataLe false id)) → Q (.ref (s.heap.objs.size + 1)) { s with heap := sortedAll s.heap us (List.toArray out) }) :
    wpAny (model prog w) A (call (.builtin "sorted") [.ref t]) Q E s := by
  have hz : us.length ≤ sizeLine := by rw [e.length]; exact hL
  have er' : EachIs (fun v b => ∃ as, Reads (sortingHeap (copyHeap s.heap us) (s.heap.objs.size + 1) us) v (id b) as) us bs := er.mono fun _ _ ⟨as, r⟩ => ⟨as, PyProof.Rows.Reads.keeps (fun _ _ => sorting_copy_old) r⟩
  have hal' : AllAlike (bs.map id) := by rw [List.map_id]; exact hal
  have hk' : Sortable (bs.map id) := by rw [List.map_id]; exact hk
  have S : SortsAt prog w A.in1.in1 { s with heap := sortingHeap (copyHeap s.heap us) (s.heap.objs.size + 1) us } (dataKind (sortingHeap (copyHeap s.heap us) (s.heap.objs.size + 1) us) (bs.map id)) us :=
    SortsAt.data (each_map (R := fun v d => ∃ as, Reads (sortingHeap (copyHeap s.heap us) (s.heap.objs.size + 1) us) v d as) id er') hal' hk' (bound_map hu)
  refine sortT_of ht hz fun _ => list_sort_vals (s := { s with heap := copyHeap s.heap us }) (copyHeap_at s.heap us) S hz ⟨rfl, ?_⟩
  exact h _ (by rw [sortVals_length false rfl]; exact e.length) (sortVals_data false e er' hal')
end
end PySem.W

set_option Elab.async false
set_option linter.all false
set_option maxRecDepth 100000
set_option maxHeartbeats 2000000
namespace Tw
open PySem PySem.Spec PyProof.Rows L2
open Evl (Ex)
/-! ### no list stands in it -/
mutual
def noList : PyData → Bool
  | .list _ => false
  | .tuple ds => noLists ds
  | .dict kvs => noListK kvs
  | .none | .bool _ | .int _ | .str _ => true
def noLists : List PyData → Bool
  | [] => true
  | d :: ds => noList d && noLists ds
def noListK : List (PyData × PyData) → Bool
  | [] => true
  | (_, d) :: ds => noList d && noListK ds
end
theorem noListK_zip : ∀ {ks ds : List PyData}, ks.length = ds.length → noListK (ks.zip ds) = noLists ds
  | [], [], _ => rfl
  | [], _ :: _, h => by cases h
  | _ :: _, [], h => by cases h
  | k :: ks, d :: ds, h => by
    show (noList d && noListK (ks.zip ds)) = (noList d && noLists ds)
    rw [noListK_zip (Nat.succ.inj h)]
section
variable {X : Cx} {pins : List (Addr × Obj)} {σ : L2.St} {H : Hp} {s : Shared}
theorem keys_read0 {P : Program} {w : World} {h : Heap} : ∀ {kvs : List (Key × V)} {vs : List (Key × Value)} {es : List DictEntry}, KV kvs vs → Pairs (mixKind P w) es vs →
    ReadsAll h (es.map (·.key)) (kvs.map fun p => keyD p.1) []
  | _, _, _, .nil, .nil => .nil
  | _, _, _, .cons r t, .cons e1 e2 e3 => by
    have q1 := keys_read0 (h := h) t e3
    have e1' : keyIs _ _ = true := e1
    rw [← r.1] at e1'
    rcases keyIs_shape e1' with ⟨i, t, eq, ek⟩ | ⟨x, t, eq, ek⟩
    · have q2 : Reads h (DictEntry.key _) _ [] := ek ▸ Reads.int i t
      have := ReadsAll.cons q2 q1
      rw [List.map_cons, List.map_cons, eq]
      exact this
    · have q2 : Reads h (DictEntry.key _) _ [] := ek ▸ Reads.str x t
      have := ReadsAll.cons q2 q1
      rw [List.map_cons, List.map_cons, eq]
      exact this
mutual
theorem Dt.reads2 (I : Inv X pins σ H s) : ∀ {v : V} {d : PyData} {u : Value}, Dt X.K H v d → RelV v u → noList d = true → ∃ as, Reads s.heap u d as ∧ sysModules ∉ as
  | _, _, _, .nn, r, _ => by
    cases r; exact ⟨_, .none, List.not_mem_nil⟩
  | _, _, _, .bb b, r, _ => by
    cases r; exact ⟨_, .bool b, List.not_mem_nil⟩
  | _, _, _, .ii i, r, _ => by
    obtain ⟨t, rfl⟩ := r; exact ⟨_, .int i t, List.not_mem_nil⟩
  | _, _, _, .ss x, r, _ => by
    obtain ⟨t, rfl⟩ := r; exact ⟨_, .str x t, List.not_mem_nil⟩
  | _, _, _, .ll h t, r, n => nomatch (show false = true from n)
  | _, _, _, .tt h t, r, n => by
    cases r
    obtain ⟨its, rv, ⟨o, ho, hc, n', hd⟩, _⟩ := I.tuple h.sq
    obtain ⟨as, hr, ha⟩ := Da.reads2 I t rv n
    exact ⟨_, .tuple ho hc hd hr, ha⟩
  | _, _, _, .dd (a := a) (kvs := kvs) (ds := ds) h t, r, n => by
    cases r
    obtain ⟨_, hs, vs, rk, o, es, ep, ho, hx, hd, hk, hp, _⟩ := (show ObjOk X.prog X.w H s.heap a (.dK kvs) from I.hok a _ h)
    obtain ⟨_, qv⟩ := keys_read (h := s.heap) rk hp
    have q := keys_read0 (h := s.heap) rk hp
    have hl : (kvs.map fun p => keyD p.1).length = ds.length := by
      rw [List.length_map, ← t.len, List.length_map]
    obtain ⟨bs, q2, hb⟩ := Da.reads2 I t qv (by rw [← noListK_zip hl]; exact n)
    refine ⟨a :: [] ++ bs, .dict (as := []) (bs := bs) ho hx.1 hd ?_ ?_, ?_⟩
    · rw [List.map_fst_zip (Nat.le_of_eq hl)]
      exact q
    · rw [List.map_snd_zip (Nat.le_of_eq hl.symm)]
      exact q2
    · intro z
      rcases List.mem_cons.mp z with z | z
      · rw [z] at hs
        exact absurd hs (by simp)
      · exact hb z
theorem Da.reads2 (I : Inv X pins σ H s) : ∀ {vs : List V} {ds : List PyData} {us : List Value}, Da X.K H vs ds → Vals vs us → noLists ds = true → ∃ as, ReadsAll s.heap us ds as ∧ sysModules ∉ as
  | _, _, _, .nil, r, _ => by
    cases r; exact ⟨_, .nil, List.not_mem_nil⟩
  | _, _, _, .cons h t, r, n => by
    cases r with
    | cons r1 r2 =>
      have n' := Bool.and_eq_true_iff.mp n
      obtain ⟨as, q1, a1⟩ := Dt.reads2 I h r1 n'.1
      obtain ⟨bs, q2, a2⟩ := Da.reads2 I t r2 n'.2
      exact ⟨_, .cons q1 q2, fun z => (List.mem_append.mp z).elim a1 a2⟩
end
end
section
variable {X : Cx} {e a b c : Expr} {es rest : List Expr} {pos : Pos} {bb : Bool} {f fa fb fc : FE PyData} {K : PySem.W.Frag}
/-! ### repr -/
def shownOk (d : PyData) : Bool := d.showable && decide (d.shown.length ≤ sizeLine) && decide (d.depth ≤ 60) && (!d.hasDict || noList d)
def reprD : List PyData → Option PyData
  | [d] => if shownOk d = true then some (.str d.shown) else none
  | _ => none
def rReprD (K : PySem.W.Frag) : List V → Hp → VK → Prop := fun xs H Q => ∃ v d, xs = [v] ∧ Dt K H v d ∧ shownOk d = true ∧ Q (.str d.shown) H
theorem call_reprD (hg : X.A.guards = some []) (hu : X.A.units + 64 < cLine) : CallR X (.builtin "repr") (rReprD X.K) := fun pins s σ H xs us Q I r ⟨v, d, ex, hd, ok, q⟩ => by
  subst ex
  obtain ⟨u, eu, ru⟩ := vals1 r
  subst eu
  unfold shownOk at ok
  rw [Bool.and_eq_true, Bool.and_eq_true, Bool.and_eq_true] at ok
  obtain ⟨⟨⟨h1, h2⟩, h3⟩, h4⟩ := ok
  have h2 := of_decide_eq_true h2
  have h3 := of_decide_eq_true h3
  have fin : ∀ (rd : ∃ as, Reads s.heap u d as ∧ (d.hasDict = true → sysModules ∉ as)) (a : Addr), u = .ref a → wpAny (model X.prog X.w) X.A (call (.builtin "repr") [u]) (EP X pins σ Q) X.xe s := fun ⟨as, rd, hm⟩ a ea => by
    subst ea
    exact repr_of_reads' rd h1 hm hg (by omega) (fun _ _ z => z) (fun h' u' tk hk => ⟨.str _, H, I.kept (t' := tk) hk, ⟨_, rfl⟩, q⟩) h2
  have rd : ∃ as, Reads s.heap u d as ∧ (d.hasDict = true → sysModules ∉ as) := by
    cases hh : d.hasDict with
    | false =>
      obtain ⟨as, z⟩ := hd.reads I ru
      exact ⟨as, z, fun w => nomatch w⟩
    | true =>
      rw [hh] at h4
      obtain ⟨as, z, zz⟩ := hd.reads2 I ru h4
      exact ⟨as, z, fun _ => zz⟩
  cases hd with
  | nn =>
    cases ru
    exact PySem.P.repr_of_none ⟨.str _, H, I.tok _, ⟨s.toks, by simp only [PyData.shown]⟩, q⟩
  | bb b =>
    cases ru
    refine PySem.P.repr_of_bool ⟨.str _, H, I.tok _, ⟨s.toks, ?_⟩, q⟩
    cases b <;> simp only [PyData.shown] <;> rfl
  | ii i =>
    obtain ⟨t, rfl⟩ := ru
    exact PySem.P.repr_of_int (of_decide_eq_true (by simpa only [PyData.showable] using h1)) ⟨.str _, H, I.tok _, ⟨s.toks, by simp only [PyData.shown]⟩, q⟩
  | ss x =>
    obtain ⟨t, rfl⟩ := ru
    exact PySem.P.repr_of_str ⟨.str _, H, I.tok _, ⟨s.toks, by simp only [PyData.shown]⟩, q⟩ (by simpa only [PyData.shown] using h2)
  | ll h t => exact fin rd _ ru
  | tt h t => exact fin rd _ ru
  | dd h t => exact fin rd _ ru
theorem d_repr : CallD K (rReprD K) reprD := fun G H xs ds z Q ex hd hz k => by
  unfold reprD at hz
  split at hz
  · obtain ⟨h1, rfl⟩ := ite_p hz
    cases hd with
    | cons h t =>
      cases t
      exact ⟨_, _, rfl, h.mono ex, h1, k _ G H .refl ex (.ss _)⟩
  · cases hz
/-! ### len -/
def lenD : List PyData → Option PyData
  | [.list ds] => some (.int ds.length)
  | [.tuple ds] => some (.int ds.length)
  | [.str z] => if z.length ≤ sizeLine then some (.int z.length) else none
  | _ => none
def rLenD (K : PySem.W.Frag) : List V → Hp → VK → Prop := fun xs H Q => (∃ p ys, xs = [.ref p] ∧ (SqL K H p ys ∨ SqT K H p ys) ∧ Q (.int ys.length) H) ∨ (∃ z, xs = [.str z] ∧ z.length ≤ sizeLine ∧ Q (.int z.length) H)
theorem call_lenD2 : CallR X (.builtin "len") (rLenD X.K) := call_len_seq.or call_len_str
theorem da_one {G : Hp} {vs : List V} {d : PyData} (h : Da K G vs [d]) : ∃ v, vs = [v] ∧ Dt K G v d := by
  cases h with
  | cons h t => cases t; exact ⟨_, rfl, h⟩
theorem da_two {G : Hp} {vs : List V} {d e : PyData} (h : Da K G vs [d, e]) : ∃ v u, vs = [v, u] ∧ Dt K G v d ∧ Dt K G u e := by
  cases h with
  | cons h t =>
    obtain ⟨u, rfl, hu⟩ := da_one t
    exact ⟨_, u, rfl, h, hu⟩
theorem d_len : CallD K (rLenD K) lenD := fun G H xs ds z Q ex hd hz k => by
  unfold lenD at hz
  split at hz
  · cases hz
    obtain ⟨v, rfl, h⟩ := da_one hd
    obtain ⟨a, ys, rfl, hy, dy⟩ := dt_list h
    refine .inl ⟨a, ys, rfl, .inl ((hy.mono ex).sq), ?_⟩
    rw [dy.len]
    exact k _ G H .refl ex (.ii _)
  · cases hz
    obtain ⟨v, rfl, h⟩ := da_one hd
    obtain ⟨a, ys, rfl, hy, dy⟩ := dt_tup h
    refine .inl ⟨a, ys, rfl, .inr (Evl.ex_t ex hy), ?_⟩
    rw [dy.len]
    exact k _ G H .refl ex (.ii _)
  · obtain ⟨h1, rfl⟩ := ite_p hz
    obtain ⟨v, rfl, h⟩ := da_one hd
    exact .inr ⟨_, by rw [dt_str h], h1, k _ G H .refl ex (.ii _)⟩
  · cases hz
/-! ### all, any, sum, abs, int, max, min, list, tuple -/
def boolsOf : List PyData → Option (List Bool)
  | [] => some []
  | .bool i :: r => (boolsOf r).map (i :: ·)
  | _ :: _ => none
theorem da_bools {G : Hp} : ∀ {ds : List PyData} {xs : List V} {bs : List Bool}, boolsOf ds = some bs → Da K G xs ds → xs = bs.map V.bl
  | [], _, bs, h, .nil => by cases h; rfl
  | .bool i :: r, _, bs, h, .cons q t => by
    unfold boolsOf at h
    obtain ⟨ms, h1, rfl⟩ := Option.map_eq_some_iff.mp h
    rw [List.map_cons, dt_bool q, da_bools h1 t]
  | .none :: _, _, _, h, _ => by cases h
  | .int _ :: _, _, _, h, _ => by cases h
  | .str _ :: _, _, _, h, _ => by cases h
  | .list _ :: _, _, _, h, _ => by cases h
  | .tuple _ :: _, _, _, h, _ => by cases h
  | .dict _ :: _, _, _, h, _ => by cases h
theorem boolsOf_map : ∀ bs : List Bool, boolsOf (bs.map .bool) = some bs
  | [] => rfl
  | b :: bs => by
    show (boolsOf (bs.map .bool)).map (b :: ·) = _
    rw [boolsOf_map bs]
    rfl
def allD : List PyData → Option PyData
  | [.list ds] => (boolsOf ds).map fun bs => .bool (bs.all id)
  | _ => none
def anyD : List PyData → Option PyData
  | [.list ds] => (boolsOf ds).map fun bs => .bool (bs.any id)
  | _ => none
def sumD : List PyData → Option PyData
  | [.list ds] => (intsOf ds).map fun bs => .int bs.sum
  | _ => none
theorem d_all : CallD K (rAll K) allD := fun G H xs ds z Q ex hd hz k => by
  unfold allD at hz
  split at hz
  · obtain ⟨bs, h1, rfl⟩ := Option.map_eq_some_iff.mp hz
    obtain ⟨v, rfl, h⟩ := da_one hd
    obtain ⟨a, ys, rfl, hy, dy⟩ := dt_list h
    obtain rfl := da_bools h1 dy
    exact ⟨a, bs, rfl, (hy.mono ex).sq, k _ G H .refl ex (.bb _)⟩
  · cases hz
theorem d_any : CallD K (rAny K) anyD := fun G H xs ds z Q ex hd hz k => by
  unfold anyD at hz
  split at hz
  · obtain ⟨bs, h1, rfl⟩ := Option.map_eq_some_iff.mp hz
    obtain ⟨v, rfl, h⟩ := da_one hd
    obtain ⟨a, ys, rfl, hy, dy⟩ := dt_list h
    obtain rfl := da_bools h1 dy
    exact ⟨a, bs, rfl, (hy.mono ex).sq, k _ G H .refl ex (.bb _)⟩
  · cases hz
theorem d_sum : CallD K (rSum K) sumD := fun G H xs ds z Q ex hd hz k => by
  unfold sumD at hz
  split at hz
  · obtain ⟨bs, h1, rfl⟩ := Option.map_eq_some_iff.mp hz
    obtain ⟨v, rfl, h⟩ := da_one hd
    obtain ⟨a, ys, rfl, hy, dy⟩ := dt_list h
    obtain rfl := intsOf_eq h1
    obtain rfl := da_ints dy
    exact ⟨a, bs, rfl, (hy.mono ex).sq, k _ G H .refl ex (.ii _)⟩
  · cases hz
def absD : List PyData → Option PyData
  | [.int i] => some (.int (if i < 0 then -i else i))
  | _ => none
def rAbs : List V → Hp → VK → Prop := fun xs H Q => ∃ i, xs = [.int i] ∧ Q (.int (if i < 0 then -i else i)) H
theorem d_abs : CallD K rAbs absD := fun G H xs ds z Q ex hd hz k => by
  unfold absD at hz
  split at hz
  · cases hz
    obtain ⟨v, rfl, h⟩ := da_one hd
    exact ⟨_, by rw [dt_int h], k _ G H .refl ex (.ii _)⟩
  · cases hz
def intD : List PyData → Option PyData
  | [.int i] => some (.int i)
  | [.bool b] => some (.int (if b then 1 else 0))
  | _ => none
def rInt1 : List V → Hp → VK → Prop := fun xs H Q => (∃ i, xs = [.int i] ∧ Q (.int i) H) ∨ ∃ k, xs = [.bl k] ∧ Q (.int (if k then 1 else 0)) H
theorem d_int : CallD K rInt1 intD := fun G H xs ds z Q ex hd hz k => by
  unfold intD at hz
  split at hz
  · cases hz
    obtain ⟨v, rfl, h⟩ := da_one hd
    exact .inl ⟨_, by rw [dt_int h], k _ G H .refl ex (.ii _)⟩
  · cases hz
    obtain ⟨v, rfl, h⟩ := da_one hd
    exact .inr ⟨_, by rw [dt_bool h], k _ G H .refl ex (.ii _)⟩
  · cases hz
def maxD : List PyData → Option PyData
  | [.int i, .int j] => some (.int (if j > i then j else i))
  | _ => none
def minD : List PyData → Option PyData
  | [.int i, .int j] => some (.int (if j < i then j else i))
  | _ => none
def rMax2 : List V → Hp → VK → Prop := fun xs H Q => ∃ i j, xs = [.int i, .int j] ∧ Q (.int (if j > i then j else i)) H
def rMin2 : List V → Hp → VK → Prop := fun xs H Q => ∃ i j, xs = [.int i, .int j] ∧ Q (.int (if j < i then j else i)) H
theorem d_max : CallD K rMax2 maxD := fun G H xs ds z Q ex hd hz k => by
  unfold maxD at hz
  split at hz
  · cases hz
    obtain ⟨v, u, rfl, h, h'⟩ := da_two hd
    exact ⟨_, _, by rw [dt_int h, dt_int h'], k _ G H .refl ex (.ii _)⟩
  · cases hz
theorem d_min : CallD K rMin2 minD := fun G H xs ds z Q ex hd hz k => by
  unfold minD at hz
  split at hz
  · cases hz
    obtain ⟨v, u, rfl, h, h'⟩ := da_two hd
    exact ⟨_, _, by rw [dt_int h, dt_int h'], k _ G H .refl ex (.ii _)⟩
  · cases hz
def listD : List PyData → Option PyData
  | [.list ds] => some (.list ds)
  | [.tuple ds] => some (.list ds)
  | _ => none
def tupleD : List PyData → Option PyData
  | [.list ds] => some (.tuple ds)
  | [.tuple ds] => some (.tuple ds)
  | _ => none
def rListD2 (K : PySem.W.Frag) : List V → Hp → VK → Prop := fun xs H Q => ∃ p ys, xs = [.ref p] ∧ (SqL K H p ys ∨ SqT K H p ys) ∧ ∀ l, H l = none → Q (.ref l) (upd H l (.lst ys))
theorem d_list : CallD K (rListD2 K) listD := fun G H xs ds z Q ex hd hz k => by
  unfold listD at hz
  have fin : ∀ {ys : List V} {es : List PyData} {l : Addr}, Da K G ys es → H l = none → z = .list es → Q (.ref l) (upd H l (.lst ys)) := fun {ys es l} dy hl ez => by
    subst ez
    have t : Tr nobody G H (upd G l (.lst ys)) (upd H l (.lst ys)) := Tr.new hl ex
    exact k _ _ _ t (ex_upd ex) (.ll (RL.of upd_same) (dy.mono t.g))
  split at hz
  · cases hz
    obtain ⟨v, rfl, h⟩ := da_one hd
    obtain ⟨a, ys, rfl, hy, dy⟩ := dt_list h
    exact ⟨a, ys, rfl, .inl ((hy.mono ex).sq), fun l hl => fin dy hl rfl⟩
  · cases hz
    obtain ⟨v, rfl, h⟩ := da_one hd
    obtain ⟨a, ys, rfl, hy, dy⟩ := dt_tup h
    exact ⟨a, ys, rfl, .inr (Evl.ex_t ex hy), fun l hl => fin dy hl rfl⟩
  · cases hz
theorem d_tuple : CallD K (rTupP K) tupleD := fun G H xs ds z Q ex hd hz k => by
  unfold tupleD at hz
  split at hz
  · cases hz
    obtain ⟨v, rfl, h⟩ := da_one hd
    obtain ⟨a, ys, rfl, hy, dy⟩ := dt_list h
    refine ⟨a, ys, rfl, .inl ⟨(hy.mono ex).sq, fun l o hl ho => ?_⟩⟩
    have t : Tr nobody G H (upd G l (.frz o (.tup ys))) (upd H l (.frz o (.tup ys))) := Tr.new hl ex
    exact k _ _ _ t (ex_upd ex) (.tt (PTu.new ho) (dy.mono t.g))
  · cases hz
    obtain ⟨v, rfl, h⟩ := da_one hd
    obtain ⟨a, ys, rfl, hy, dy⟩ := dt_tup h
    exact ⟨a, ys, rfl, .inr ⟨Evl.ex_t ex hy, k _ G H .refl ex h⟩⟩
  · cases hz
/-! ### isinstance -/
def tyD : PyData → String
  | .none => "NoneType"
  | .bool _ => "bool"
  | .int _ => "int"
  | .str _ => "str"
  | .list _ => "list"
  | .tuple _ => "tuple"
  | .dict _ => "dict"
theorem ty_of {G H : Hp} (ex : Ex G H) {v : V} {d : PyData} (h : Dt K G v d) : TyX K H v (.type (tyD d)) := by
  cases h with
  | nn => exact .base .non
  | bb b => exact .base (.bl b)
  | ii i => exact .base (.int i)
  | ss x => exact .base (.str x)
  | ll h t =>
    rcases (h.mono ex) with (e | ⟨o, e⟩) | ⟨its, n, e, _⟩
    · exact .base (.lst e)
    · exact .base (.frz e)
    · exact .kList e rfl
  | tt h t =>
    rcases Evl.ex_t ex h.sq with (e | ⟨o, e⟩) | ⟨o, its, n, e, c, _⟩
    · exact .base (.tup e)
    · exact .fTuple e
    · exact .kTuple e c
  | dd h t => exact .base (.dK (ex _ _ h))
def isiD (T : String) (d : PyData) : Option PyData := (kitB (tyD d) T).map .bool
theorem e_isi {T : String} {x xT : Str} {p q : Pos} (hg : Gl X x) (hm : X.mg x = none) (hv : bootBuiltins x = some (.builtin "isinstance")) (hgT : Gl X xT) (hmT : X.mg xT = none) (hvT : bootBuiltins xT = some (.type T))
    (ha : PE X a (tE X.K bb fa)) (hn : x ≠ "__name__" := by decide) (hdb : (x == ("__debug__" : Str)) = false := by decide) (hnT : xT ≠ "__name__" := by decide) (hdT : (xT == ("__debug__" : Str)) = false := by decide)
    (he : starEach (a :: [.Name xT q]) X.env = (false, eval a X.env) :: starEach [.Name xT q] X.env := by rfl) (hpl : (backTo pos (starEach [.Name xT q] X.env)).any (·.1) = false := by rfl) :
    PE X (.Call (.Name x p) [a, .Name xT q] [] pos) (tE X.K bb (fUn (isiD T) fa)) :=
  PE.weak (pe_callB call_isi hg hm hv (pa_cons ha (pa_cons (pe_bltn (v := .ty T) hgT hmT hvT rfl hnT hdT) pa_nil) he) hn hdb he hpl) fun σ H Q ⟨G, ρ, d, ρ', E, ef, k⟩ => by
    obtain ⟨y, ρ1, h1, h2⟩ := thnE_of ef
    obtain ⟨h5, rfl⟩ := liftO_of h2
    obtain ⟨b, hb, rfl⟩ := Option.map_eq_some_iff.mp h5
    exact ⟨G, ρ, y, ρ', E, h1, fun v G1 H1 t1 o1 E1 d1 => ⟨v, .ty T, _, _, b, rfl, .ty T, ty_of E1.ex d1, kit_ty hb, k _ G1 H1 t1 o1 E1 (.bb b)⟩⟩
/-! ### sorted -/
def allAlikeB (ds : List PyData) : Bool := ds.all fun d => ds.all fun e => PySem.W.alike d e
def isTup1 : PyData → Bool
  | .tuple (_ :: _) => true
  | _ => false
def isSortA : PyData → Bool
  | .none => false
  | .tuple _ => false
  | _ => true
def sortOk (ds : List PyData) : Bool := allAlikeB ds && (ds.all isTup1 || ds.all isSortA) && ds.all fun d => decide (d.depth ≤ 60)
theorem sortOk_of {ds : List PyData} (h : sortOk ds = true) : PySem.W.AllAlike ds ∧ PySem.W.Sortable ds ∧ ∀ d ∈ ds, d.depth ≤ 60 := by
  unfold sortOk at h
  rw [Bool.and_eq_true, Bool.and_eq_true] at h
  obtain ⟨⟨h1, h2⟩, h3⟩ := h
  refine ⟨fun d hd e he => ?_, ?_, fun d hd => of_decide_eq_true (List.all_eq_true.mp h3 d hd)⟩
  · exact List.all_eq_true.mp (List.all_eq_true.mp h1 d hd) e he
  · rcases Bool.or_eq_true_iff.mp h2 with h | h
    · refine .inl fun d hd => ?_
      have q := List.all_eq_true.mp h d hd
      unfold isTup1 at q
      split at q
      · exact ⟨_, _, rfl⟩
      · cases q
    · refine .inr fun d hd => ?_
      have q := List.all_eq_true.mp h d hd
      unfold isSortA at q
      split at q
      · cases q
      · cases q
      · rename_i h1 h2
        exact ⟨fun z => h1 z, fun xs z => h2 xs z⟩
def srt (ds : List PyData) : List PyData := ds.mergeSort (PySem.W.dataLe false id)
def sortedD : List PyData → Option PyData
  | [.list ds] => if sortOk ds = true then some (.list (srt ds)) else none
  | [.tuple ds] => if sortOk ds = true then some (.list (srt ds)) else none
  | _ => none
def rSortD (K : PySem.W.Frag) : List V → Hp → VK → Prop := fun vs H Q => ∃ (G : Hp) (a : Addr) (ds : List PyData), vs = [V.ref a] ∧ Ex G H ∧ (Dt K G (.ref a) (.list ds) ∨ Dt K G (.ref a) (.tuple ds)) ∧ sortOk ds = true ∧
  ∀ (xs : List V) (p : Addr), H p = none → Da K G xs (srt ds) → Q (.ref p) (upd H p (.lst xs))
theorem each_da {R : Value → PyData → Prop} {G : Hp} (w : ∀ v d u, Dt K G v d → RelV v u → R u d) : ∀ {xs : List V} {ds : List PyData} {us : List Value}, Da K G xs ds → Vals xs us → PySem.W.EachIs R us ds
  | _, _, _, .nil, .nil => .nil
  | _, _, _, .cons h t, .cons r q => .cons (w _ _ _ h r) (each_da w t q)
theorem da_each {G : Hp} : ∀ {ds : List PyData} {us : List Value}, PySem.W.EachIs (fun u d => ∃ v, RelV v u ∧ Dt K G v d) us ds → ∃ xs, Vals xs us ∧ Da K G xs ds
  | _, _, .nil => ⟨[], .nil, .nil⟩
  | _, _, .cons ⟨v, r, h⟩ t => by
    obtain ⟨xs, r2, h2⟩ := da_each t
    exact ⟨v :: xs, .cons r r2, .cons h h2⟩
theorem call_sortD (hu : X.A.units + 64 < cLine) : CallR X (.builtin "sorted") (rSortD X.K) := fun pins s σ H vs us Q I r ⟨G, a, ds, ev, ex, hd, ok, q⟩ => by
  subst ev
  rw [Vals.ref1 r]
  obtain ⟨h1, h2, h3⟩ := sortOk_of ok
  have bound : ∀ b ∈ ds, X.A.units + 2 + b.depth < cLine := fun b hb => by
    have := h3 b hb
    omega
  have fin : ∀ (its : List Value) (hz : ds.length ≤ sizeLine) (out : List Value), out.length = ds.length → PySem.W.EachIs (fun u d => ∃ v, RelV v u ∧ Dt X.K G v d) out (srt ds) →
      (∃ v H1, Inv X pins σ H1 { s with heap := PyProof.Rows.sortedAll s.heap its out.toArray } ∧ RelV v (.ref (s.heap.objs.size + 1)) ∧ Q v H1) := fun its hz out e1 e2 => by
    obtain ⟨ys, r2, dy⟩ := da_each e2
    obtain ⟨ep, he'⟩ := PyProof.Rows.sortedAll_at s.heap its out.toArray
    have hlen : ys.length ≤ sizeLine := by rw [r2.length, e1]; exact hz
    exact ⟨.ref (s.heap.objs.size + 1), upd H (s.heap.objs.size + 1) (.lst ys), I.laid (t' := s.toks) (fun _ _ => PyProof.Rows.sortedAll_old) (Nat.le_succ _) ⟨hlen, out, ep, r2, he'⟩, rfl, q _ _ (I.hok.fresh (Nat.le_succ _)) dy⟩
  rcases hd with hd | hd
  · obtain ⟨a', xs, ea, hx, dx⟩ := dt_list hd
    cases ea
    obtain ⟨its, rv, hl, hz⟩ := I.list ((hx.mono ex).sq)
    exact PySem.W.sorted_data (enc := id) (bs := ds) (R := fun u d => ∃ v, RelV v u ∧ Dt X.K G v d) hl.isList (each_da (fun v d u h r => ⟨v, r, h⟩) dx rv) (each_da (fun v d u h r => (h.mono ex).reads I r) dx rv) (by rw [List.map_id]; exact h1)
      (by rw [List.map_id]; exact h2) (by rw [← dx.len]; exact hz) bound fun out e1 e2 => fin its (by rw [← dx.len]; exact hz) out e1 e2
  · obtain ⟨a', xs, ea, hx, dx⟩ := dt_tup hd
    cases ea
    obtain ⟨its, rv, hl, hz⟩ := I.tuple (Evl.ex_t ex hx)
    exact PySem.W.sortT_data (bs := ds) (R := fun u d => ∃ v, RelV v u ∧ Dt X.K G v d) hl (each_da (fun v d u h r => ⟨v, r, h⟩) dx rv) (each_da (fun v d u h r => (h.mono ex).reads I r) dx rv) h1 h2 (by rw [← dx.len]; exact hz) bound fun out e1 e2 => fin its (by rw [← dx.len]; exact hz) out e1 e2
theorem d_sorted : CallD K (rSortD K) sortedD := fun G H xs ds z Q ex hd hz k => by
  have fin : ∀ (a : Addr) (es : List PyData), (Dt K G (.ref a) (.list es) ∨ Dt K G (.ref a) (.tuple es)) → sortOk es = true → z = .list (srt es) → rSortD K [.ref a] H Q := fun a es h h1 ez => by
    subst ez
    refine ⟨G, a, es, rfl, ex, h, h1, fun zs p hp dz => ?_⟩
    have t : Tr nobody G H (upd G p (.lst zs)) (upd H p (.lst zs)) := Tr.new hp ex
    exact k _ _ _ t (ex_upd ex) (.ll (RL.of upd_same) (dz.mono t.g))
  unfold sortedD at hz
  split at hz
  · obtain ⟨h1, rfl⟩ := ite_p hz
    obtain ⟨v, rfl, h⟩ := da_one hd
    obtain ⟨a, ys, rfl, hy, dy⟩ := dt_list h
    exact fin a _ (.inl h) h1 rfl
  · obtain ⟨h1, rfl⟩ := ite_p hz
    obtain ⟨v, rfl, h⟩ := da_one hd
    obtain ⟨a, ys, rfl, hy, dy⟩ := dt_tup h
    exact fin a _ (.inr h) h1 rfl
  · cases hz
end
end Tw

set_option Elab.async false
set_option linter.all false
set_option maxRecDepth 100000
set_option maxHeartbeats 2000000
namespace Tw
open PySem PySem.Spec PyProof.Rows L2
open Evl (Ex)
/-! ### readings of statements -/
inductive Out where
  | nx (ρ : Rho)
  | rt (d : PyData) (ρ : Rho)
  | rf (ds : List PyData) (ρ : Rho)
  | bk (ρ : Rho)
  | ct (ρ : Rho)
abbrev FS := Rho → Option Out
structure Stp (P : List Nat) (G H : Hp) (σ : L2.St) (ρ : Rho) (G' H' : Hp) (σ' : L2.St) (ρ' : Rho) : Prop where
  t : Tr (own σ ρ) G H G' H'
  o : ∀ l, own σ' ρ' l → own σ ρ l ∨ H l = none
  p : ∀ i ∈ P, σ'[i]? = σ[i]?
def Kont (K : PySem.W.Frag) (P : List Nat) (G H : Hp) (σ : L2.St) (ρ : Rho) (D : Ends) : Out → Prop
  | .nx ρ' => ∀ σ' G' H', Stp P G H σ ρ G' H' σ' ρ' → EnvOk K G' H' σ' ρ' → D.nx σ' H'
  | .rt d ρ' => ∀ v σ' G' H', Stp P G H σ ρ G' H' σ' ρ' → EnvOk K G' H' σ' ρ' → Dt K G' v d → D.rt v H'
  | .rf ds ρ' => ∀ p xs σ' G' H', Stp P G H σ ρ G' H' σ' ρ' → EnvOk K G' H' σ' ρ' → (own σ ρ p ∨ H p = none) → ¬ own σ' ρ' p → G' p = none → H' p = some (.lst xs) → Da K G' xs ds → D.rt (.ref p) H'
  | .bk ρ' => ∀ σ' G' H', Stp P G H σ ρ G' H' σ' ρ' → EnvOk K G' H' σ' ρ' → D.bk σ' H'
  | .ct ρ' => ∀ σ' G' H', Stp P G H σ ρ G' H' σ' ρ' → EnvOk K G' H' σ' ρ' → D.ct σ' H'
def tS (K : PySem.W.Frag) (P : List Nat) (f : FS) : TS := fun D σ H => ∃ (G : Hp) (ρ : Rho) (o : Out), EnvOk K G H σ ρ ∧ f ρ = some o ∧ Kont K P G H σ ρ D o
section
variable {K : PySem.W.Frag} {P : List Nat} {G H G1 H1 G2 H2 : Hp} {σ σ1 σ2 : L2.St} {ρ ρ1 ρ2 : Rho} {D : Ends} {o : Out}
theorem Stp.refl : Stp P G H σ ρ G H σ ρ := ⟨.refl, fun _ q => .inl q, fun _ _ => rfl⟩
theorem Stp.trans (a : Stp P G H σ ρ G1 H1 σ1 ρ1) (b : Stp P G1 H1 σ1 ρ1 G2 H2 σ2 ρ2) : Stp P G H σ ρ G2 H2 σ2 ρ2 where
  t := a.t.trans b.t fun x u e q => (a.o x q).elim id fun z => by rw [z] at e; cases e
  o := fun l q => (b.o l q).elim (a.o l) fun z => by
    cases e : H l with
    | none => exact .inr rfl
    | some u =>
      by_cases w : own σ ρ l
      · exact .inl w
      · have := a.t.h l u e w
        rw [z] at this
        cases this
  p := fun i h => (b.p i h).trans (a.p i h)
theorem tr_back {ow : Addr → Prop} (t : Tr ow G H G1 H1) {p : Addr} (hp : H1 p = none) : H p = none := by
  cases q : H p with
  | none => rfl
  | some u =>
    obtain ⟨u', z⟩ := t.k p u q
    rw [hp] at z
    cases z
/-- an expression's step -/
theorem Stp.of {b : Bool} (t : Tr (ows b σ ρ) G H G1 H1) (o : ∀ l, own σ ρ1 l → own σ ρ l) : Stp P G H σ ρ G1 H1 σ ρ1 := ⟨t.wide fun _ _ _ q => q.2, fun l q => .inl (o l q), fun _ _ => rfl⟩
theorem Kont.pre (a : Stp P G H σ ρ G1 H1 σ1 ρ1) (k : Kont K P G H σ ρ D o) : Kont K P G1 H1 σ1 ρ1 D o := by
  cases o with
  | nx r => exact fun σ' G' H' b E => k σ' G' H' (a.trans b) E
  | rt d r => exact fun v σ' G' H' b E dv => k v σ' G' H' (a.trans b) E dv
  | rf ds r => exact fun p xs σ' G' H' b E w1 w2 w3 w4 w5 => k p xs σ' G' H' (a.trans b) E (w1.elim (a.o p) fun z => .inr (tr_back a.t z)) w2 w3 w4 w5
  | bk r => exact fun σ' G' H' b E => k σ' G' H' (a.trans b) E
  | ct r => exact fun σ' G' H' b E => k σ' G' H' (a.trans b) E
end
def fSeq (f g : FS) : FS := fun ρ => (f ρ).bind fun o => match o with
  | .nx ρ' => g ρ'
  | o => some o
def fNext : FS := fun ρ => some (.nx ρ)
section
variable {X : Cx} {st : Stmt} {sts body : List Stmt} {e a b c : Expr} {P : List Nat} {f g : FS} {fe fa fb : FE PyData} {pos : Pos} {bb : Bool}
theorem s_nil : PSs X [] (tS X.K P fNext) := PSs.weak pss_nil fun D σ H ⟨G, ρ, o, E, ef, k⟩ => by
  cases ef
  exact k σ G H .refl E
theorem s_cons (h1 : PS X st (tS X.K P f)) (h2 : PSs X sts (tS X.K P g)) : PSs X (st :: sts) (tS X.K P (fSeq f g)) := PSs.weak (pss_cons h1 h2) fun D σ H ⟨G, ρ, o, E, ef, k⟩ => by
  unfold fSeq at ef
  obtain ⟨o1, h1, h2⟩ := Option.bind_eq_some_iff.mp ef
  refine ⟨G, ρ, o1, E, h1, ?_⟩
  cases o1 with
  | nx r => exact fun σ' G' H' s' E' => ⟨G', r, o, E', h2, k.pre s'⟩
  | rt d r => cases h2; exact k
  | rf ds r => cases h2; exact k
  | bk r => cases h2; exact k
  | ct r => cases h2; exact k
theorem s_one (h1 : PS X st (tS X.K P f)) : PSs X [st] (tS X.K P f) := PSs.weak (pss_one h1) fun _ _ _ h => h
theorem s_pass : PS X (.Pass pos) (tS X.K P fNext) := PS.weak ps_pass fun D σ H ⟨G, ρ, o, E, ef, k⟩ => by
  cases ef
  exact k σ G H .refl E
theorem s_doc {x j pos'} : PS X (.Expr (.Constant (.str x) j pos) pos') (tS X.K P fNext) := PS.weak ps_doc fun D σ H ⟨G, ρ, o, E, ef, k⟩ => by
  cases ef
  exact k σ G H .refl E
theorem s_break : PS X (.Break pos) (tS X.K P fun ρ => some (.bk ρ)) := PS.weak ps_break fun D σ H ⟨G, ρ, o, E, ef, k⟩ => by
  cases ef
  exact k σ G H .refl E
theorem s_continue : PS X (.Continue pos) (tS X.K P fun ρ => some (.ct ρ)) := PS.weak ps_continue fun D σ H ⟨G, ρ, o, E, ef, k⟩ => by
  cases ef
  exact k σ G H .refl E
def fNever : FS := fun _ => none
theorem s_never : PS X st (tS X.K P fNever) := PS.weak ps_never fun D σ H ⟨G, ρ, o, E, ef, k⟩ => by cases ef
theorem ss_never : PSs X sts (tS X.K P fNever) := PSs.weak pss_never fun D σ H ⟨G, ρ, o, E, ef, k⟩ => by cases ef
def fRet (f : FE PyData) : FS := fun ρ => (f ρ).map fun p => .rt p.1 p.2
theorem s_ret (h : PE X e (tE X.K bb fe)) : PS X (.Return (some e) pos) (tS X.K P (fRet fe)) := PS.weak (ps_ret h) fun D σ H ⟨G, ρ, o, E, ef, k⟩ => by
  obtain ⟨⟨d, ρ'⟩, h1, rfl⟩ := Option.map_eq_some_iff.mp ef
  exact ⟨G, ρ, d, ρ', E, h1, fun v G' H' t o E' d' => k v σ G' H' (.of t o) E' d'⟩
theorem s_retN : PS X (.Return none pos) (tS X.K P (fRet (ret .none))) := PS.weak ps_retN fun D σ H ⟨G, ρ, o, E, ef, k⟩ => by
  cases ef
  exact k .non σ G H .refl E .nn
def fDrop (f : FE PyData) : FS := fun ρ => (f ρ).map fun p => .nx p.2
theorem s_drop (h : PE X e (tE X.K bb fe)) (hs : swapsWith e none pos.line X.env = pure false := by rfl) : PS X (.Expr e pos) (tS X.K P (fDrop fe)) := PS.weak (ps_expr h hs) fun D σ H ⟨G, ρ, o, E, ef, k⟩ => by
  obtain ⟨⟨d, ρ'⟩, h1, rfl⟩ := Option.map_eq_some_iff.mp ef
  exact ⟨G, ρ, d, ρ', E, h1, fun v G' H' t o E' d' => k σ G' H' (.of t o) E'⟩
def fIfS (t : FE Bool) (f g : FS) : FS := fun ρ => (t ρ).bind fun p => if p.1 = true then f p.2 else g p.2
theorem s_if {t : FE Bool} {ta tb : List Stmt} (hc : PT X c (tT X.K bb t)) (ha : PSs X ta (tS X.K P f)) (hb : PSs X tb (tS X.K P g)) : PS X (.If c ta tb pos) (tS X.K P (fIfS t f g)) := PS.weak (ps_if hc ha hb) fun D σ H ⟨G, ρ, o, E, ef, k⟩ => by
  obtain ⟨⟨q, ρ1⟩, h1, h2⟩ := Option.bind_eq_some_iff.mp ef
  refine ⟨G, ρ, q, ρ1, E, h1, fun G1 H1 t1 o1 E1 => ?_⟩
  cases q with
  | true =>
    rw [if_pos rfl]
    exact ⟨G1, ρ1, o, E1, h2, k.pre (.of t1 o1)⟩
  | false =>
    rw [if_neg Bool.false_ne_true]
    exact ⟨G1, ρ1, o, E1, h2, k.pre (.of t1 o1)⟩
end
/-! ### targets -/
abbrev FG := PyData → Rho → Option Rho
/-- the slots behind a store -/
structure Sto (P : List Nat) (σ : L2.St) (ρ : Rho) (σ' : L2.St) (ρ' : Rho) : Prop where
  o : ∀ l, own σ' ρ' l → own σ ρ l
  p : ∀ i ∈ P, σ'[i]? = σ[i]?
  l : σ'.length = σ.length
/-- data, or (where they are taken apart at once) a pair of which no more is known -/
def Dx (wk : Bool) (K : PySem.W.Frag) (G : Hp) (v : V) (d : PyData) : Prop := match wk with
  | false => Dt K G v d
  | true => Dt K G v d ∨ ∃ a x y d1 d2, v = .ref a ∧ SqT K G a [x, y] ∧ d = .tuple [d1, d2] ∧ Dt K G x d1 ∧ Dt K G y d2
theorem Dx.of {wk : Bool} {K : PySem.W.Frag} {G : Hp} {v : V} {d : PyData} (h : Dt K G v d) : Dx wk K G v d := by
  cases wk with
  | false => exact h
  | true => exact .inl h
def tGw (wk : Bool) (K : PySem.W.Frag) (P : List Nat) (f : FG) : TG := fun v σ H Q => ∃ (G : Hp) (ρ : Rho) (d : PyData) (ρ' : Rho), EnvOk K G H σ ρ ∧ Dx wk K G v d ∧ f d ρ = some ρ' ∧ ∀ σ', Sto P σ ρ σ' ρ' → EnvOk K G H σ' ρ' → Q σ' H
abbrev tG : PySem.W.Frag → List Nat → FG → TG := tGw false
def gNm (i : Nat) : FG := fun d ρ => if i < ρ.length then some (ρ.set i (.d d)) else none
section
variable {K : PySem.W.Frag} {P : List Nat} {G H G1 H1 : Hp} {σ : L2.St} {ρ : Rho}
theorem set_get {α : Type} {l : List α} {i j : Nat} {x y : α} (h : (l.set i x)[j]? = some y) : (j = i ∧ y = x) ∨ (j ≠ i ∧ l[j]? = some y) := by
  by_cases e : j = i
  · subst e
    rw [List.getElem?_set_self'] at h
    cases q : l[j]? with
    | none => rw [q] at h; cases h
    | some z => rw [q] at h; exact .inl ⟨rfl, (Option.some.inj h).symm⟩
  · rw [List.getElem?_set_ne (Ne.symm e)] at h
    exact .inr ⟨e, h⟩
theorem own_set {i : Nat} {v : Option V} {x : PyData} {l : Addr} (h : own (σ.set i v) (ρ.set i (.d x)) l) : own σ ρ l := by
  obtain ⟨j, ds, h1, h2⟩ := h
  rcases set_get h1 with ⟨_, q⟩ | ⟨n, h1⟩
  · cases q
  · rw [List.getElem?_set_ne (Ne.symm n)] at h2
    exact ⟨j, ds, h1, h2⟩
theorem EnvOk.set (E : EnvOk K G H σ ρ) {i : Nat} (hi : i < ρ.length) {v : V} {x : PyData} (d : Dt K G v x) : EnvOk K G H (σ.set i (some v)) (ρ.set i (.d x)) where
  ex := E.ex
  len := by rw [List.length_set, List.length_set, E.len]
  dat := fun j y h => by
    rcases set_get h with ⟨rfl, q⟩ | ⟨n, h⟩
    · cases q
      exact ⟨v, List.getElem?_set_self (by rw [E.len]; exact hi), d⟩
    · rw [List.getElem?_set_ne (Ne.symm n)]
      exact E.dat j y h
  mu := fun j y h => by
    rcases set_get h with ⟨rfl, q⟩ | ⟨n, h⟩
    · cases q
    · rw [List.getElem?_set_ne (Ne.symm n)]
      exact E.mu j y h
  ne := fun j k ds es l h1 h2 h3 h4 => by
    rcases set_get h1 with ⟨_, q⟩ | ⟨n1, h1⟩
    · cases q
    rcases set_get h2 with ⟨_, q⟩ | ⟨n2, h2⟩
    · cases q
    rw [List.getElem?_set_ne (Ne.symm n1)] at h3
    rw [List.getElem?_set_ne (Ne.symm n2)] at h4
    exact E.ne j k ds es l h1 h2 h3 h4
theorem PG.weak {X : Cx} {e : Expr} {t t' : TG} (h : PG X e t) (w : ∀ v σ H Q, t' v σ H Q → t v σ H Q) : PG X e t' := ⟨fun pins s σ H v u Q I r q => h.run pins s σ H v u Q I r (w v σ H Q q)⟩
theorem g_nm {X : Cx} {e : Expr} {i : Nat} (hp : i ∉ P) (h : PG X e (gName i)) : PG X e (tG X.K P (gNm i)) := PG.weak h fun v σ H Q ⟨G, ρ, d, ρ', E, dv, ef, k⟩ => by
  obtain ⟨hi, rfl⟩ := ite_p ef
  exact k _ ⟨fun l q => own_set q, fun j hj => List.getElem?_set_ne fun z => hp (by rw [z]; exact hj), List.length_set⟩ (E.set hi dv)
/-- a, b, .. = a tuple -/
def gSeq : List FG → List PyData → Rho → Option Rho
  | [], [], ρ => some ρ
  | f :: fs, d :: ds, ρ => (f d ρ).bind fun ρ1 => gSeq fs ds ρ1
  | _, _, _ => none
def gTp (fs : List FG) : FG := fun d ρ => match d with
  | .tuple ds => gSeq fs ds ρ
  | _ => none
def tGs (K : PySem.W.Frag) (P : List Nat) (fs : List FG) : TGs := fun vs σ H Q => ∃ (G : Hp) (ρ : Rho) (ds : List PyData) (ρ' : Rho), EnvOk K G H σ ρ ∧ Da K G vs ds ∧ gSeq fs ds ρ = some ρ' ∧ ∀ σ', Sto P σ ρ σ' ρ' → EnvOk K G H σ' ρ' → Q σ' H
theorem PGs.weak {X : Cx} {es : List Expr} {t t' : TGs} (h : PGs X es t) (w : ∀ v σ H Q, t' v σ H Q → t v σ H Q) : PGs X es t' := ⟨fun pins s σ H v u Q I r q => h.run pins s σ H v u Q I r (w v σ H Q q)⟩
theorem gs_nil {X : Cx} : PGs X [] (tGs X.K P []) := PGs.weak pgs_nil fun v σ H Q ⟨G, ρ, ds, ρ', E, dv, ef, k⟩ => by
  cases dv with
  | nil =>
    cases ef
    exact ⟨rfl, k σ ⟨fun _ q => q, fun _ _ => rfl, rfl⟩ E⟩
  | cons h t => cases ef
theorem gs_cons {X : Cx} {e : Expr} {es : List Expr} {f : FG} {fs : List FG} (h1 : PG X e (tG X.K P f)) (h2 : PGs X es (tGs X.K P fs)) (hs : (assignEach (e :: es) X.env).map (·.2) = assign e X.env :: (assignEach es X.env).map (·.2) := by rfl) :
    PGs X (e :: es) (tGs X.K P (f :: fs)) := PGs.weak (pgs_cons h1 h2 hs) fun v σ H Q ⟨G, ρ, ds, ρ', E, dv, ef, k⟩ => by
  cases dv with
  | nil => cases ef
  | cons h t =>
    obtain ⟨ρ1, q1, q2⟩ := Option.bind_eq_some_iff.mp ef
    exact ⟨_, _, rfl, G, ρ, _, ρ1, E, h, q1, fun σ1 s1 E1 => ⟨G, ρ1, _, ρ', E1, t, q2, fun σ2 s2 E2 => k σ2 ⟨fun l q => s1.o l (s2.o l q), fun i q => (s2.p i q).trans (s1.p i q), s2.l.trans s1.l⟩ E2⟩⟩
theorem gSeq_len : ∀ {fs : List FG} {ds : List PyData} {ρ ρ' : Rho}, gSeq fs ds ρ = some ρ' → ds.length = fs.length
  | [], [], _, _, _ => rfl
  | f :: fs, d :: ds, ρ, ρ', h => by
    obtain ⟨ρ1, q1, q2⟩ := Option.bind_eq_some_iff.mp h
    show ds.length + 1 = fs.length + 1
    rw [gSeq_len q2]
  | [], _ :: _, _, _, h => by cases h
  | _ :: _, [], _, _, h => by cases h
end
/-! ### x = e -/
def fAsg (f : FE PyData) (g : FG) : FS := fun ρ => (f ρ).bind fun p => (g p.1 p.2).map .nx
section
variable {X : Cx} {e tg : Expr} {P : List Nat} {fe : FE PyData} {g : FG} {pos : Pos} {bb : Bool}
theorem asg_run {σ : L2.St} {H : Hp} {D : Ends} (h : tS X.K P (fAsg fe g) D σ H) : tAsg (tE X.K bb fe) (tG X.K P g) D σ H := by
  obtain ⟨G, ρ, o, E, ef, k⟩ := h
  obtain ⟨⟨d, ρ1⟩, h1, h2⟩ := Option.bind_eq_some_iff.mp ef
  obtain ⟨ρ2, h3, rfl⟩ := Option.map_eq_some_iff.mp h2
  exact ⟨G, ρ, d, ρ1, E, h1, fun v G1 H1 t1 o1 E1 d1 => ⟨G1, ρ1, d, ρ2, E1, d1, h3, fun σ' s' E' => k σ' G1 H1 (Stp.trans (.of t1 o1) ⟨.refl, fun l q => .inl (s'.o l q), s'.p⟩) E'⟩⟩
theorem s_asg (he : PE X e (tE X.K bb fe)) (hg : PG X tg (tG X.K P g)) (hs : swapsWithSole [tg] e pos.line X.env = pure false := by rfl) (hw : swappedStores [tg] e X.env = pure none := by rfl)
    (h1 : (assignEach [tg] X.env).map (·.2) = [assign tg X.env] := by rfl) : PS X (.Assign [tg] e pos) (tS X.K P (fAsg fe g)) := PS.weak (ps_asg he hg hs hw h1) fun _ _ _ h => asg_run h
end
end Tw

set_option Elab.async false
set_option linter.all false
set_option maxRecDepth 100000
set_option maxHeartbeats 2000000
namespace Tw
open PySem PySem.Spec PyProof.Rows L2
open Evl (Ex)
section
variable {X : Cx} {P : List Nat} {pos : Pos}
theorem g_tp {wk : Bool} {es : List Expr} {k : Nat} {fs : List FG} (hc : X.calm = true) (h : PGs X es (tGs X.K P fs)) (hn : (assignEach es X.env).length = fs.length := by rfl) (hst : (assignEach es X.env).findIdx? (·.1) = none := by rfl) :
    PG X (.Tuple es k pos) (tGw wk X.K P (gTp fs)) := PG.weak (pg_tup (n := fs.length) hc h hn hst) fun v σ H Q ⟨G, ρ, d, ρ', E, dv, ef, k⟩ => by
  unfold gTp at ef
  split at ef
  case h_2 => cases ef
  have to : ∃ a xs, v = .ref a ∧ SqT X.K G a xs ∧ Da X.K G xs ‹List PyData› := by
    cases wk with
    | false => exact dt_tup dv
    | true =>
      rcases dv with dv | ⟨a, x, y, d1, d2, h1, h2, h3, h4, h5⟩
      · exact dt_tup dv
      · cases h3
        exact ⟨a, _, h1, h2, .cons h4 (.cons h5 .nil)⟩
  obtain ⟨a, xs, rfl, hx, dx⟩ := to
  exact ⟨a, xs, rfl, Evl.ex_t E.ex hx, by rw [dx.len]; exact gSeq_len ef, G, ρ, _, ρ', E, dx, ef, k⟩
end
/-! ### defs: as in the layer, where no repr is on its way -/
/-- a def's promise, wherever nothing is being shown -/
structure FnG (Pr : Program) (w : World) (K : PySem.W.Frag) (mg : Str → Option Value) (base : Heap) (k : Nat) (f : Addr) (fd : FuncData) (ps : List Str) (sp : Sp) : Prop where
  len : ∀ vs H Q E, sp vs H Q E → vs.length = ps.length
  run : ∀ (A : Around), A.guards = some [] → Room k A → ∀ (outer : List Env) (s : Shared) (H : Hp) (args : Args) (us : List Value) (vs : List V) (Q : VK), Env0 Pr w K mg base A outer s H → BindsTo s fd args (ps.zip us) → Vals vs us →
    sp vs H Q E0 → codeAny (model Pr w) A (.call (.ref f) args) (CR CX0 outer Pr w H s Q E0) s
section
variable {Pr : Program} {w : World} {K : PySem.W.Frag} {mg : Str → Option Value} {base : Heap} {k : Nat} {f : Addr} {fd : FuncData} {ps : List Str} {sp : Sp}
theorem FnG.imp (F : FnG Pr w K mg base k f fd ps sp) {sp' : Sp} (h : ∀ vs H Q E, sp' vs H Q E → sp vs H Q E) : FnG Pr w K mg base k f fd ps sp' :=
  ⟨fun vs H Q E q => F.len vs H Q E (h vs H Q E q), fun A hg hr outer s H args us vs Q e hb r q => F.run A hg hr outer s H args us vs Q e hb r (h vs H Q E0 q)⟩
theorem FnG.up (F : FnG Pr w K mg base k f fd ps sp) {j : Nat} (h : k ≤ j) : FnG Pr w K mg base j f fd ps sp := ⟨F.len, fun A hg hr => F.run A hg (hr.mono h)⟩
end
/-- where a body runs -/
structure Here (k : Nat) (X : Cx) : Prop where
  g : X.A.guards = some []
  r : Room k X.A
  c : X.calm = true
theorem Here.u {k : Nat} {X : Cx} (h : Here k X) : X.A.units + 64 < cLine := h.r.units
theorem Here.u0 {k : Nat} {X : Cx} (h : Here k X) : X.A.units < cLine := h.r.units0
theorem Here.blk {k : Nat} {X : Cx} (h : Here k X) {s : Shared} {H : Hp} {sc : Scope} {en : Env} {fp : List Addr} : Here k (X.blk s H sc en fp) := ⟨h.g, h.r, h.c⟩
section
variable {X : Cx} {k : Nat} {f : Addr} {fd : FuncData} {ps : List Str} {sp : Sp} {x : Str} {p pos : Pos} {e : Expr} {es : List Expr} {t : TA}
theorem call_G (F : FnG X.prog X.w X.K X.mg X.base k f fd ps sp) (hh : Here k X) (hg : Gl X x) (hm : X.mg x = some (.ref f)) (hk : PySem.W.keepIn X.K (.ref f) = true) (hb : Binds X.K fd ps [])
    (ha : PA X (e :: es) t) (hdb : (x == ("__debug__" : Str)) = false := by decide) (he : starEach (e :: es) X.env = (false, eval e X.env) :: starEach es X.env := by rfl) (hpl : (backTo pos (starEach es X.env)).any (·.1) = false := by rfl) :
    PE X (.Call (.Name x p) (e :: es) [] pos) (fun σ H Q => t σ H fun vs H1 => sp vs H1 Q E0) := ⟨fun pins s σ H Q I h => by
  refine wpAny_Call_Name_kw (ld_glob I hg hm ?_ hdb)
  refine PySem.W.callWith_K (h₀ := X.base) I.ok.mod.kin hk (thn (ha.run pos pins s σ H _ I h) fun us s1 hz => ?_) he hpl
  obtain ⟨vs, H1, J, r, q⟩ := hz
  refine ⟨J.kIn, ?_⟩
  have hl := F.len _ _ _ _ q
  have bd := hb s1 us J.kIn (by rw [List.append_nil, ← r.length]; exact hl)
  rw [List.append_nil] at bd
  refine wpAny_call (codeAny_mono (F.run X.A hh.g hh.r X.stack s1 H1 ⟨us, []⟩ us vs Q J.env0 bd r q) fun rr s2 hq => ?_)
  match rr, hq with
  | .ok (.ret _), hq => exact J.after hq
  | .ok .next, hq => exact False.elim hq
  | .ok .brk, hq => exact False.elim hq
  | .ok .cont, hq => exact False.elim hq
  | .error _, hq => exact False.elim hq⟩
end
/-- where a def's body runs -/
abbrev bx (Pr : Program) (w : World) (K : PySem.W.Frag) (mg : Str → Option Value) (base : Heap) (N : List Str) (qual : Str) (st : Stmt) (f : Addr) (cdv : Value) (A : Around) (outer : List Env) (s : Shared) (H : Hp) : Cx :=
  (cxOf CX0 Pr w K mg base N qual (defScope st) f cdv A outer s H E0).nox
/-- a def by its body -/
theorem fn_G {Pr : Program} {w : World} {K : PySem.W.Frag} {mg : Str → Option Value} {base : Heap} {x qual : Str} {st : Stmt} {f : Addr} {fd : FuncData} {N ps : List Str} {k : Nat} {sp : Sp} (F : Fun K x qual st f fd) (S : FnScope N ps (defScope st))
    (len : ∀ vs H Q E, sp vs H Q E → vs.length = ps.length)
    (body : ∀ (cdv : Value) (A : Around) (outer : List Env) (s : Shared) (H : Hp), Here k (bx Pr w K mg base N qual st f cdv A outer s H) → ∀ vs Q, sp vs H Q E0 →
      ∃ t, PSs (bx Pr w K mg base N qual st f cdv A outer s H) (defBody st) t ∧ t { nx := fun _ H' => Q .non H', rt := Q } (L2.start N vs) H) : FnG Pr w K mg base (k + 1) f fd ps sp := by
  obtain ⟨oc, od, kV, doc, pm, an, cdv, ct, osl, rfl, lk, hcd⟩ := F.ex
  refine ⟨len, fun A hg hr outer s H args us vs Q e0 hb r hsp => ?_⟩
  have KX : K.In s.heap := e0.mod.kin.keeps fun b o z => (e0.bs b o z).1
  have lim : s.heap.NoLimit := e0.mod.nolimit.keeps fun b o z => (e0.bs b o z).1
  have kinds : ∀ y ∈ ps.zip us, (defScope st).names.lookup y.1 = some .local ∨ ((defScope st).names.lookup y.1 = some .cell ∧ ((cellsFrom (s.heap.objs.size + 1) (defScope st).names []).lookup y.1).isSome = true) := fun ⟨n, v⟩ hy =>
    (S.par n (List.of_mem_zip hy).1).imp id fun q => ⟨q, PySem.W.cellsFrom_some _ _ _ (.inl q)⟩
  refine codeAny_call_function hr.depth (KX _ _ lk) rfl S.co S.gen rfl (PySem.W.codeRec_of KX hcd) (hb _ _ _ _ ?_)
  refine wpAny_newFunctionEnv_cells S.kind kinds fun env he s1 y => ?_
  subst he
  refine ⟨lim.keeps y.toInCall.keep, codeAny_func ?_⟩
  have I : Inv (cxOf CX0 Pr w K mg base N qual (defScope st) f cdv A outer s H E0) [] (start N vs) H s1 := inv_start S hr.hd e0 (len _ _ _ _ hsp) r y
  obtain ⟨t, ht, hq⟩ := body cdv A outer s H ⟨hg, hr.deeper _, rfl⟩ vs Q hsp
  have done : ∀ {σ' : L2.St} {H' : Hp} {v : V} {u : Value} {s' : Shared}, Inv (cxOf CX0 Pr w K mg base N qual (defScope st) f cdv A outer s H E0) [] σ' H' s' → RelV v u → Q v H' → CE outer Pr w H s Q u s' :=
    fun {σ' H' v u s'} J rv q => ⟨v, H', J.os, J.bare, J.base, J.hok, rv, q⟩
  refine wpAny_mono (ht.nox.run [] s1 (start N vs) H _ I hq) (fun fl s2 hs => ?_) fun _ _ hs => hs
  match fl, hs with
  | .ret _, ⟨_, _, _, J, rv, q⟩ => exact done J rv q
  | .next, ⟨_, _, J, q⟩ => exact done (v := V.non) (u := Value.none) J rfl q
  | .brk, ⟨_, _, _, q⟩ => exact q.elim
  | .cont, ⟨_, _, _, q⟩ => exact q.elim

/-! ### a def of data: what it tells hangs on its arguments alone -/
def spP (K : PySem.W.Frag) (n : Nat) (g : List PyData → Option PyData) : Sp := fun vs H Q _ => ∃ (G : Hp) (ds : List PyData) (d : PyData), Ex G H ∧ Da K G vs ds ∧ ds.length = n ∧ g ds = some d ∧
  ∀ v G' H', Tr nobody G H G' H' → Ex G' H' → Dt K G' v d → Q v H'
/-- .. whose first argument is a list that it may change -/
def spM (K : PySem.W.Frag) (n : Nat) (g : List PyData → List PyData → Option (PyData × List PyData)) : Sp := fun vs H Q _ => ∃ (G : Hp) (l : Addr) (xs ws : List V) (ms ds : List PyData) (d : PyData) (ms' : List PyData), vs = .ref l :: ws ∧ Ex G H ∧ G l = none ∧
  H l = some (.lst xs) ∧ Da K G xs ms ∧ Da K G ws ds ∧ ds.length = n ∧ g ms ds = some (d, ms') ∧
  ∀ v G' H' xs', Tr (fun a => a = l) G H G' H' → Ex G' H' → G' l = none → H' l = some (.lst xs') → Da K G' xs' ms' → Dt K G' v d → Q v H'
def outD : Option Out → Option PyData
  | some (.rt d _) => some d
  | some (.rf ds _) => some (.list ds)
  | some (.nx _) => some .none
  | _ => none
/-- what a body tells of data -/
def runP (m : Nat) (fb : FS) (ds : List PyData) : Option PyData := outD (fb (ds.map Sl.d ++ List.replicate (m - ds.length) Sl.un))
def outM : Option Out → Option (PyData × List PyData)
  | some (.rt d (.m (.l ms) :: _)) => some (d, ms)
  | some (.nx (.m (.l ms) :: _)) => some (.none, ms)
  | _ => none
def runM (m : Nat) (fb : FS) (ms ds : List PyData) : Option (PyData × List PyData) := outM (fb (.m ms :: (ds.map Sl.d ++ List.replicate (m - (ds.length + 1)) Sl.un)))
section
variable {K : PySem.W.Frag} {G H : Hp}
theorem env_un {n : Nat} (ex : Ex G H) : EnvOk K G H (List.replicate n none) (List.replicate n Sl.un) where
  ex := ex
  len := by rw [List.length_replicate, List.length_replicate]
  dat := fun i d h => by
    rw [List.getElem?_replicate] at h
    split at h <;> cases h
  mu := fun i d h => by
    rw [List.getElem?_replicate] at h
    split at h <;> cases h
  ne := fun i j ds es l h1 h2 h3 h4 => by
    rw [List.getElem?_replicate] at h1
    split at h1 <;> cases h1
theorem env_cons {σ : L2.St} {ρ : Rho} (E : EnvOk K G H σ ρ) {v : V} {d : PyData} (h : Dt K G v d) : EnvOk K G H (some v :: σ) (.d d :: ρ) where
  ex := E.ex
  len := congrArg (· + 1) E.len
  dat := fun i x q => by
    cases i with
    | zero => cases q; exact ⟨v, rfl, h⟩
    | succ i => exact E.dat i x q
  mu := fun i x q => by
    cases i with
    | zero => cases q
    | succ i => exact E.mu i x q
  ne := fun i j ds es l h1 h2 h3 h4 => by
    cases i with
    | zero => cases h1
    | succ i =>
      cases j with
      | zero => cases h2
      | succ j => exact congrArg (· + 1) (E.ne i j ds es l h1 h2 h3 h4)
theorem env_args {σ : L2.St} {ρ : Rho} (E : EnvOk K G H σ ρ) : ∀ {vs : List V} {ds : List PyData}, Da K G vs ds → EnvOk K G H (vs.map some ++ σ) (ds.map Sl.d ++ ρ)
  | _, _, .nil => E
  | _, _, .cons h t => env_cons (env_args E t) h
/-- no list of one's own -/
def noM (ρ : Rho) : Prop := ∀ (i : Nat) (ds : Mu), ρ[i]? ≠ some (.m ds)
theorem noM_un {n : Nat} : noM (List.replicate n Sl.un) := fun i d h => by
  rw [List.getElem?_replicate] at h
  split at h <;> cases h
theorem noM_args {ρ : Rho} (h : noM ρ) : ∀ ds : List PyData, noM (ds.map Sl.d ++ ρ)
  | [] => h
  | d :: ds => fun i x q => by
    cases i with
    | zero => cases q
    | succ i => exact noM_args h ds i x q
theorem noM.own {ρ : Rho} (h : noM ρ) {σ : L2.St} {l : Addr} (q : own σ ρ l) : False := by
  obtain ⟨i, ds, h1, _⟩ := q
  exact h i ds h1
theorem env_m {σ : L2.St} {ρ : Rho} (E : EnvOk K G H σ ρ) (hm : noM ρ) {l : Addr} {xs : List V} {ms : List PyData} (hG : G l = none) (hH : H l = some (.lst xs)) (h : Da K G xs ms) : EnvOk K G H (some (.ref l) :: σ) (.m ms :: ρ) where
  ex := E.ex
  len := congrArg (· + 1) E.len
  dat := fun i x q => by
    cases i with
    | zero => cases q
    | succ i => exact E.dat i x q
  mu := fun i x q => by
    cases i with
    | zero => cases q; exact ⟨l, _, rfl, hG, hH, .l h⟩
    | succ i => exact E.mu i x q
  ne := fun i j ds es l h1 h2 h3 h4 => by
    cases i with
    | zero =>
      cases j with
      | zero => rfl
      | succ j => exact (hm j es h2).elim
    | succ i => exact (hm i ds h1).elim
end
/-- THE RULE for a def of data -/
theorem fn_P {Pr : Program} {w : World} {K : PySem.W.Frag} {mg : Str → Option Value} {base : Heap} {x qual : Str} {st : Stmt} {f : Addr} {fd : FuncData} {N ps : List Str} {k : Nat} (F : Fun K x qual st f fd) (S : FnScope N ps (defScope st)) {fb : FS}
    (body : ∀ (cdv : Value) (A : Around) (outer : List Env) (s : Shared) (H : Hp), Here k (bx Pr w K mg base N qual st f cdv A outer s H) → PSs (bx Pr w K mg base N qual st f cdv A outer s H) (defBody st) (tS K [] fb)) : FnG Pr w K mg base (k + 1) f fd ps (spP K ps.length (runP N.length fb)) :=
  fn_G F S (fun vs H Q E ⟨G, ds, d, ex, da, hl, _⟩ => by rw [da.len, hl]) fun cdv A outer s H hh vs Q ⟨G, ds, d, ex, da, hl, hg, k⟩ => by
    refine ⟨_, body cdv A outer s H hh, ?_⟩
    unfold runP at hg
    have e1 : L2.start N vs = vs.map some ++ List.replicate (N.length - ds.length) none := by unfold L2.start; rw [da.len]
    rw [e1]
    have E : EnvOk K G H (vs.map some ++ List.replicate (N.length - ds.length) none) (ds.map Sl.d ++ List.replicate (N.length - ds.length) Sl.un) := env_args (env_un ex) da
    have hm : noM (ds.map Sl.d ++ List.replicate (N.length - ds.length) Sl.un) := noM_args noM_un ds
    cases ho : fb (ds.map Sl.d ++ List.replicate (N.length - ds.length) Sl.un) with
    | none => rw [ho] at hg; cases hg
    | some o =>
      rw [ho] at hg
      refine ⟨G, _, o, E, ho, ?_⟩
      cases o with
      | rt e r =>
        cases hg
        exact fun v σ' G' H' s' E' dv => k v G' H' (s'.t.wide fun _ _ _ q => (hm.own q).elim) E'.ex dv
      | rf ds' r =>
        cases hg
        intro p xs σ' G' H' s' E' w1 w2 w3 w4 w5
        have hp : H p = none := w1.elim (fun q => (hm.own q).elim) id
        have t0 : Tr nobody G H G' H' := s'.t.wide fun _ _ _ q => (hm.own q).elim
        have gx : Ex G' (upd G' p (.lst xs)) := fun x u q => by
          rw [upd_ne fun z => by subst z; rw [w3] at q; cases q]
          exact q
        refine k (.ref p) (upd G' p (.lst xs)) H' ⟨fun x u q => gx x u (t0.g x u q), t0.h, fun x u q g _ => ?_, t0.k⟩ (fun x u q => ?_) (.ll (RL.of upd_same) (w5.mono gx))
        · rw [upd_ne fun z => by subst z; rw [hp] at q; cases q]
          exact t0.n x u q g id
        · by_cases z : x = p
          · subst z; rw [upd_same] at q; rw [← q]; exact w4
          · rw [upd_ne z] at q; exact E'.ex x u q
      | nx r =>
        cases hg
        exact fun σ' G' H' s' E' => k .non G' H' (s'.t.wide fun _ _ _ q => (hm.own q).elim) E'.ex .nn
      | bk r => cases hg
      | ct r => cases hg
/-- .. whose first parameter is a list that it may change -/
theorem fn_M {Pr : Program} {w : World} {K : PySem.W.Frag} {mg : Str → Option Value} {base : Heap} {x qual : Str} {st : Stmt} {f : Addr} {fd : FuncData} {N ps : List Str} {k : Nat} (F : Fun K x qual st f fd) (S : FnScope N ps (defScope st)) {fb : FS} (hps : 0 < ps.length)
    (body : ∀ (cdv : Value) (A : Around) (outer : List Env) (s : Shared) (H : Hp), Here k (bx Pr w K mg base N qual st f cdv A outer s H) → PSs (bx Pr w K mg base N qual st f cdv A outer s H) (defBody st) (tS K [0] fb)) : FnG Pr w K mg base (k + 1) f fd ps (spM K (ps.length - 1) (runM N.length fb)) :=
  fn_G F S (fun vs H Q E ⟨G, l, xs, ws, ms, ds, d, ms', ev, ex, hG, hH, da, db, hl, _⟩ => by rw [ev, List.length_cons, db.len, hl]; omega) fun cdv A outer s H hh vs Q ⟨G, l, xs, ws, ms, ds, d, ms', ev, ex, hG, hH, da, db, hl, hg, k⟩ => by
    refine ⟨_, body cdv A outer s H hh, ?_⟩
    unfold runM at hg
    have e1 : L2.start N vs = some (.ref l) :: (ws.map some ++ List.replicate (N.length - (ds.length + 1)) none) := by unfold L2.start; rw [ev, List.length_cons, db.len]; rfl
    rw [e1]
    have hm : noM (ds.map Sl.d ++ List.replicate (N.length - (ds.length + 1)) Sl.un) := noM_args noM_un ds
    have E : EnvOk K G H (some (.ref l) :: (ws.map some ++ List.replicate (N.length - (ds.length + 1)) none)) (.m ms :: (ds.map Sl.d ++ List.replicate (N.length - (ds.length + 1)) Sl.un)) := env_m (env_args (env_un ex) db) hm hG hH da
    have ow : ∀ a, own (some (.ref l) :: (ws.map some ++ List.replicate (N.length - (ds.length + 1)) none)) (.m ms :: (ds.map Sl.d ++ List.replicate (N.length - (ds.length + 1)) Sl.un)) a → a = l := fun a ⟨i, es, q1, q2⟩ => by
      cases i with
      | zero => cases q2; rfl
      | succ i => exact (hm i es q1).elim
    cases ho : fb (.m ms :: (ds.map Sl.d ++ List.replicate (N.length - (ds.length + 1)) Sl.un)) with
    | none => rw [ho] at hg; cases hg
    | some o =>
      rw [ho] at hg
      refine ⟨G, _, o, E, ho, ?_⟩
      have at0 : ∀ {σ' : L2.St} {G' H' : Hp} {ρ' : Rho} {ms'' : List PyData}, Stp [0] G H (some (.ref l) :: (ws.map some ++ List.replicate (N.length - (ds.length + 1)) none)) (.m ms :: (ds.map Sl.d ++ List.replicate (N.length - (ds.length + 1)) Sl.un)) G' H' σ' (.m ms'' :: ρ') →
          EnvOk K G' H' σ' (.m ms'' :: ρ') → G' l = none ∧ ∃ xs', H' l = some (.lst xs') ∧ Da K G' xs' ms'' := fun {σ' G' H' ρ' ms''} s' E' => by
        obtain ⟨l', xs', q1, q2, q3, q4⟩ := E'.muL (i := 0) (ds := ms'') rfl
        rw [s'.p 0 (List.mem_singleton.mpr rfl)] at q1
        cases q1
        exact ⟨q2, xs', q3, q4⟩
      cases o with
      | rt e r =>
        cases r with
        | nil => cases hg
        | cons z r =>
          cases z with
          | m mm =>
            cases mm with
            | k _ => cases hg
            | l ms'' =>
            cases hg
            exact fun v σ' G' H' s' E' dv => by
              obtain ⟨q2, xs', q3, q4⟩ := at0 s' E'
              exact k v G' H' xs' (s'.t.wide fun a _ _ q => ow a q) E'.ex q2 q3 q4 dv
          | un => cases hg
          | d _ => cases hg
      | rf ds' r => cases hg
      | nx r =>
        cases r with
        | nil => cases hg
        | cons z r =>
          cases z with
          | m mm =>
            cases mm with
            | k _ => cases hg
            | l ms'' =>
            cases hg
            exact fun σ' G' H' s' E' => by
              obtain ⟨q2, xs', q3, q4⟩ := at0 s' E'
              exact k .non G' H' xs' (s'.t.wide fun a _ _ q => ow a q) E'.ex q2 q3 q4 .nn
          | un => cases hg
          | d _ => cases hg
      | bk r => cases hg
      | ct r => cases hg
/-! ### calls of them -/
section
variable {X : Cx} {k : Nat} {f : Addr} {fd : FuncData} {ps : List Str} {x : Str} {p pos : Pos} {e : Expr} {es : List Expr} {bb : Bool} {n : Nat}
def lenIs (n : Nat) (g : List PyData → Option PyData) : List PyData → Option PyData := fun ds => if ds.length = n then g ds else none
theorem e_callP {g : List PyData → Option PyData} {ra : FE (List PyData)} (F : FnG X.prog X.w X.K X.mg X.base k f fd ps (spP X.K n g)) (hh : Here k X) (hg : Gl X x) (hm : X.mg x = some (.ref f)) (hk : PySem.W.keepIn X.K (.ref f) = true) (hb : Binds X.K fd ps [])
    (ha : PA X (e :: es) (tA X.K bb ra)) (hdb : (x == ("__debug__" : Str)) = false := by decide) (he : starEach (e :: es) X.env = (false, eval e X.env) :: starEach es X.env := by rfl) (hpl : (backTo pos (starEach es X.env)).any (·.1) = false := by rfl) :
    PE X (.Call (.Name x p) (e :: es) [] pos) (tE X.K bb (fCall (lenIs n g) ra)) := PE.weak (call_G F hh hg hm hk hb ha hdb he hpl) fun σ H Q h =>
  call_run (r := fun vs H1 Q => spP X.K n g vs H1 Q E0) (fun G H xs ds z Q ex da hz k => by
    unfold lenIs at hz
    split at hz
    · exact ⟨G, ds, z, ex, da, ‹_›, hz, k⟩
    · cases hz) h
def fCallM (n : Nat) (g : List PyData → List PyData → Option (PyData × List PyData)) (i : Nat) (ra : FE (List PyData)) : FE PyData := fun ρ => match ρ[i]? with
  | some (.m (.l _)) => thnE ra (fun ds ρ1 => if ds.length = n then match ρ1[i]? with
    | some (.m (.l ms)) => (g ms ds).map fun p => (p.1, ρ1.set i (.m (.l p.2)))
    | _ => none
    else none) ρ
  | _ => none
theorem own_setM {σ : L2.St} {ρ : Rho} {i : Nat} {ms ms' : Mu} {l : Addr} (hi : ρ[i]? = some (.m ms)) (h : own σ (ρ.set i (.m ms')) l) : own σ ρ l := by
  obtain ⟨j, ds, h1, h2⟩ := h
  rcases set_get h1 with ⟨rfl, _⟩ | ⟨_, h1⟩
  · exact ⟨j, ms, hi, h2⟩
  · exact ⟨j, ds, h1, h2⟩
theorem env_setM {K : PySem.W.Frag} {G H G' H' : Hp} {σ : L2.St} {ρ : Rho} (E : EnvOk K G H σ ρ) {i : Nat} {ms ms' : Mu} {l : Addr} {xs' : HO} (hi : ρ[i]? = some (.m ms)) (hl : σ[i]? = some (some (.ref l)))
    (t : Tr (fun a => a = l) G H G' H') (ex : Ex G' H') (hG : G' l = none) (hH : H' l = some xs') (da : MuOk K G' xs' ms') : EnvOk K G' H' σ (ρ.set i (.m ms')) where
  ex := ex
  len := by rw [List.length_set]; exact E.len
  dat := fun j d q => by
    rcases set_get q with ⟨_, q⟩ | ⟨_, q⟩
    · cases q
    · obtain ⟨v, h1, h2⟩ := E.dat j d q
      exact ⟨v, h1, h2.mono t.g⟩
  mu := fun j d q => by
    rcases set_get q with ⟨ej, qq⟩ | ⟨n, qq⟩
    · cases qq
      rw [ej]
      exact ⟨l, xs', hl, hG, hH, da⟩
    · obtain ⟨l', xs, h1, h2, h3, h4⟩ := E.mu j d qq
      have nl : l' ≠ l := fun z => n (E.ne j i _ _ l qq hi (by rw [← z]; exact h1) hl)
      exact ⟨l', xs, h1, t.n l' _ h3 h2 nl, t.h l' _ h3 nl, h4.mono t.g⟩
  ne := fun a b ds es l' h1 h2 h3 h4 => by
    have w : ∀ (c : Nat) (fs : Mu), (ρ.set i (.m ms'))[c]? = some (.m fs) → ∃ gs, ρ[c]? = some (.m gs) := fun c fs q => by
      rcases set_get q with ⟨ec, _⟩ | ⟨_, qq⟩
      · rw [ec]; exact ⟨_, hi⟩
      · exact ⟨_, qq⟩
    obtain ⟨_, k1⟩ := w a ds h1
    obtain ⟨_, k2⟩ := w b es h2
    exact E.ne a b _ _ l' k1 k2 h3 h4
theorem e_callM {g : List PyData → List PyData → Option (PyData × List PyData)} {ra : FE (List PyData)} (i : Nat) (F : FnG X.prog X.w X.K X.mg X.base k f fd ps (spM X.K n g)) (hh : Here k X) (hg : Gl X x) (hm : X.mg x = some (.ref f)) (hk : PySem.W.keepIn X.K (.ref f) = true) (hb : Binds X.K fd ps [])
    (h0 : PE X e (tVar i)) (ha : PA X es (tA X.K true ra)) (hdb : (x == ("__debug__" : Str)) = false := by decide) (he : starEach (e :: es) X.env = (false, eval e X.env) :: starEach es X.env := by rfl) (hpl : (backTo pos (starEach es X.env)).any (·.1) = false := by rfl) :
    PE X (.Call (.Name x p) (e :: es) [] pos) (tE X.K true (fCallM n g i ra)) := PE.weak (call_G F hh hg hm hk hb (pa_cons h0 ha he) hdb he hpl) fun σ H Q ⟨G, ρ, d, ρ', E, ef, kk⟩ => by
  unfold fCallM at ef
  split at ef
  case h_2 => cases ef
  rename_i ms0 hi0
  obtain ⟨ds, ρ1, h1, h2⟩ := thnE_of ef
  split at h2
  case isFalse => cases h2
  rename_i hl
  split at h2
  case h_2 => cases h2
  rename_i ms hi
  obtain ⟨⟨z, ms'⟩, h3, h4⟩ := Option.map_eq_some_iff.mp h2
  cases h4
  obtain ⟨l, _, hσ, _, _, _⟩ := E.muL hi0
  refine ⟨.ref l, hσ, G, ρ, ds, ρ1, E, h1, fun ws G1 H1 t1 o1 E1 d1 => ?_⟩
  obtain ⟨l2, xs, hσ2, hG, hH, dx⟩ := E1.muL hi
  rw [hσ] at hσ2
  cases hσ2
  refine ⟨G1, l, xs, ws, ms, ds, _, ms', rfl, E1.ex, hG, hH, dx, d1, hl, h3, fun v G2 H2 xs' t2 ex2 hG2 hH2 dx2 dv => ?_⟩
  have own1 : own σ ρ1 l := ⟨i, _, hi, hσ⟩
  exact kk v G2 H2 (t1.trans t2 fun a _ _ q => ⟨rfl, by rw [q]; exact o1 l own1⟩) (fun l' q => o1 l' (own_setM hi q)) (env_setM E1 hi hσ t2 ex2 hG2 hH2 (.l dx2)) dv
end
end Tw

set_option Elab.async false
set_option linter.all false
set_option maxRecDepth 100000
set_option maxHeartbeats 4000000
namespace Tw
open PySem PySem.Spec PyProof.Rows L2
open PySem.SeqAt PySem.AutoSeq1
/-! ### enumerate(tuple) -/
theorem enum_new (l : Addr) (items : Array Value) (n : Nat) (dct : Option Addr) (sl : Array (Option Value)) :
    Meets (Builtin.«enumerate.__new__» ⟨[.type "enumerate", .ref l], []⟩) (fun _ R s => s.heap.get? l = some { cls := .type "tuple", dict := dct, data := .seq items n, slots := sl } ∧
      R (.ok (.ret (.ref (s.heap.push { cls := .type "tuple_iterator", data := .fields #[.ref l, .int 0 0] }).objs.size)))
        { s with heap := (s.heap.push { cls := .type "tuple_iterator", data := .fields #[.ref l, .int 0 0] }).push { cls := .type "enumerate", data := .fields #[.none, .bool false, .ref s.heap.objs.size, rawInt 0, .none, .none] } }) :=
  .of_wp fun prog w A R s h => by
    obtain ⟨hp, g, d, tk, os⟩ := s
    obtain ⟨hl, h⟩ := h
    have hsub := sub_enumerate
    have hL : Heap.IsTuple (Shared.heap ⟨hp, g, d, tk, os⟩) l items := ⟨_, hl, rfl, n, rfl⟩
    wp_walk using wpAny_loadPart' hl
    refine wpAny_stack_any fun st => wpAny_pure ?_
    split
    · rename_i c _ _ _ _ _
      cases (c == Value.type "enumerate") <;> (wp_walk using wpAny_loadPart' hl, wpAny_pyIter_tuple hL; exact ⟨_, rfl, h⟩)
    · wp_walk using wpAny_loadPart' hl, wpAny_pyIter_tuple hL
      exact ⟨_, rfl, h⟩
section
variable {prog : Program} {w : World} {A : Around} {E : Value → Shared → Prop} {s : Shared}
theorem enum_call {l : Addr} {items : Array Value} {Q : Value → Shared → Prop} (hL : s.heap.IsTuple l items)
    (h : ∀ h', IsEnum h' (s.heap.objs.size + 1) s.heap.objs.size 0 .none → h'.IsTupleIter s.heap.objs.size l 0 → h'.objs.size = s.heap.objs.size + 2 →
      (∀ b o, s.heap.get? b = some o → h'.get? b = some o) → Q (.ref (s.heap.objs.size + 1)) { s with heap := h' }) :
    wpAny (model prog w) A (call (.type "enumerate") [.ref l]) Q E s := by
  obtain ⟨⟨c, dct, dt, sl⟩, hl, hc, n, hd⟩ := hL
  replace hc : c = .type "tuple" := hc
  replace hd : dt = .seq items n := hd
  subst hc hd
  refine callType_new F.called_enumerate (by decide) (F.typeCall_enumerate_1 _) (F.newCall_enumerate_1 _) (fun obj => F.args_object_init_2 obj _) F.entry_enumerate_new (enum_new l items n dct sl) ⟨hl, ?_⟩
  have hz : (s.heap.push { cls := .type "tuple_iterator", data := .fields #[.ref l, .int 0 0] }).objs.size = s.heap.objs.size + 1 := Heap.size_push ..
  show _ ∧ _
  rw [hz]
  have he : IsEnum ((s.heap.push { cls := .type "tuple_iterator", data := .fields #[.ref l, .int 0 0] }).push
      { cls := .type "enumerate", data := .fields #[.none, .bool false, .ref s.heap.objs.size, rawInt 0, .none, .none] }) (s.heap.objs.size + 1) s.heap.objs.size 0 .none := by
    have := Heap.get?_push_size (s.heap.push { cls := .type "tuple_iterator", data := .fields #[.ref l, .int 0 0] })
      (o := { cls := .type "enumerate", data := .fields #[.none, .bool false, .ref s.heap.objs.size, rawInt 0, .none, .none] }) rfl
    rw [hz] at this
    exact this
  refine ⟨⟨_, he, rfl⟩, h _ he ⟨_, Heap.get?_push_of_some _ (Heap.get?_push_size _ rfl), rfl, rfl⟩ (by rw [Heap.size_push, hz]) fun b o x => Heap.get?_push_of_some _ (Heap.get?_push_of_some _ x)⟩
end
/-- the tuple at a, each item in a new pair -/
def IteT (K : PySem.W.Frag) (a : Addr) : It :=
  ⟨fun i H => ∃ (xs : List V) (x : V), SqT K H a xs ∧ xs[i]? = some x, fun i H v H' => ∃ T x, v = .ref T ∧ H T = none ∧ H' = upd H T (.tup [.int (i : Nat), x]) ∧ ∀ xs, SqT K H a xs → xs[i]? = some x, fun i H => ∃ xs : List V, SqT K H a xs ∧ xs.length ≤ i⟩
theorem tup_it_ne {h : Heap} {it t : Addr} {i : Nat} {items : Array Value} (hi : h.IsTupleIter it t i) (ht : h.IsTuple t items) : t ≠ it := fun e => by
  subst e
  obtain ⟨o, h1, h2, _⟩ := hi
  obtain ⟨o2, h3, h4, _⟩ := ht
  rw [h1] at h3
  cases h3
  rw [h2] at h4
  exact absurd h4 (by simp)
theorem turn_enumT {P : Program} {w : World} {K : PySem.W.Frag} {elts : List Expr} {kk : Nat} {tpos : Pos} (a e it : Addr) :
    Turn P w K (.Tuple elts kk tpos) (IteT K a) [e, it] e (fun i h => (∃ old, IsEnum h e it ((i : Nat) : Int) old) ∧ h.IsTupleIter it a i ∧ e ≠ it) where
  mem := by simp
  obj := fun i h st b hb => by
    obtain ⟨⟨old, he⟩, ⟨o, ho, hc, hd⟩, _⟩ := st
    have e' : b = e ∨ b = it := by simpa using hb
    rcases e' with z | z
    · rw [z]; exact ⟨_, he, fun v q => nomatch q⟩
    · rw [z]; exact ⟨o, ho, fun v q => by rw [hd] at q; cases q⟩
  keep := fun i h h' st k => let ⟨⟨old, he⟩, hi, hne⟩ := st; ⟨⟨old, k e (by simp) _ he⟩, hi.at fun o q => k it (by simp) o q, hne⟩
  item := by
    intro X hP hw hK hc i pins s σ H E I hf st hg
    subst hP hw hK
    obtain ⟨⟨old, he⟩, hit, hne⟩ := st
    obtain ⟨xs, x, hq, hx⟩ := hg
    obtain ⟨its, rv, p, hz⟩ := I.tuple hq
    obtain ⟨u, hu, ru⟩ := rv.get hx
    have hel : e < s.heap.objs.size := Heap.lt_size he
    have hil : it < s.heap.objs.size := by obtain ⟨_, q, _⟩ := hit; exact Heap.lt_size q
    have hai : a ≠ it := tup_it_ne hit p
    have hea : e ≠ a := fun z => by
      subst z
      obtain ⟨o2, h3, h4, _⟩ := p
      rw [he] at h3
      cases h3
      exact absurd h4 (by simp)
    have D := Draws.tuple (prog := X.prog) (w := X.w) (A := X.A.in1) (I.ok.hd hc) it a hai its.toArray
    have hi : i < its.toArray.size := by
      rw [List.size_toArray]
      exact (List.getElem?_eq_some_iff.mp hu).1
    refine wpAny_pyNext_enum_itemD D he ⟨hit, p⟩ hi hne (by simp [hne, hea]) fun y h' tk hy ho hst hT hsz hk => ?_
    obtain rfl : y = u := by
      have hy' : its.toArray[i]? = some y := hy
      rw [List.getElem?_toArray, hu] at hy'
      exact (Option.some.inj hy').symm
    refine ⟨_, rfl, wpAny_letOwnedTupleGo_enum (s := { s with heap := h', toks := tk + 1 }) ho fun h'' he' sb => ?_⟩
    have hT2 : h''.get? s.heap.objs.size = some { cls := .type "tuple", data := .seq #[.int i tk, y] } := (sb.2 _ (Nat.ne_of_gt hel)).trans hT
    have new : ObjOk X.prog X.w (upd H s.heap.objs.size (.tup [.int (i : Nat), x])) h'' s.heap.objs.size (.tup [.int (i : Nat), x]) :=
      ⟨by show 2 ≤ sizeLine; decide, [.int i tk, y], .cons ⟨_, rfl⟩ (.cons ru .nil), ⟨_, hT2, rfl, _, rfl⟩⟩
    have I1 : Inv X pins σ (upd H s.heap.objs.size (.tup [.int (i : Nat), x])) { s with heap := h'', toks := tk + 1 } :=
      I.turnedNew (ch := [e, it]) (fun b ob hb q => (sb.2 b (fun z => hb (by simp [z]))).trans (hk b ob (fun z => hb (by simp [z])) (fun z => hb (by simp [z])) q)) hf (Nat.le_refl _) new
    refine ⟨.ref s.heap.objs.size, _, I1, rfl, ⟨_, x, rfl, I.hok.fresh (Nat.le_refl _), rfl, fun ys hy => by rw [I.tuple_inj hy hq]; exact hx⟩, ⟨⟨y, ?_⟩, hst.1.at fun o q => (sb.2 it (Ne.symm hne)).trans q, hne⟩, fun b hb => ?_⟩
    · have e1 : ((i + 1 : Nat) : Int) = (i : Int) + 1 := by omega
      rw [e1]; exact he'
    · have hb' : b < s.heap.objs.size := by
        have e' : b = e ∨ b = it := by simpa using hb
        rcases e' with z | z
        · rw [z]; exact hel
        · rw [z]; exact hil
      rw [upd_ne (Nat.ne_of_lt hb')]
      exact (hf b hb).1
  done := by
    intro X hP hw hK hc i pins s σ H E I hf st hg
    subst hP hw hK
    obtain ⟨⟨old, he⟩, hit, hne⟩ := st
    obtain ⟨xs, hq, hx⟩ := hg
    obtain ⟨its, rv, p, hz⟩ := I.tuple hq
    obtain ⟨f0, f1, f2, f3, f4, f5⟩ := hf it (by simp)
    have hl := rv.length
    have fin : ∀ h', Heap.ExtBut it s.heap h' → (none : Option Value) = none ∧ Inv X pins σ H { s with heap := h' } := fun h' eb => ⟨rfl, I.turned (t' := s.toks) (fun b o hb q => eb b o hb q) f0 f1 f3 f4 f5⟩
    have hT : s.TypeIs (.ref e) "enumerate" := ⟨_, he, rfl⟩
    unfold pyNext
    refine wpAny_bind (wpAny_attempt (wpAny_callSpecial?_slot (name := Str.ofString "__next__") hT F.slot_enumerate_next (wpAny_call_entry F.slot_enumerate_next hT F.entry_enumerate_next ?_ (F.args_enumerate_next_1 _))))
    show wpAny _ _ (field (.ref e) 2 >>= _) _ _ _
    refine wpAny_bind (wpAny_field he rfl (x := .ref it) rfl ?_)
    refine wpAny_bind (PySem.wpAny_nextOf_tuple_end (I.ok.hd hc) hit p (by simp; omega) fun h' x he' hx' => ?_)
    obtain ⟨o, ho, hc⟩ := hx'
    refine wpAny_bind (wpAny_isInstance (T := "StopIteration") (b := true) ⟨o, ho, hc⟩ isSubtype_stop ?_)
    exact wpAny_pure (fin _ he')
  self := fun A i s Q E st h => let ⟨⟨_, he⟩, _⟩ := st; wpAny_pyIter_enum he h
def iEnumA (K : PySem.W.Frag) (ta : TA) : TI := fun σ H R => ta σ H fun vs H1 => ∃ a xs, vs = [.ref a] ∧ ((SqL K H1 a xs ∧ R (Ite K a) H1) ∨ (SqT K H1 a xs ∧ R (IteT K a) H1))
theorem pi_enumA {X : Cx} {e : Expr} {ta : TA} {p pos tpos : Pos} {elts : List Expr} {kk : Nat} (hg : Gl X "enumerate") (hm : X.mg "enumerate" = none) (ha : PA X [e] ta) (hs : starEach [e] X.env = [(false, eval e X.env)] := by rfl) :
    PI X (.Tuple elts kk tpos) (.Call (.Name "enumerate" p) [e] [] pos) (iEnumA X.K ta) := by
  refine ⟨fun pins s σ H R I h => ?_⟩
  refine Call_ (ld_blt I hg hm boot_enumerate (PyProof.Rows.callWith_type1 (thn (ha.run pos pins s σ H _ I h) fun us s1 ⟨vs, H1, I1, r1, q1⟩ => ?_) hs rfl))
  obtain ⟨a, xs, ex, q⟩ := q1
  subst ex
  cases r1 with
  | cons r rr =>
    cases rr
    cases r
    have fp : ∀ b ∈ [s1.heap.objs.size + 1, s1.heap.objs.size], FpOk X pins H1 b := fun b hb => by
      have e' : b = s1.heap.objs.size + 1 ∨ b = s1.heap.objs.size := by simpa using hb
      have hle : s1.heap.objs.size ≤ b := by
        rcases e' with z | z
        · rw [z]; exact Nat.le_add_right _ _
        · rw [z]; exact Nat.le_refl _
      exact I1.fpOk hle (I1.hok.fresh hle)
    rcases q with ⟨hq, q⟩ | ⟨hq, q⟩
    · obtain ⟨its, rv, p', hz⟩ := I1.list hq
      refine call_enumerate_list p'.isList fun h' he hit hsz hk => wpAny_pyIter_enum he ?_
      have I2 : Inv X pins σ H1 { s1 with heap := h' } := I1.kept (t' := s1.toks) hk
      exact ⟨s1.heap.objs.size + 1, [s1.heap.objs.size + 1, s1.heap.objs.size], _, _, H1, rfl, I2, turn_enum a (s1.heap.objs.size + 1) s1.heap.objs.size, ⟨⟨.none, he⟩, hit, Nat.succ_ne_self _⟩, fp, q⟩
    · obtain ⟨its, rv, p', hz⟩ := I1.tuple hq
      refine enum_call p' fun h' he hit hsz hk => wpAny_pyIter_enum he ?_
      have I2 : Inv X pins σ H1 { s1 with heap := h' } := I1.kept (t' := s1.toks) hk
      exact ⟨s1.heap.objs.size + 1, [s1.heap.objs.size + 1, s1.heap.objs.size], _, _, H1, rfl, I2, turn_enumT a (s1.heap.objs.size + 1) s1.heap.objs.size, ⟨⟨.none, he⟩, hit, Nat.succ_ne_self _⟩, fp, q⟩
end Tw

set_option Elab.async false
set_option linter.all false
set_option maxRecDepth 100000
set_option maxHeartbeats 2000000
namespace Tw
open PySem PySem.Spec PyProof.Rows L2
open Evl (Ex)
/-! ### what is gone through -/
structure WalkD (wk : Bool) (K : PySem.W.Frag) (G : Hp) (J : It) (ds : List PyData) : Prop where
  go : ∀ i H, i < ds.length → Ex G H → J.go i H
  stop : ∀ H, Ex G H → J.stop ds.length H
  yld : ∀ i H x H' d, ds[i]? = some d → Ex G H → J.yld i H x H' → ∀ G2, Ex G G2 → Ex G2 H → ∃ G3, Tr nobody G2 H G3 H' ∧ Ex G3 H' ∧ Dx wk K G3 x d
def tIw (wk : Bool) (K : PySem.W.Frag) (b : Bool) (f : FE (List PyData)) : TI := fun σ H R => ∃ (G : Hp) (ρ : Rho) (ds : List PyData) (ρ' : Rho), EnvOk K G H σ ρ ∧ f ρ = some (ds, ρ') ∧
  ∀ J G' H', Tr (ows b σ ρ) G H G' H' → (∀ l, own σ ρ' l → own σ ρ l) → EnvOk K G' H' σ ρ' → WalkD wk K G' J ds → R J H'
abbrev tI : PySem.W.Frag → Bool → FE (List PyData) → TI := tIw false
section
variable {X : Cx} {tg l e e2 : Expr} {bb : Bool} {f f1 f2 : FE PyData} {pos p : Pos}
theorem PI.weak {wi wi' : TI} (h : PI X tg l wi) (w : ∀ σ H R, wi' σ H R → wi σ H R) : PI X tg l wi' := ⟨fun pins s σ H R I q => h.run pins s σ H R I (w σ H R q)⟩
def itemsOf : PyData → Option (List PyData)
  | .list ds => some ds
  | .tuple ds => some ds
  | _ => none
def fItems (f : FE PyData) : FE (List PyData) := thnE f fun x => liftO (itemsOf x)
def iSeq (K : PySem.W.Frag) (te : TE) : TI := fun σ H R => te σ H fun x H1 => ∃ a, x = .ref a ∧ ((∃ xs, SqL K H1 a xs ∧ R (Itl K a) H1) ∨ (∃ xs, SqT K H1 a xs ∧ R (Itt K a) H1))
theorem pi_seqD {te : TE} (hl : PE X l te) : PI X tg l (iSeq X.K te) := ⟨fun pins s σ H R I h => by
  refine thn (hl.run pins s σ H _ I h) fun v s1 hz => ?_
  obtain ⟨x, H1, J, r1, a, ex, q⟩ := hz
  subst ex
  cases r1
  have fp : ∀ b ∈ [s1.heap.objs.size], FpOk X pins H1 b := fun b hb => by
    rw [List.mem_singleton.mp hb]
    exact J.fpOk (Nat.le_refl _) (J.hok.fresh (Nat.le_refl _))
  rcases q with ⟨xs, hq, q⟩ | ⟨xs, hq, q⟩
  · obtain ⟨its, rv, pl, _⟩ := J.list hq
    exact wpAny_pyIter_list pl.isList ⟨_, [_], _, _, H1, rfl, J.kept (t' := s1.toks) fun b o z => Heap.get?_push_of_some _ z, turn_list a _, ⟨_, Heap.get?_push_size _ rfl, rfl, rfl⟩, fp, q⟩
  · obtain ⟨its, rv, pl, _⟩ := J.tuple hq
    exact wpAny_pyIter_tuple (show s1.heap.IsTuple a its.toArray from pl) ⟨_, [_], _, _, H1, rfl, J.kept (t' := s1.toks) fun b o z => Heap.get?_push_of_some _ z, turn_tuple a _, ⟨_, Heap.get?_push_size _ rfl, rfl, rfl⟩, fp, q⟩⟩
theorem walk_l {K : PySem.W.Frag} {G : Hp} {a : Addr} {xs : List V} {ds : List PyData} (h : SqL K G a xs) (d : Da K G xs ds) : WalkD false K G (Itl K a) ds where
  go := fun i H hi ex => ⟨xs, xs[i]'(by rw [d.len]; exact hi), Evl.ex_l ex h, List.getElem?_eq_getElem _⟩
  stop := fun H ex => ⟨xs, Evl.ex_l ex h, by rw [d.len]; exact Nat.le_refl _⟩
  yld := fun i H x H' y hy ex q G2 e1 e2 => by
    obtain ⟨rfl, q⟩ := q
    obtain ⟨v, h1, h2⟩ := d.get hy
    have := q xs (Evl.ex_l ex h)
    rw [h1] at this
    cases this
    exact ⟨G2, .refl, e2, h2.mono e1⟩
theorem walk_t {K : PySem.W.Frag} {G : Hp} {a : Addr} {xs : List V} {ds : List PyData} (h : SqT K G a xs) (d : Da K G xs ds) : WalkD false K G (Itt K a) ds where
  go := fun i H hi ex => ⟨xs, xs[i]'(by rw [d.len]; exact hi), Evl.ex_t ex h, List.getElem?_eq_getElem _⟩
  stop := fun H ex => ⟨xs, Evl.ex_t ex h, by rw [d.len]; exact Nat.le_refl _⟩
  yld := fun i H x H' y hy ex q G2 e1 e2 => by
    obtain ⟨rfl, q⟩ := q
    obtain ⟨v, h1, h2⟩ := d.get hy
    have := q xs (Evl.ex_t ex h)
    rw [h1] at this
    cases this
    exact ⟨G2, .refl, e2, h2.mono e1⟩
theorem i_seq (h : PE X l (tE X.K bb f)) : PI X tg l (tI X.K bb (fItems f)) := PI.weak (pi_seqD h) fun σ H R ⟨G, ρ, ds, ρ', E, ef, k⟩ => by
  obtain ⟨x, ρ1, h1, h2⟩ := thnE_of ef
  obtain ⟨h3, rfl⟩ := liftO_of h2
  refine ⟨G, ρ, x, ρ', E, h1, fun v G1 H1 t1 o1 E1 d1 => ?_⟩
  unfold itemsOf at h3
  split at h3
  · cases h3
    obtain ⟨a, xs, rfl, hx, dx⟩ := dt_list d1
    exact ⟨a, rfl, .inl ⟨xs, (hx.mono E1.ex).sq, k _ G1 H1 t1 o1 E1 (walk_l hx.sq dx)⟩⟩
  · cases h3
    obtain ⟨a, xs, rfl, hx, dx⟩ := dt_tup d1
    exact ⟨a, rfl, .inr ⟨xs, Evl.ex_t E1.ex hx, k _ G1 H1 t1 o1 E1 (walk_t hx dx)⟩⟩
  · cases h3
/-! range(n), range(a, b) -/
def ups (lo : Int) (n : Nat) : List PyData := (List.range n).map fun i => .int (lo + (i : Nat))
def rng1 : List PyData → Option (List PyData)
  | [.int n] => if -(2 ^ 62) ≤ n ∧ n < 2 ^ 62 then some (ups 0 n.toNat) else none
  | _ => none
def rng2 : List PyData → Option (List PyData)
  | [.int m, .int n] => if -(2 ^ 62) ≤ m ∧ m < 2 ^ 62 ∧ -(2 ^ 62) ≤ n ∧ n < 2 ^ 62 then some (ups m (n - m).toNat) else none
  | _ => none
theorem walk_r {K : PySem.W.Frag} {G : Hp} (lo : Int) (n : Nat) : WalkD false K G (Itr lo n) (ups lo n) where
  go := fun i H hi ex => by unfold ups at hi; rw [List.length_map, List.length_range] at hi; exact hi
  stop := fun H ex => by unfold ups; rw [List.length_map, List.length_range]; exact Nat.le_refl _
  yld := fun i H x H' y hy ex q G2 e1 e2 => by
    obtain ⟨rfl, rfl⟩ := q
    unfold ups at hy
    rw [List.getElem?_map] at hy
    cases hr : (List.range n)[i]? with
    | none => rw [hr] at hy; cases hy
    | some j =>
      rw [hr] at hy
      obtain ⟨hj, ej⟩ := List.getElem?_eq_some_iff.mp hr
      rw [List.getElem_range] at ej
      cases ej
      cases hy
      exact ⟨G2, .refl, e2, .ii _⟩
def fRng (g : List PyData → Option (List PyData)) (r : FE (List PyData)) : FE (List PyData) := thnE r fun xs => liftO (g xs)
theorem i_rng1 {a : Expr} {ra : FE (List PyData)} (hg : Gl X "range") (hm : X.mg "range" = none) (ha : PA X [a] (tA X.K bb ra)) (hs : starEach [a] X.env = [(false, eval a X.env)] := by rfl) :
    PI X tg (.Call (.Name "range" p) [a] [] pos) (tI X.K bb (fRng rng1 ra)) := PI.weak (pi_range1 hg hm ha hs) fun σ H R ⟨G, ρ, ds, ρ', E, ef, k⟩ => by
  obtain ⟨x, ρ1, h1, h2⟩ := thnE_of ef
  obtain ⟨h3, rfl⟩ := liftO_of h2
  refine ⟨G, ρ, x, ρ', E, h1, fun v G1 H1 t1 o1 E1 d1 => ?_⟩
  unfold rng1 at h3
  split at h3
  · obtain ⟨hb, rfl⟩ := ite_p h3
    obtain ⟨v, rfl, dv⟩ := da_one d1
    exact ⟨_, by rw [dt_int dv], hb.1, hb.2, k _ G1 H1 t1 o1 E1 (walk_r _ _)⟩
  · cases h3
theorem i_rng2 {a b : Expr} {ra : FE (List PyData)} (hg : Gl X "range") (hm : X.mg "range" = none) (ha : PA X [a, b] (tA X.K bb ra)) (hs : starEach [a, b] X.env = [(false, eval a X.env), (false, eval b X.env)] := by rfl)
    (hs2 : starEach [b] X.env = [(false, eval b X.env)] := by rfl) : PI X tg (.Call (.Name "range" p) [a, b] [] pos) (tI X.K bb (fRng rng2 ra)) := PI.weak (pi_range2 hg hm ha hs hs2) fun σ H R ⟨G, ρ, ds, ρ', E, ef, k⟩ => by
  obtain ⟨x, ρ1, h1, h2⟩ := thnE_of ef
  obtain ⟨h3, rfl⟩ := liftO_of h2
  refine ⟨G, ρ, x, ρ', E, h1, fun v G1 H1 t1 o1 E1 d1 => ?_⟩
  unfold rng2 at h3
  split at h3
  · obtain ⟨hb, rfl⟩ := ite_p h3
    obtain ⟨v, u, rfl, dv, du⟩ := da_two d1
    exact ⟨_, _, by rw [dt_int dv, dt_int du], hb, k _ G1 H1 t1 o1 E1 (walk_r _ _)⟩
  · cases h3
/-! new pairs on the way: enumerate, zip -/
def prs (xs ys : List PyData) : List PyData := (xs.zip ys).map fun p => .tuple [p.1, p.2]
theorem pair_yld {K : PySem.W.Frag} {G G2 H : Hp} {T : Addr} {x y : V} {d e : PyData} (hT : H T = none) (e1 : Ex G G2) (e2 : Ex G2 H) (hx : Dt K G x d) (hy : Dt K G y e) :
    ∃ G3, Tr nobody G2 H G3 (upd H T (.tup [x, y])) ∧ Ex G3 (upd H T (.tup [x, y])) ∧ Dx true K G3 (.ref T) (.tuple [d, e]) := by
  have t : Tr nobody G2 H (upd G2 T (.tup [x, y])) (upd H T (.tup [x, y])) := Tr.new hT e2
  exact ⟨_, t, ex_upd e2, .inr ⟨T, x, y, d, e, rfl, SqT.of upd_same, rfl, (hx.mono e1).mono t.g, (hy.mono e1).mono t.g⟩⟩
theorem prs_get {xs ys : List PyData} {i : Nat} {d : PyData} (h : (prs xs ys)[i]? = some d) : ∃ a b, xs[i]? = some a ∧ ys[i]? = some b ∧ d = .tuple [a, b] := by
  unfold prs at h
  rw [List.getElem?_map] at h
  cases q : (xs.zip ys)[i]? with
  | none => rw [q] at h; cases h
  | some z =>
    rw [q] at h
    cases h
    obtain ⟨h1, h2⟩ := List.getElem?_zip_eq_some.mp q
    exact ⟨_, _, h1, h2, rfl⟩
theorem prs_len (xs ys : List PyData) : (prs xs ys).length = min xs.length ys.length := by unfold prs; rw [List.length_map, List.length_zip]
def enumD (xs : List PyData) : List PyData := prs (ups 0 xs.length) xs
theorem ups_len (lo : Int) (n : Nat) : (ups lo n).length = n := by unfold ups; rw [List.length_map, List.length_range]
theorem ups_get {lo : Int} {n i : Nat} {d : PyData} (h : (ups lo n)[i]? = some d) : d = .int (lo + (i : Nat)) := by
  unfold ups at h
  rw [List.getElem?_map] at h
  cases hr : (List.range n)[i]? with
  | none => rw [hr] at h; cases h
  | some j =>
    rw [hr] at h
    obtain ⟨hj, ej⟩ := List.getElem?_eq_some_iff.mp hr
    rw [List.getElem_range] at ej
    cases ej
    cases h
    rfl
def enumN : List PyData → Option (List PyData)
  | [.list ds] => some (enumD ds)
  | [.tuple ds] => some (enumD ds)
  | _ => none
def fEnum (r : FE (List PyData)) : FE (List PyData) := thnE r fun xs => liftO (enumN xs)
theorem i_enum {elts : List Expr} {kk : Nat} {tpos : Pos} {ra : FE (List PyData)} (hg : Gl X "enumerate") (hm : X.mg "enumerate" = none) (ha : PA X [e] (tA X.K bb ra)) (hs : starEach [e] X.env = [(false, eval e X.env)] := by rfl) :
    PI X (.Tuple elts kk tpos) (.Call (.Name "enumerate" p) [e] [] pos) (tIw true X.K bb (fEnum ra)) := PI.weak (pi_enumA hg hm ha hs) fun σ H R ⟨G, ρ, ds, ρ', E, ef, k⟩ => by
  obtain ⟨x, ρ1, h1, h2⟩ := thnE_of ef
  obtain ⟨h3, rfl⟩ := liftO_of h2
  refine ⟨G, ρ, x, ρ', E, h1, fun v G1 H1 t1 o1 E1 d1 => ?_⟩
  unfold enumN at h3
  split at h3
  · cases h3
    obtain ⟨v, rfl, dv⟩ := da_one d1
    obtain ⟨a, xs, rfl, hx, dx⟩ := dt_list dv
    refine ⟨a, xs, rfl, .inl ⟨(hx.mono E1.ex).sq, k _ G1 H1 t1 o1 E1 ?_⟩⟩
    have hl : (enumD ‹List PyData›).length = xs.length := by unfold enumD; rw [prs_len, ups_len, Nat.min_self, dx.len]
    refine ⟨fun i H hi ex => ⟨xs, xs[i]'(by rw [← hl]; exact hi), (hx.mono ex).sq, List.getElem?_eq_getElem _⟩, fun H ex => ⟨xs, (hx.mono ex).sq, by rw [hl]; exact Nat.le_refl _⟩, fun i H y H' d hd ex q G2 e1 e2 => ?_⟩
    obtain ⟨T, z, rfl, hT, rfl, q⟩ := q
    obtain ⟨da, db, k1, k2, rfl⟩ := prs_get hd
    obtain ⟨w, h4, h5⟩ := dx.get k2
    have := q xs ((hx.mono ex).sq)
    rw [h4] at this
    cases this
    have ea : da = .int (i : Nat) := by rw [ups_get k1, Int.zero_add]
    subst ea
    exact pair_yld hT e1 e2 (.ii _) h5
  · cases h3
    obtain ⟨v, rfl, dv⟩ := da_one d1
    obtain ⟨a, xs, rfl, hx, dx⟩ := dt_tup dv
    refine ⟨a, xs, rfl, .inr ⟨Evl.ex_t E1.ex hx, k _ G1 H1 t1 o1 E1 ?_⟩⟩
    have hl : (enumD ‹List PyData›).length = xs.length := by unfold enumD; rw [prs_len, ups_len, Nat.min_self, dx.len]
    refine ⟨fun i H hi ex => ⟨xs, xs[i]'(by rw [← hl]; exact hi), Evl.ex_t ex hx, List.getElem?_eq_getElem _⟩, fun H ex => ⟨xs, Evl.ex_t ex hx, by rw [hl]; exact Nat.le_refl _⟩, fun i H y H' d hd ex q G2 e1 e2 => ?_⟩
    obtain ⟨T, z, rfl, hT, rfl, q⟩ := q
    obtain ⟨da, db, k1, k2, rfl⟩ := prs_get hd
    obtain ⟨w, h4, h5⟩ := dx.get k2
    have := q xs (Evl.ex_t ex hx)
    rw [h4] at this
    cases this
    have ea : da = .int (i : Nat) := by rw [ups_get k1, Int.zero_add]
    subst ea
    exact pair_yld hT e1 e2 (.ii _) h5
  · cases h3
def fZip (r : FE (List PyData)) : FE (List PyData) := thnE r fun xs => liftO (match xs with
  | [.list ds, .list es] => some (prs ds es)
  | [.tuple ds, .tuple es] => some (prs ds es)
  | _ => none)
theorem i_zip {elts : List Expr} {kk : Nat} {tpos : Pos} {ra : FE (List PyData)} (hg : Gl X "zip") (hm : X.mg "zip" = none) (ha : PA X [e, e2] (tA X.K bb ra))
    (hs : starEach [e, e2] X.env = (false, eval e X.env) :: starEach [e2] X.env := by rfl) (hpl : (backTo pos (starEach [e2] X.env)).any (·.1) = false := by rfl) :
    PI X (.Tuple elts kk tpos) (.Call (.Name "zip" p) [e, e2] [] pos) (tIw true X.K bb (fZip ra)) := PI.weak (RZ.pi_zipA hg hm ha hs hpl) fun σ H R ⟨G, ρ, ds, ρ', E, ef, k⟩ => by
  obtain ⟨x, ρ1, h1, h2⟩ := thnE_of ef
  obtain ⟨h3, rfl⟩ := liftO_of h2
  refine ⟨G, ρ, x, ρ', E, h1, fun v G1 H1 t1 o1 E1 d1 => ?_⟩
  have lens : ∀ {xs ys : List V} {ds es : List PyData}, Da X.K G1 xs ds → Da X.K G1 ys es → (prs ds es).length = min xs.length ys.length := fun d e => by rw [prs_len, d.len, e.len]
  split at h3
  · cases h3
    obtain ⟨v, u, rfl, dv, du⟩ := da_two d1
    obtain ⟨a, xs, rfl, hx, dx⟩ := dt_list dv
    obtain ⟨b, ys, rfl, hy, dy⟩ := dt_list du
    refine ⟨a, b, xs, ys, rfl, .inl ⟨(hx.mono E1.ex).sq, (hy.mono E1.ex).sq, k _ G1 H1 t1 o1 E1 ?_⟩⟩
    have hl := lens dx dy
    refine ⟨fun i H hi ex => ⟨xs, ys, xs[i]'(by omega), ys[i]'(by omega), (hx.mono ex).sq, (hy.mono ex).sq, List.getElem?_eq_getElem _, List.getElem?_eq_getElem _⟩,
      fun H ex => ⟨xs, ys, (hx.mono ex).sq, (hy.mono ex).sq, by omega⟩, fun i H y H' d hd ex q G2 e1 e2 => ?_⟩
    obtain ⟨T, z, z2, rfl, hT, rfl, q, q2⟩ := q
    obtain ⟨da, db, k1, k2, rfl⟩ := prs_get hd
    obtain ⟨w, h4, h5⟩ := dx.get k1
    obtain ⟨w2, h6, h7⟩ := dy.get k2
    have r1 := q xs ((hx.mono ex).sq)
    have r2 := q2 ys ((hy.mono ex).sq)
    rw [h4] at r1
    rw [h6] at r2
    cases r1
    cases r2
    exact pair_yld hT e1 e2 h5 h7
  · cases h3
    obtain ⟨v, u, rfl, dv, du⟩ := da_two d1
    obtain ⟨a, xs, rfl, hx, dx⟩ := dt_tup dv
    obtain ⟨b, ys, rfl, hy, dy⟩ := dt_tup du
    refine ⟨a, b, xs, ys, rfl, .inr ⟨Evl.ex_t E1.ex hx, Evl.ex_t E1.ex hy, k _ G1 H1 t1 o1 E1 ?_⟩⟩
    have hl := lens dx dy
    refine ⟨fun i H hi ex => ⟨xs, ys, xs[i]'(by omega), ys[i]'(by omega), Evl.ex_t ex hx, Evl.ex_t ex hy, List.getElem?_eq_getElem _, List.getElem?_eq_getElem _⟩,
      fun H ex => ⟨xs, ys, Evl.ex_t ex hx, Evl.ex_t ex hy, by omega⟩, fun i H y H' d hd ex q G2 e1 e2 => ?_⟩
    obtain ⟨T, z, z2, rfl, hT, rfl, q, q2⟩ := q
    obtain ⟨da, db, k1, k2, rfl⟩ := prs_get hd
    obtain ⟨w, h4, h5⟩ := dx.get k1
    obtain ⟨w2, h6, h7⟩ := dy.get k2
    have r1 := q xs (Evl.ex_t ex hx)
    have r2 := q2 ys (Evl.ex_t ex hy)
    rw [h4] at r1
    rw [h6] at r2
    cases r1
    cases r2
    exact pair_yld hT e1 e2 h5 h7
  · cases h3
end
/-! ### for -/
def forF (ft : FG) (fb : FS) : List PyData → FS
  | [], ρ => some (.nx ρ)
  | d :: ds, ρ => (ft d ρ).bind fun ρ1 => (fb ρ1).bind fun o => match o with
    | .nx r => forF ft fb ds r
    | .ct r => forF ft fb ds r
    | .bk r => some (.nx r)
    | .rt x r => some (.rt x r)
    | .rf x r => some (.rf x r)
def fFor (fi : FE (List PyData)) (ft : FG) (fb : FS) : FS := fun ρ => (fi ρ).bind fun p => forF ft fb p.1 p.2
section
variable {X : Cx} {tg iter c : Expr} {body : List Stmt} {P : List Nat} {pos : Pos} {bb : Bool}
theorem s_for {wk : Bool} {fi : FE (List PyData)} {ft : FG} {fb : FS} (hp : PassesOwn (model X.prog X.w) X.A X.env X.xe) (hc : X.calm = true) (hi : PI X tg iter (tIw wk X.K bb fi)) (hg : PG X tg (tGw wk X.K P ft)) (hb : PSs X body (tS X.K P fb))
    (hs : ∀ x, foldedSetIterable iter X.env x = pure x := by intro _; rfl) : PS X (.For tg iter body [] pos) (tS X.K P (fFor fi ft fb)) := PS.weak (ps_for hp hc hi hg hb hs) fun D σ H ⟨G, ρ, o, E, ef, k⟩ => by
  obtain ⟨⟨ds, ρ1⟩, h1, h2⟩ := Option.bind_eq_some_iff.mp ef
  refine ⟨G, ρ, ds, ρ1, E, h1, fun J G1 H1 t1 o1 E1 W => ?_⟩
  have k1 : Kont X.K P G1 H1 σ ρ1 D o := k.pre (.of t1 o1)
  refine ⟨fun i m σ' H' => m = ds.length - i ∧ i ≤ ds.length ∧ ∃ G' ρ', Stp P G1 H1 σ ρ1 G' H' σ' ρ' ∧ EnvOk X.K G' H' σ' ρ' ∧ forF ft fb (ds.drop i) ρ' = some o, ⟨ds.length, by omega, Nat.zero_le _, G1, ρ1, .refl, E1, h2⟩, ?_⟩
  rintro i m σ' H' ⟨rfl, hi, G', ρ', s', E', hf⟩
  by_cases hlt : i < ds.length
  · have ed : ds.drop i = ds[i] :: ds.drop (i + 1) := List.drop_eq_getElem_cons hlt
    rw [ed] at hf
    obtain ⟨ρ2, q1, q2⟩ := Option.bind_eq_some_iff.mp hf
    obtain ⟨ob, q3, q4⟩ := Option.bind_eq_some_iff.mp q2
    have exG : Ex G1 H' := fun a u z => E'.ex a u (s'.t.g a u z)
    refine .inr ⟨W.go i H' hlt exG, fun σ2 H2 => ∃ G' ρ', Stp P G1 H1 σ ρ1 G' H2 σ2 ρ' ∧ EnvOk X.K G' H2 σ2 ρ' ∧ forF ft fb (ds.drop (i + 1)) ρ' = some o, fun σ2 H2 z => ⟨ds.length - (i + 1), by omega, rfl, hlt, z⟩, fun x H2 y => ?_⟩
    obtain ⟨G3, t3, e3, d3⟩ := W.yld i H' x H2 ds[i] (List.getElem?_eq_getElem hlt) exG y G' s'.t.g E'.ex
    refine ⟨G3, ρ', ds[i], ρ2, E'.tr t3 e3, d3, q1, fun σ2 so E2 => ?_⟩
    have s2 : Stp P G1 H1 σ ρ1 G3 H2 σ2 ρ2 := s'.trans ⟨t3.none, fun l q => .inl (so.o l q), so.p⟩
    refine ⟨G3, ρ2, ob, E2, q3, ?_⟩
    cases ob with
    | nx r => exact fun σ4 G4 H4 s4 E4 => ⟨G4, r, s2.trans s4, E4, q4⟩
    | ct r => exact fun σ4 G4 H4 s4 E4 => ⟨G4, r, s2.trans s4, E4, q4⟩
    | bk r =>
      cases q4
      exact fun σ4 G4 H4 s4 E4 => k1 σ4 G4 H4 (s2.trans s4) E4
    | rt d r =>
      cases q4
      exact fun v σ4 G4 H4 s4 E4 dv => k1 v σ4 G4 H4 (s2.trans s4) E4 dv
    | rf d r =>
      cases q4
      exact Kont.pre s2 k1
  · have en : i = ds.length := by omega
    subst en
    rw [List.drop_length] at hf
    cases hf
    exact .inl ⟨W.stop H' fun a u z => E'.ex a u (s'.t.g a u z), k1 σ' G' H' s' E'⟩
/-! ### while -/
def whF (ft : FE Bool) (fb : FS) : Nat → FS
  | 0, _ => none
  | n + 1, ρ => (ft ρ).bind fun p => if p.1 = true then (fb p.2).bind fun o => match o with
      | .nx r => whF ft fb n r
      | .ct r => whF ft fb n r
      | .bk r => some (.nx r)
      | .rt x r => some (.rt x r)
      | .rf x r => some (.rf x r)
    else some (.nx p.2)
theorem s_while {ft : FE Bool} {fb : FS} (n : Nat) (hp : PassesOwn (model X.prog X.w) X.A X.env X.xe) (hc : PT X c (tT X.K bb ft)) (hb : PSs X body (tS X.K P fb)) : PS X (.While c body [] pos) (tS X.K P (whF ft fb n)) := PS.weak (ps_while hp hc hb) fun D σ H ⟨G, ρ, o, E, ef, k⟩ => by
  refine ⟨fun m σ' H' => ∃ G' ρ', Stp P G H σ ρ G' H' σ' ρ' ∧ EnvOk X.K G' H' σ' ρ' ∧ whF ft fb m ρ' = some o, ⟨n, G, ρ, .refl, E, ef⟩, ?_⟩
  rintro m σ' H' ⟨G', ρ', s', E', hf⟩
  cases m with
  | zero => cases hf
  | succ m =>
    obtain ⟨⟨b, ρ1⟩, q1, q2⟩ := Option.bind_eq_some_iff.mp hf
    refine ⟨G', ρ', b, ρ1, E', q1, fun G1 H1 t1 o1 E1 => ?_⟩
    have s1 : Stp P G H σ ρ G1 H1 σ' ρ1 := s'.trans (.of t1 o1)
    cases b with
    | false =>
      dsimp only
      rw [if_neg Bool.false_ne_true]
      cases q2
      exact k σ' G1 H1 s1 E1
    | true =>
      dsimp only
      rw [if_pos rfl]
      obtain ⟨ob, q3, q4⟩ := Option.bind_eq_some_iff.mp (show ((fb ρ1).bind fun o => _) = some o from q2)
      refine ⟨fun σ2 H2 => ∃ G' ρ', Stp P G H σ ρ G' H2 σ2 ρ' ∧ EnvOk X.K G' H2 σ2 ρ' ∧ whF ft fb m ρ' = some o, fun σ2 H2 z => ⟨m, Nat.lt_succ_self m, z⟩, G1, ρ1, ob, E1, q3, ?_⟩
      cases ob with
      | nx r => exact fun σ4 G4 H4 s4 E4 => ⟨G4, r, s1.trans s4, E4, q4⟩
      | ct r => exact fun σ4 G4 H4 s4 E4 => ⟨G4, r, s1.trans s4, E4, q4⟩
      | bk r =>
        cases q4
        exact fun σ4 G4 H4 s4 E4 => k σ4 G4 H4 (s1.trans s4) E4
      | rt d r =>
        cases q4
        exact fun v σ4 G4 H4 s4 E4 dv => k v σ4 G4 H4 (s1.trans s4) E4 dv
      | rf d r =>
        cases q4
        exact Kont.pre (D := D) s1 k
end
end Tw

set_option Elab.async false
set_option linter.all false
set_option maxRecDepth 100000
set_option maxHeartbeats 2000000
namespace Tw
open PySem PySem.Spec PyProof.Rows L2
open Evl (Ex)
/-! ### a new list, one's own -/
def tF (K : PySem.W.Frag) (b : Bool) (f : FE (List PyData)) : TE := fun σ H Q => ∃ (G : Hp) (ρ : Rho) (ds : List PyData) (ρ' : Rho), EnvOk K G H σ ρ ∧ f ρ = some (ds, ρ') ∧
  ∀ p xs G' H', H p = none → G' p = none → H' p = some (.lst xs) → Da K G' xs ds → Tr (ows b σ ρ) G H G' H' → (∀ l, own σ ρ' l → own σ ρ l) → EnvOk K G' H' σ ρ' → Q (.ref p) H'
def fOf (f : FE (List PyData)) : FE PyData := thnE f fun ds => ret (.list ds)
section
variable {K : PySem.W.Frag} {G H G1 H1 : Hp} {σ : L2.St} {ρ ρ1 : Rho} {b : Bool}
theorem ex_put {p : Addr} {o : HO} (ex : Ex G H) (hH : H p = some o) (hG : G p = none) : Ex (upd G p o) H := fun x u q => by
  by_cases z : x = p
  · subst z; rw [upd_same] at q; rw [← q]; exact hH
  · rw [upd_ne z] at q; exact ex x u q
theorem ex_add {p : Addr} {o : HO} (hG : G p = none) : Ex G (upd G p o) := fun x u q => by
  rw [upd_ne fun z => by subst z; rw [hG] at q; cases q]
  exact q
/-- a list of one's own that no slot holds becomes data -/
theorem env_froz (E : EnvOk K G H σ ρ) {p : Addr} {o : HO} (hH : H p = some o) (hG : G p = none) (nw : ¬ own σ ρ p) : EnvOk K (upd G p o) H σ ρ where
  ex := ex_put E.ex hH hG
  len := E.len
  dat := fun i d q => by
    obtain ⟨v, h1, h2⟩ := E.dat i d q
    exact ⟨v, h1, h2.mono (ex_add hG)⟩
  mu := fun i d q => by
    obtain ⟨l, xs, h1, h2, h3, h4⟩ := E.mu i d q
    exact ⟨l, xs, h1, by rw [upd_ne fun z => nw (by rw [← z]; exact ⟨i, d, q, h1⟩)]; exact h2, h3, h4.mono (ex_add hG)⟩
  ne := E.ne
theorem own_there (E : EnvOk K G H σ ρ) {l : Addr} (h : own σ ρ l) : ∃ xs, H l = some xs := by
  obtain ⟨i, ds, h1, h2⟩ := h
  obtain ⟨l', xs, q1, _, q3, _⟩ := E.mu i ds h1
  rw [h2] at q1
  cases q1
  exact ⟨xs, q3⟩
theorem tr_froz {ow : Addr → Prop} (t : Tr ow G H G1 H1) {p : Addr} {o : HO} (hp : H p = none) (hG : G1 p = none) : Tr ow G H (upd G1 p o) H1 where
  g := fun x u q => ex_add hG x u (t.g x u q)
  h := t.h
  n := fun x u q g w => by
    rw [upd_ne fun z => by subst z; rw [hp] at q; cases q]
    exact t.n x u q g w
  k := t.k
theorem tr_mk0 {ow : Addr → Prop} {p : Addr} {o : HO} (hp : H p = none) : Tr ow G H G (upd H p o) where
  g := fun _ _ q => q
  h := fun x u q _ => by
    rw [upd_ne fun z => by subst z; rw [q] at hp; cases hp]
    exact q
  n := fun _ _ _ q _ => q
  k := fun x u q => ⟨u, by
    rw [upd_ne fun z => by subst z; rw [q] at hp; cases hp]
    exact q⟩
theorem EnvOk.gn (E : EnvOk K G H σ ρ) {p : Addr} (hp : H p = none) : G p = none := by
  cases q : G p with
  | none => rfl
  | some u => rw [E.ex p u q] at hp; cases hp
end
section
variable {X : Cx} {e a c : Expr} {es : List Expr} {pos : Pos} {bb : Bool}
theorem f_to {f : FE (List PyData)} {σ : L2.St} {H : Hp} {Q : VK} (h : tE X.K bb (fOf f) σ H Q) : tF X.K bb f σ H Q := by
  obtain ⟨G, ρ, d, ρ', E, ef, k⟩ := h
  obtain ⟨ds, ρ1, h1, h2⟩ := thnE_of ef
  obtain ⟨rfl, rfl⟩ := ret_of h2
  refine ⟨G, ρ, ds, ρ', E, h1, fun p xs G1 H1 hp hG hH da t o E1 => ?_⟩
  have nw : ¬ own σ ρ' p := fun q => by
    obtain ⟨ys, z⟩ := own_there E (o p q)
    rw [hp] at z
    cases z
  exact k (.ref p) (upd G1 p (.lst xs)) H1 (tr_froz t hp hG) o (env_froz E1 hH hG nw) (.ll (RL.of upd_same) (da.mono (ex_add hG)))
theorem e_ofF {f : FE (List PyData)} (h : PE X e (tF X.K bb f)) : PE X e (tE X.K bb (fOf f)) := PE.weak h fun _ _ _ h => f_to h
theorem l_lst {r : FE (List PyData)} (h : PA X es (tA X.K bb r)) : PE X (.List es pos) (tF X.K bb (thnE r fun xs => liftO (if sizeOk xs.length = true then some xs else none))) := PE.weak (pe_lst h) fun σ H Q ⟨G, ρ, d, ρ', E, ef, k⟩ => by
  obtain ⟨x, ρ1, h1, h2⟩ := thnE_of ef
  obtain ⟨h3, rfl⟩ := liftO_of h2
  obtain ⟨hz, rfl⟩ := ite_some h3
  refine ⟨G, ρ, x, ρ', E, h1, fun v G1 H1 t1 o1 E1 d1 => ⟨by rw [d1.len]; exact sizeOk_le hz, fun p hp => ?_⟩⟩
  have t2 : Tr nobody G1 H1 G1 (upd H1 p (.lst v)) := tr_mk0 hp
  exact k p v G1 _ (tr_back t1 hp) (E1.gn hp) upd_same d1 (t1.trans t2 fun _ _ _ q => q.elim) o1 (E1.tr t2 (ex_new E1.ex hp))
end
end Tw

set_option Elab.async false
set_option linter.all false
set_option maxRecDepth 100000
set_option maxHeartbeats 4000000
namespace Tw
open PySem PySem.Spec PyProof.Rows L2
theorem extend_tup (l : Addr) (items : Array Value) (n : Nat) (b : Addr) (dt : Option Addr) (sl : Array (Option Value)) (items2 : Array Value) (n2 : Nat) (g0 : ¬(!items.isEmpty && Builtin.List.listTooLong (items.size + items2.size)) = true)
    (g1 : items.size ≤ sizeLine) (g2 : items.size + items2.size ≤ sizeLine + 1) :
    Meets (Builtin.«list.extend» ⟨[.ref l, .ref b], []⟩) (fun _ R s => s.heap.get? l = some { cls := .type "list", dict := none, data := .seq items n, slots := #[] } ∧
      s.heap.get? b = some { cls := .type "tuple", dict := dt, data := .seq items2 n2, slots := sl } ∧ R (.ok (.ret Value.none)) { s with heap := s.heap.update l (Obj.mapSeq fun x => x ++ items2), toks := s.toks }) :=
  .of_wp fun prog w A R s hh => by
    obtain ⟨hp, gs, dr, tk, os⟩ := s
    obtain ⟨hl, hb, hr⟩ := hh
    have f1 := AutoSeq1.idx_int
    have f2 := AutoSeq1.sub_tuple_tuple
    have f3 := AutoSeq1.sub_list_list
    have f4 := AutoSeq1.sub_tuple_list
    have f5 := AutoSeq1.sub_list_tuple
    have hz2 : (items ++ items2).size ≤ sizeLine + 1 := by rw [Array.size_append]; exact g2
    wp_walk using (wpAny_updateSeq hl rfl (hz := g1) (_hz' := hz2)), AutoSeq1.wpAny_loadPart' hl, AutoSeq1.wpAny_loadPart' hb
    exact ⟨_, rfl, hr⟩
end Tw

set_option Elab.async false
set_option linter.all false
set_option maxRecDepth 100000
set_option maxHeartbeats 2000000
namespace Tw
open PySem PySem.Spec PyProof.Rows L2
open Evl (Ex)
/-! ### lists that change -/
abbrev GM := List PyData → List PyData → Option (PyData × List PyData)
/-- a method that changes its list -/
def MutD (K : PySem.W.Frag) (r : V → List V → Hp → VK → Prop) (g : GM) : Prop :=
  ∀ (G H : Hp) (l : Addr) (xs ws : List V) (ms ds ms' : List PyData) (z : PyData) (Q : VK), Ex G H → G l = none → H l = some (.lst xs) → Da K G xs ms → Da K G ws ds → g ms ds = some (z, ms') →
    (∀ v xs', Dt K G v z → Da K G xs' ms' → Q v (upd H l (.lst xs'))) → r (.ref l) ws H Q
def fMet (i : Nat) (g : GM) (ra : FE (List PyData)) : FE PyData := fun ρ => match ρ[i]? with
  | some (.m (.l _)) => thnE ra (fun ds ρ1 => match ρ1[i]? with
    | some (.m (.l ms)) => (g ms ds).map fun p => (p.1, ρ1.set i (.m (.l p.2)))
    | _ => none) ρ
  | _ => none
section
variable {K : PySem.W.Frag} {G H G1 H1 : Hp} {σ : L2.St} {ρ ρ1 : Rho} {b : Bool}
theorem tr_cell {l : Addr} {xs xs' : List V} (hG : G l = none) (hH : H l = some (.lst xs)) : Tr (fun a => a = l) G H G (upd H l (.lst xs')) where
  g := fun _ _ q => q
  h := fun x u q n => by rw [upd_ne n]; exact q
  n := fun _ _ _ q _ => q
  k := fun x u q => by
    by_cases z : x = l
    · subst z; exact ⟨_, upd_same⟩
    · exact ⟨u, by rw [upd_ne z]; exact q⟩
theorem ex_cell {l : Addr} {o : HO} (ex : Ex G H) (hG : G l = none) : Ex G (upd H l o) := fun x u q => by
  rw [upd_ne fun z => by subst z; rw [hG] at q; cases q]
  exact ex x u q
end
section
variable {X : Cx} {e o a c tg iter elt : Expr} {es ifs : List Expr} {pos : Pos} {bb : Bool} {P : List Nat} {K : PySem.W.Frag}
theorem met_run {r : V → List V → Hp → VK → Prop} {g : GM} {ra : FE (List PyData)} {i : Nat} (hr : MutD X.K r g) {σ : L2.St} {H : Hp} {Q : VK} (h : tE X.K true (fMet i g ra) σ H Q) :
    tBM X.K "list" r (tVar i) (tA X.K true ra) σ H Q := by
  obtain ⟨G, ρ, d, ρ', E, ef, k⟩ := h
  unfold fMet at ef
  split at ef
  case h_2 => cases ef
  rename_i ms0 hi0
  obtain ⟨ds, ρ1, h1, h2⟩ := thnE_of ef
  split at h2
  case h_2 => cases h2
  rename_i ms hi
  obtain ⟨⟨z, ms'⟩, h3, h4⟩ := Option.map_eq_some_iff.mp h2
  cases h4
  obtain ⟨l, xs0, hσ, _, hH0, _⟩ := E.muL hi0
  refine ⟨.ref l, hσ, .inl ⟨rfl, xs0, .inl (Rd.of hH0)⟩, G, ρ, ds, ρ1, E, h1, fun ws G1 H1 t1 o1 E1 d1 => ?_⟩
  obtain ⟨l2, xs, hσ2, hG, hH, dx⟩ := E1.muL hi
  rw [hσ] at hσ2
  cases hσ2
  refine hr G1 H1 l xs ws ms ds ms' _ Q E1.ex hG hH dx d1 h3 fun v xs' dv dx' => ?_
  have own1 : own σ ρ1 l := ⟨i, ms, hi, hσ⟩
  have t2 : Tr (fun a => a = l) G1 H1 G1 (upd H1 l (.lst xs')) := tr_cell hG hH
  exact k v G1 _ (t1.trans t2 fun a _ _ q => ⟨rfl, by rw [q]; exact o1 l own1⟩) (fun l' q => o1 l' (own_setM hi q)) (env_setM E1 hi hσ t2 (ex_cell E1.ex hG) hG upd_same (.l dx')) dv
theorem e_met {r : V → List V → Hp → VK → Prop} {g : GM} {ra : FE (List PyData)} (i : Nat) (hr : MutD X.K r g) (h : PE X e (tBM X.K "list" r (tVar i) (tA X.K true ra))) : PE X e (tE X.K true (fMet i g ra)) :=
  PE.weak h fun _ _ _ h => met_run hr h
theorem e_met0 {r : V → List V → Hp → VK → Prop} {g : GM} (i : Nat) (hr : MutD X.K r g) (h : PE X e (tBM0 X.K "list" r (tVar i))) : PE X e (tE X.K true (fMet i g (ret []))) :=
  PE.weak h fun σ H Q h => by
    obtain ⟨v, hσ, ty, G, ρ, ds, ρ1, E, h1, k⟩ := met_run hr h
    obtain ⟨rfl, rfl⟩ := ret_of h1
    exact ⟨v, hσ, ty, k [] G H .refl (fun _ q => q) E .nil⟩
def appG : GM := fun ms ds => match ds with
  | [d] => if ms.length < 100000 then some (.none, ms ++ [d]) else none
  | _ => none
theorem m_app : MutD K rAppend appG := fun G H l xs ws ms ds ms' z Q ex hG hH dx dw hg k => by
  unfold appG at hg
  split at hg
  · obtain ⟨h1, h2⟩ := ite_p hg
    cases h2
    obtain ⟨v, rfl, dv⟩ := da_one dw
    exact ⟨l, xs, v, rfl, rfl, hH, by rw [dx.len]; exact Evl.sz_lt h1, k _ _ .nn (dx.app (Da.one dv))⟩
  · cases hg
/-- xs.extend(ys), ys a list or a tuple -/
def rExt (K : PySem.W.Frag) : V → List V → Hp → VK → Prop := fun x vs H Q => ∃ l b xs zs, x = .ref l ∧ vs = [.ref b] ∧ H l = some (.lst xs) ∧ (RL K H b zs ∨ SqT K H b zs) ∧ xs.length + zs.length ≤ sizeLine ∧ Q .non (upd H l (.lst (xs ++ zs)))
theorem mt_ext : MtR X "list.extend" (rExt X.K) := fun pins s σ H x vs v us Q I rx rv ⟨l, b, xs, zs, ex, ev, hH, hB, hz, q⟩ => by
  subst ex
  subst ev
  cases rx
  obtain ⟨u, rfl, ru⟩ := rv.one
  cases ru
  obtain ⟨z, its, n, r, hl, e⟩ := lstR I (RL.of hH)
  have room : ∀ {its2 : List Value}, Vals zs its2 → its.toArray.size + its2.toArray.size ≤ sizeLine := fun r2 => by
    rw [List.size_toArray, List.size_toArray, ← hl, ← r2.length]; exact hz
  have door : ∀ {its2 : List Value}, Vals zs its2 → ¬ (!its.toArray.isEmpty && Builtin.List.listTooLong (its.toArray.size + its2.toArray.size)) = true := fun r2 => by
    rw [notLongL (room r2), Bool.and_false]
    exact Bool.false_ne_true
  have fin : ∀ {its2 : List Value}, Vals zs its2 → EP X pins σ Q .none { s with heap := s.heap.update l (Obj.mapSeq fun x => x ++ its2.toArray), toks := s.toks } := fun {its2} r2 =>
    ⟨.non, _, I.lset (its' := its ++ its2) hH e (by simp) (r.append r2) (by rw [List.length_append]; exact hz), rfl, q⟩
  rcases hB with hB | hB
  · obtain ⟨_, its2, n2, r2, _, e2⟩ := lstR I hB
    refine call_meets F.slot_list_extend ⟨_, e, rfl⟩ F.entry_list_extend (F.args_list_extend_2 _ _)
      (AutoSeq1.list_extend_list_list_0 l its.toArray n b its2.toArray n2 (door r2) ?_ ?_) ⟨e, e2, fin r2⟩
    · rw [List.size_toArray, ← hl]; exact z
    · exact Nat.le_succ_of_le (room r2)
  · obtain ⟨its2, r2, ⟨ob, ho, hc, n2, hd⟩, _⟩ := I.tuple hB
    obtain ⟨oc, odt, od, osl⟩ := ob
    dsimp only at hc hd
    subst hc
    subst hd
    refine call_meets F.slot_list_extend ⟨_, e, rfl⟩ F.entry_list_extend (F.args_list_extend_2 _ _)
      (extend_tup l its.toArray n b odt osl its2.toArray n2 (door r2) ?_ ?_) ⟨e, ho, fin r2⟩
    · rw [List.size_toArray, ← hl]; exact z
    · exact Nat.le_succ_of_le (room r2)
def extG : GM := fun ms ds => match ds with
  | [.list es] => if sizeOk (ms.length + es.length) = true then some (.none, ms ++ es) else none
  | [.tuple es] => if sizeOk (ms.length + es.length) = true then some (.none, ms ++ es) else none
  | _ => none
theorem m_ext : MutD K (rExt K) extG := fun G H l xs ws ms ds ms' z Q ex hG hH dx dw hg k => by
  unfold extG at hg
  split at hg
  · obtain ⟨h1, h2⟩ := ite_p hg
    cases h2
    obtain ⟨v, rfl, dv⟩ := da_one dw
    obtain ⟨b, ys, rfl, hy, dy⟩ := dt_list dv
    exact ⟨l, b, xs, ys, rfl, rfl, hH, .inl (hy.mono ex), by rw [dx.len, dy.len]; exact sizeOk_le h1, k _ _ .nn (dx.app dy)⟩
  · obtain ⟨h1, h2⟩ := ite_p hg
    cases h2
    obtain ⟨v, rfl, dv⟩ := da_one dw
    obtain ⟨b, ys, rfl, hy, dy⟩ := dt_tup dv
    exact ⟨l, b, xs, ys, rfl, rfl, hH, .inr (Evl.ex_t ex hy), by rw [dx.len, dy.len]; exact sizeOk_le h1, k _ _ .nn (dx.app dy)⟩
  · cases hg
/-- xs.pop(i), xs.pop() -/
def popG : GM := fun ms ds => match ds with
  | [.int i] => if -(2 ^ 63) ≤ i ∧ i < 2 ^ 63 then (seqIndex? i ms.length).bind fun k => (ms[k]?).map fun d => (d, ms.eraseIdx k) else none
  | _ => none
theorem Da.erase {G : Hp} : ∀ {vs : List V} {ds : List PyData} (i : Nat), Da K G vs ds → Da K G (vs.eraseIdx i) (ds.eraseIdx i)
  | _, _, _, .nil => .nil
  | _, _, 0, .cons _ t => t
  | _, _, i + 1, .cons h t => .cons h (Da.erase i t)
theorem m_pop : MutD K rPopAt popG := fun G H l xs ws ms ds ms' z Q ex hG hH dx dw hg k => by
  unfold popG at hg
  split at hg
  · split at hg
    · rename_i hb
      obtain ⟨j, h1, h2⟩ := Option.bind_eq_some_iff.mp hg
      obtain ⟨d, h3, h4⟩ := Option.map_eq_some_iff.mp h2
      cases h4
      obtain ⟨v, rfl, dv⟩ := da_one dw
      obtain ⟨y, h5, h6⟩ := dx.get h3
      exact ⟨l, xs, _, j, y, rfl, by rw [dt_int dv], hH, hb.1, hb.2, by rw [dx.len]; exact h1, h5, k _ _ h6 (dx.erase j)⟩
    · cases hg
  · cases hg
def popL : GM := fun ms ds => match ds with
  | [] => (ms[ms.length - 1]?).map fun d => (d, ms.dropLast)
  | _ => none
theorem Da.dropL {G : Hp} {vs : List V} {ds : List PyData} (h : Da K G vs ds) : Da K G vs.dropLast ds.dropLast := by
  rw [List.dropLast_eq_take, List.dropLast_eq_take, h.len]
  exact h.take _
theorem m_popL : MutD K rPop popL := fun G H l xs ws ms ds ms' z Q ex hG hH dx dw hg k => by
  unfold popL at hg
  split at hg
  · obtain ⟨d, h3, h4⟩ := Option.map_eq_some_iff.mp hg
    cases h4
    cases dw
    obtain ⟨y, h5, h6⟩ := dx.get h3
    exact ⟨l, xs, y, rfl, rfl, hH, by rw [dx.len]; exact h5, k _ _ h6 dx.dropL⟩
  · cases hg
/-! xs[i] = e -/
section
variable {prog : Program} {w : World} {A : Around} {E : Value → Shared → Prop} {s : Shared}
theorem put_bool {l : Addr} {items : Array Value} {n : Nat} {b : Bool} {v : Value} {Q : Unit → Shared → Prop} (ho : s.heap.get? l = some { cls := .type "list", data := .seq items n }) (hn : (bI b).toNat < items.size)
    (hQ : Q () { s with heap := s.heap.update l (Obj.mapSeq (·.setIfInBounds (bI b).toNat v)) }) : wpAny (model prog w) A (setItem (.ref l) (.bool b) v) Q E s := by
  have hl : s.heap.IsList l items := PySem.IsL.isList (n := n) ho
  unfold setItem
  try (with_reducible refine wpAny_holding ?_)
  first | refine wpAny_bind (wpAny_pure ?_) | skip
  refine wpAny_bind (wpAny_sequenceKey hl.typeIs (by decide) ?_)
  refine wpAny_bind (wpAny_callSpecial?_slot (name := Str.ofString "__setitem__") hl.typeIs slot_list_setitem (wpAny_call_entry slot_list_setitem hl.typeIs entry_list_setitem ?_ (args_list_setitem _ _ _)))
  show wpAny _ _ (Builtin.List.listSubscript? (.bool b) >>= _) _ _ s
  refine wpAny_bind (sub_bool ?_)
  have hb : bI b = (((bI b).toNat : Nat) : Int) := by cases b <;> rfl
  rw [hb]
  generalize (bI b).toNat = j at hn hQ
  have hx : items[j]? = some items[j] := Array.getElem?_eq_getElem hn
  show wpAny _ _ ((seqItemAt l j >>= fun r => pure (r.map (j, ·))) >>= _) _ _ s
  refine wpAny_bind (wpAny_bind (wpAny_seqItemAt ho rfl (wpAny_pure ?_)))
  rw [hx]
  show wpAny _ _ (setSeqItemAt l j v >>= _) _ _ s
  refine wpAny_bind (wpAny_setSeqItemAt ho rfl ?_)
  first
    | exact wpAny_bind (wpAny_pure (wpAny_pure ⟨.none, rfl, wpAny_pure hQ⟩))
    | exact wpAny_pure ⟨.none, rfl, wpAny_pure hQ⟩
end
def rSetB : TSet := fun o i v H Q => ∃ p xs b, o = .ref p ∧ i = .bl b ∧ H p = some (.lst xs) ∧ (bI b).toNat < xs.length ∧ Q (upd H p (.lst (xs.set (bI b).toNat v)))
def rSet2 : TSet := fun o i v H Q => rSetL o i v H Q ∨ rSetB o i v H Q
theorem set_list2 : PSet X rSet2 := fun pins s σ H o i v ov iv u Q I ro ri rv h => by
  rcases h with h | ⟨p, xs, b, rfl, rfl, hp, hj, q⟩
  · exact set_list pins s σ H o i v ov iv u Q I ro ri rv h
  · cases ro
    obtain rfl : iv = Value.bool b := ri
    obtain ⟨its, n, r, ho, hz⟩ := I.lst hp
    have I' : Inv X pins σ (upd H p (.lst (xs.set (bI b).toNat v))) { s with heap := s.heap.update p (Obj.mapSeq (·.setIfInBounds (bI b).toNat u)) } :=
      I.lstUpd hp ho (mapSeq_set its n _ u) (r.set rv _) (by rw [List.length_set]; exact hz) s.toks
    exact put_bool ho (by rw [List.size_toArray, ← r.length]; exact hj) ⟨_, I', q⟩
/-- the place that is told -/
def plI (n : Nat) : PyData → Option Nat
  | .int k => ixN n k
  | .bool b => if (bI b).toNat < n then some (bI b).toNat else none
  | _ => none
def fSetI (i : Nat) (fe fi : FE PyData) : FS := fun ρ => (fe ρ).bind fun p => match p.2[i]? with
  | some (.m (.l _)) => (fi p.2).bind fun q => match q.2[i]? with
    | some (.m (.l ms)) => (plI ms.length q.1).map fun j => .nx (q.2.set i (.m (.l (ms.set j p.1))))
    | _ => none
  | _ => none
theorem s_setI {fe fi : FE PyData} (i : Nat) {tg : Expr} (ht : PG X tg (gSub (tVar i) (tE X.K true fi) rSet2)) (he : PE X e (tE X.K true fe)) (hs : swapsWithSole [tg] e pos.line X.env = pure false := by rfl) (hw : swappedStores [tg] e X.env = pure none := by rfl)
    (h1 : (assignEach [tg] X.env).map (·.2) = [assign tg X.env] := by rfl) : PS X (.Assign [tg] e pos) (tS X.K P (fSetI i fe fi)) := PS.weak (ps_asg he ht hs hw h1) fun D σ H ⟨G, ρ, o, E, ef, k⟩ => by
  obtain ⟨⟨d, ρ1⟩, q1, q2⟩ := Option.bind_eq_some_iff.mp ef
  dsimp only at q2
  split at q2
  case h_2 => cases q2
  rename_i ms0 hi0
  obtain ⟨⟨dk, ρ2⟩, q3, q4⟩ := Option.bind_eq_some_iff.mp q2
  dsimp only at q4
  split at q4
  case h_2 => cases q4
  rename_i ms hi
  obtain ⟨j, hj, rfl⟩ := Option.map_eq_some_iff.mp q4
  refine ⟨G, ρ, d, ρ1, E, q1, fun v G1 H1 t1 o1 E1 d1 => ?_⟩
  obtain ⟨l, xs0, hσ, _, _, _⟩ := E1.muL hi0
  refine ⟨.ref l, hσ, G1, ρ1, _, ρ2, E1, q3, fun w G2 H2 t2 o2 E2 d2 => ?_⟩
  obtain ⟨l2, xs, hσ2, hG, hH, dx⟩ := E2.muL hi
  rw [hσ] at hσ2
  cases hσ2
  have own2 : own σ ρ2 l := ⟨i, ms, hi, hσ⟩
  have s12 : Stp P G H σ ρ G2 H2 σ ρ2 := (Stp.of t1 o1).trans (.of t2 o2)
  have fin : D.nx σ (upd H2 l (.lst (xs.set j v))) := by
    have t3 : Tr (fun a => a = l) G2 H2 G2 (upd H2 l (.lst (xs.set j v))) := tr_cell hG hH
    refine k σ G2 _ (s12.trans ⟨t3.wide fun a _ _ q => by rw [q]; exact own2, fun l' q => .inl (own_setM hi q), fun _ _ => rfl⟩) ?_
    exact env_setM E2 hi hσ t3 (ex_cell E2.ex hG) hG upd_same (.l (Da.set j (d1.mono t2.g) dx))
  unfold plI at hj
  split at hj
  · exact .inl ⟨l, xs, _, j, rfl, dt_int d2, hH, by rw [dx.len]; exact hj, fin⟩
  · obtain ⟨h3, rfl⟩ := ite_p hj
    exact .inr ⟨l, xs, _, rfl, dt_bool d2, hH, by rw [dx.len]; exact h3, fin⟩
  · cases hj
/-! ### x = a new list of one's own -/
def fOwn (f : FE (List PyData)) (i : Nat) : FS := fun ρ => (f ρ).bind fun p => if i < p.2.length then some (.nx (p.2.set i (.m (.l p.1)))) else none
theorem own_run {f : FE (List PyData)} {i : Nat} (hp : i ∉ P) {σ : L2.St} {H : Hp} {D : Ends} (h : tS X.K P (fOwn f i) D σ H) : tAsg (tF X.K bb f) (gName i) D σ H := by
  obtain ⟨G, ρ, o, E, ef, k⟩ := h
  obtain ⟨⟨ds, ρ1⟩, q1, q2⟩ := Option.bind_eq_some_iff.mp ef
  obtain ⟨hi, rfl⟩ := ite_p q2
  refine ⟨G, ρ, ds, ρ1, E, q1, fun p xs G1 H1 h0 hG hH da t o1 E1 => ?_⟩
  have hi' : i < σ.length := by rw [E1.len]; exact hi
  have own' : ∀ l, own (σ.set i (some (.ref p))) (ρ1.set i (.m ds)) l → l = p ∨ own σ ρ1 l := fun l ⟨j, es, w1, w2⟩ => by
    rcases set_get w1 with ⟨rfl, _⟩ | ⟨n, w1⟩
    · rw [List.getElem?_set_self hi'] at w2
      cases w2
      exact .inl rfl
    · rw [List.getElem?_set_ne (Ne.symm n)] at w2
      exact .inr ⟨j, es, w1, w2⟩
  have notp : ¬ own σ ρ1 p := fun q => by
    obtain ⟨ys, z⟩ := own_there E (o1 p q)
    rw [h0] at z
    cases z
  refine k _ G1 H1 ⟨t.wide fun _ _ _ q => q.2, fun l q => (own' l q).elim (fun z => .inr (by rw [z]; exact h0)) fun z => .inl (o1 l z), fun j hj => List.getElem?_set_ne fun z => hp (by rw [z]; exact hj)⟩ ?_
  exact {
    ex := E1.ex
    len := by rw [List.length_set, List.length_set]; exact E1.len
    dat := fun j d q => by
      rcases set_get q with ⟨_, q⟩ | ⟨n, q⟩
      · cases q
      · rw [List.getElem?_set_ne (Ne.symm n)]
        exact E1.dat j d q
    mu := fun j d q => by
      rcases set_get q with ⟨ej, qq⟩ | ⟨n, qq⟩
      · cases qq
        rw [ej]
        exact ⟨p, _, List.getElem?_set_self hi', hG, hH, .l da⟩
      · rw [List.getElem?_set_ne (Ne.symm n)]
        exact E1.mu j d qq
    ne := fun a b d1 d2 l w1 w2 w3 w4 => by
      rcases set_get w1 with ⟨ea, _⟩ | ⟨na, w1⟩
      · rcases set_get w2 with ⟨eb, _⟩ | ⟨nb, w2⟩
        · rw [ea, eb]
        · rw [ea, List.getElem?_set_self hi'] at w3
          cases w3
          rw [List.getElem?_set_ne (Ne.symm nb)] at w4
          exact (notp ⟨b, d2, w2, w4⟩).elim
      · rcases set_get w2 with ⟨eb, _⟩ | ⟨nb, w2⟩
        · rw [eb, List.getElem?_set_self hi'] at w4
          cases w4
          rw [List.getElem?_set_ne (Ne.symm na)] at w3
          exact (notp ⟨a, d1, w1, w3⟩).elim
        · rw [List.getElem?_set_ne (Ne.symm na)] at w3
          rw [List.getElem?_set_ne (Ne.symm nb)] at w4
          exact E1.ne a b d1 d2 l w1 w2 w3 w4 }
theorem s_own {f : FE (List PyData)} (i : Nat) {tg : Expr} (hp : i ∉ P) (he : PE X e (tF X.K bb f)) (ht : PG X tg (gName i)) (hs : swapsWithSole [tg] e pos.line X.env = pure false := by rfl) (hw : swappedStores [tg] e X.env = pure none := by rfl)
    (h1 : (assignEach [tg] X.env).map (·.2) = [assign tg X.env] := by rfl) : PS X (.Assign [tg] e pos) (tS X.K P (fOwn f i)) := PS.weak (ps_asg he ht hs hw h1) fun _ _ _ h => own_run hp h
/-! ### a list of one's own, looked at; made data -/
def atom : PyData → Bool
  | .none | .bool _ | .int _ | .str _ => true
  | _ => false
theorem atom_dt {G G' : Hp} {v : V} {d : PyData} (h : Dt K G v d) (a : atom d = true) : Dt K G' v d := by
  cases h with
  | nn => exact .nn
  | bb b => exact .bb b
  | ii i => exact .ii i
  | ss x => exact .ss x
  | ll _ _ => cases a
  | tt _ _ => cases a
  | dd _ _ => cases a
/-- the slot i as data -/
def froz (i : Nat) (ρ : Rho) : Option Rho := match ρ[i]? with
  | some (.m (.l ds)) => some (ρ.set i (.d (.list ds)))
  | some (.m (.k es)) => some (ρ.set i (.d (.dict es)))
  | _ => none
theorem fz_dt {ρ ρ' : Rho} {i : Nat} (h : froz i ρ = some ρ') : ∃ u d, ρ[i]? = some (.m u) ∧ ρ' = ρ.set i (.d d) ∧ ∀ (G : Hp) (o : HO) (l : Addr), G l = some o → MuOk K G o u → Dt K G (.ref l) d := by
  unfold froz at h
  split at h
  · rename_i ds hi
    cases h
    exact ⟨_, _, hi, rfl, fun G o l e m => by
      cases m with
      | l m => exact .ll (RL.of e) m⟩
  · rename_i es hi
    cases h
    exact ⟨_, _, hi, rfl, fun G o l e m => by
      cases m with
      | k m => exact .dd e m⟩
  · cases h
theorem env_fz {G H : Hp} {σ : L2.St} {ρ ρ' : Rho} {i : Nat} (E : EnvOk K G H σ ρ) (h : froz i ρ = some ρ') : ∃ l xs, own σ ρ l ∧ G l = none ∧ H l = some xs ∧ EnvOk K (upd G l xs) H σ ρ' ∧ (∀ a, own σ ρ' a → own σ ρ a) := by
  obtain ⟨ds, dd, hi, rfl, fz⟩ := fz_dt (K := K) h
  obtain ⟨l, xs, hσ, hG, hH, dx⟩ := E.mu i ds hi
  have ow : own σ ρ l := ⟨i, ds, hi, hσ⟩
  have sub : ∀ a, own σ (ρ.set i (.d dd)) a → own σ ρ a := fun a ⟨j, es, w1, w2⟩ => by
    rcases set_get w1 with ⟨_, q⟩ | ⟨_, q⟩
    · cases q
    · exact ⟨j, es, q, w2⟩
  refine ⟨l, xs, ow, hG, hH, ⟨ex_put E.ex hH hG, by rw [List.length_set]; exact E.len, fun j d q => ?_, fun j d q => ?_, fun a b d1 d2 l' w1 w2 => ?_⟩, sub⟩
  · rcases set_get q with ⟨ej, qq⟩ | ⟨n, qq⟩
    · cases qq
      rw [ej]
      exact ⟨.ref l, hσ, fz _ _ _ upd_same (dx.mono (ex_add hG))⟩
    · obtain ⟨v, h1, h2⟩ := E.dat j d qq
      exact ⟨v, h1, h2.mono (ex_add hG)⟩
  · rcases set_get q with ⟨ej, qq⟩ | ⟨n, qq⟩
    · cases qq
    · obtain ⟨l', ys, h1, h2, h3, h4⟩ := E.mu j d qq
      refine ⟨l', ys, h1, ?_, h3, h4.mono (ex_add hG)⟩
      rw [upd_ne fun z => n (E.ne j i d ds l qq hi (by rw [← z]; exact h1) hσ)]
      exact h2
  · rcases set_get w1 with ⟨_, q⟩ | ⟨_, w1⟩
    · cases q
    rcases set_get w2 with ⟨_, q⟩ | ⟨_, w2⟩
    · cases q
    exact E.ne a b d1 d2 l' w1 w2
theorem ows_false {σ : L2.St} {ρ : Rho} {a : Addr} (h : ows false σ ρ a) : False := by cases h.1
/-- what is told of a list of one's own, itself not handed on -/
def fPeek (i : Nat) (f : FE PyData) : FE PyData := fun ρ => (froz i ρ).bind fun ρ1 => (f ρ1).bind fun p => if atom p.1 = true then some (p.1, ρ) else none
theorem e_peek {f : FE PyData} (i : Nat) (h : PE X e (tE X.K false f)) : PE X e (tE X.K bb (fPeek i f)) := PE.weak h fun σ H Q ⟨G, ρ, d, ρ', E, ef, k⟩ => by
  obtain ⟨ρ1, q1, q2⟩ := Option.bind_eq_some_iff.mp ef
  obtain ⟨⟨z, ρ2⟩, q3, q4⟩ := Option.bind_eq_some_iff.mp q2
  obtain ⟨ha, q5⟩ := ite_p q4
  cases q5
  obtain ⟨l, xs, ow, hG, hH, E1, _⟩ := env_fz E q1
  refine ⟨_, ρ1, _, ρ2, E1, q3, fun v G1 H1 t1 o1 E2 d1 => ?_⟩
  have t : Tr nobody G H G H1 := ⟨fun _ _ q => q, fun a u q _ => t1.h a u q ows_false, fun _ _ _ q _ => q, t1.k⟩
  exact k v G H1 t.none (fun _ q => q) (E.tr t fun a u q => E2.ex a u (t1.g a u (ex_add hG a u q))) (atom_dt d1 ha)
def tPeek (i : Nat) (f : FE Bool) : FE Bool := fun ρ => (froz i ρ).bind fun ρ1 => (f ρ1).map fun p => (p.1, ρ)
theorem t_peek {f : FE Bool} (i : Nat) (h : PT X e (tT X.K false f)) : PT X e (tT X.K bb (tPeek i f)) := PT.weak h fun σ H Q ⟨G, ρ, d, ρ', E, ef, k⟩ => by
  obtain ⟨ρ1, q1, q2⟩ := Option.bind_eq_some_iff.mp ef
  obtain ⟨⟨z, ρ2⟩, q3, q4⟩ := Option.map_eq_some_iff.mp q2
  cases q4
  obtain ⟨l, xs, ow, hG, hH, E1, _⟩ := env_fz E q1
  refine ⟨_, ρ1, _, ρ2, E1, q3, fun G1 H1 t1 o1 E2 => ?_⟩
  have t : Tr nobody G H G H1 := ⟨fun _ _ q => q, fun a u q _ => t1.h a u q ows_false, fun _ _ _ q _ => q, t1.k⟩
  exact k G H1 t.none (fun _ q => q) (E.tr t fun a u q => E2.ex a u (t1.g a u (ex_add hG a u q)))
def fFrz (i : Nat) (f : FS) : FS := fun ρ => (froz i ρ).bind f
theorem ss_frz {sts : List Stmt} {f : FS} (i : Nat) (h : PSs X sts (tS X.K P f)) : PSs X sts (tS X.K P (fFrz i f)) := PSs.weak h fun D σ H ⟨G, ρ, o, E, ef, k⟩ => by
  obtain ⟨ρ1, q1, q2⟩ := Option.bind_eq_some_iff.mp ef
  obtain ⟨l, xs, ow, hG, hH, E1, sub⟩ := env_fz E q1
  refine ⟨_, ρ1, o, E1, q2, k.pre ⟨⟨ex_add hG, fun a u q _ => q, fun a u q g n => ?_, fun a u q => ⟨u, q⟩⟩, fun a q => .inl (sub a q), fun _ _ => rfl⟩⟩
  rw [upd_ne fun z => n (by rw [z]; exact ow)]
  exact g
end
end Tw

set_option Elab.async false
set_option linter.all false
set_option maxRecDepth 100000
set_option maxHeartbeats 2000000
namespace Tw
open PySem PySem.Spec PyProof.Rows L2
open Evl (Ex)
/-! ### comprehensions -/
def wipeR (ρ : Rho) : List Nat → Rho
  | [] => ρ
  | v :: vs => (wipeR ρ vs).set v .un
/-- the slots vs as they were in ρ0, the others as in ρ -/
def backR (ρ0 : Rho) (ρ : Rho) : List Nat → Rho
  | [] => ρ
  | v :: vs => (backR ρ0 ρ vs).set v (match ρ0[v]? with
    | some (.d x) => .d x
    | _ => .un)
section
variable {K : PySem.W.Frag} {G H G1 H1 : Hp} {σ σ2 : L2.St} {ρ ρ0 ρ1 : Rho} {b : Bool}
theorem wipeR_len (ρ : Rho) : ∀ vs : List Nat, (wipeR ρ vs).length = ρ.length
  | [] => rfl
  | v :: vs => by
    show ((wipeR ρ vs).set v .un).length = ρ.length
    rw [List.length_set, wipeR_len ρ vs]
theorem backR_len (ρ0 ρ : Rho) : ∀ vs : List Nat, (backR ρ0 ρ vs).length = ρ.length
  | [] => rfl
  | v :: vs => by
    show ((backR ρ0 ρ vs).set v _).length = ρ.length
    rw [List.length_set, backR_len ρ0 ρ vs]
theorem wipeR_get {j : Nat} {x : Sl} : ∀ {vs : List Nat}, (wipeR ρ vs)[j]? = some x → x = .un ∨ (j ∉ vs ∧ ρ[j]? = some x)
  | [], h => .inr ⟨List.not_mem_nil, h⟩
  | v :: vs, h => by
    rcases set_get (show ((wipeR ρ vs).set v .un)[j]? = some x from h) with ⟨_, q⟩ | ⟨n, q⟩
    · exact .inl q
    · rcases wipeR_get q with q | ⟨q1, q2⟩
      · exact .inl q
      · exact .inr ⟨fun z => (List.mem_cons.mp z).elim n q1, q2⟩
theorem backR_get {j : Nat} {x : Sl} : ∀ {vs : List Nat}, (backR ρ0 ρ vs)[j]? = some x → (j ∈ vs ∧ (x = .un ∨ ∃ y, x = .d y ∧ ρ0[j]? = some (.d y))) ∨ (j ∉ vs ∧ ρ[j]? = some x)
  | [], h => .inr ⟨List.not_mem_nil, h⟩
  | v :: vs, h => by
    rcases set_get (show ((backR ρ0 ρ vs).set v _)[j]? = some x from h) with ⟨ej, q⟩ | ⟨n, q⟩
    · refine .inl ⟨by rw [ej]; exact List.mem_cons_self, ?_⟩
      rw [q, ej]
      split
      · rename_i y hy
        exact .inr ⟨y, rfl, hy⟩
      · exact .inl rfl
    · rcases backR_get q with ⟨q1, q2⟩ | ⟨q1, q2⟩
      · exact .inl ⟨List.mem_cons_of_mem _ q1, q2⟩
      · exact .inr ⟨fun z => (List.mem_cons.mp z).elim n q1, q2⟩
theorem wipe_at {vs : List Nat} {j : Nat} (h : j ∉ vs) : (wipe σ vs)[j]? = σ[j]? := L2.wipe_out h
theorem env_wipe (E : EnvOk K G H σ ρ) (vs : List Nat) : EnvOk K G H (wipe σ vs) (wipeR ρ vs) where
  ex := E.ex
  len := by rw [wipe_length, wipeR_len]; exact E.len
  dat := fun i d q => by
    rcases wipeR_get q with q | ⟨n, q⟩
    · cases q
    · rw [wipe_at n]; exact E.dat i d q
  mu := fun i d q => by
    rcases wipeR_get q with q | ⟨n, q⟩
    · cases q
    · rw [wipe_at n]; exact E.mu i d q
  ne := fun i j d1 d2 l w1 w2 w3 w4 => by
    rcases wipeR_get w1 with q | ⟨n1, q1⟩
    · cases q
    rcases wipeR_get w2 with q | ⟨n2, q2⟩
    · cases q
    rw [wipe_at n1] at w3
    rw [wipe_at n2] at w4
    exact E.ne i j d1 d2 l q1 q2 w3 w4
theorem own_wipe {vs : List Nat} {l : Addr} (h : own (wipe σ vs) (wipeR ρ vs) l) : own σ ρ l := by
  obtain ⟨j, d, w1, w2⟩ := h
  rcases wipeR_get w1 with q | ⟨n, q⟩
  · cases q
  · exact ⟨j, d, q, by rw [← wipe_at n]; exact w2⟩
/-- from within: the slots as they were -/
theorem env_back {vs : List Nat} (E0 : EnvOk K G H σ ρ0) (E : EnvOk K G1 H1 (wipe σ vs) ρ) (g : Ex G G1) : EnvOk K G1 H1 σ (backR ρ0 ρ vs) where
  ex := E.ex
  len := by rw [backR_len, ← E.len, wipe_length]
  dat := fun i d q => by
    rcases backR_get q with ⟨_, q | ⟨y, q, h0⟩⟩ | ⟨n, q⟩
    · cases q
    · cases q
      obtain ⟨v, h1, h2⟩ := E0.dat i d h0
      exact ⟨v, h1, h2.mono g⟩
    · rw [← wipe_at n]; exact E.dat i d q
  mu := fun i d q => by
    rcases backR_get q with ⟨_, q | ⟨y, q, h0⟩⟩ | ⟨n, q⟩
    · cases q
    · cases q
    · rw [← wipe_at n]; exact E.mu i d q
  ne := fun i j d1 d2 l w1 w2 w3 w4 => by
    rcases backR_get w1 with ⟨_, q | ⟨y, q, h0⟩⟩ | ⟨n1, q1⟩
    · cases q
    · cases q
    rcases backR_get w2 with ⟨_, q | ⟨y, q, h0⟩⟩ | ⟨n2, q2⟩
    · cases q
    · cases q
    rw [← wipe_at n1] at w3
    rw [← wipe_at n2] at w4
    exact E.ne i j d1 d2 l q1 q2 w3 w4
theorem own_back {vs : List Nat} {l : Addr} (h : own σ (backR ρ0 ρ vs) l) : own (wipe σ vs) ρ l := by
  obtain ⟨j, d, w1, w2⟩ := h
  rcases backR_get w1 with ⟨_, q | ⟨y, q, h0⟩⟩ | ⟨n, q⟩
  · cases q
  · cases q
  · exact ⟨j, d, q, by rw [wipe_at n]; exact w2⟩
/-- slots that a target within may not store -/
def compl (n : Nat) (vs : List Nat) : List Nat := (List.range n).filter fun j => decide (j ∉ vs)
theorem wipe_eq {vs : List Nat} {n : Nat} (hn : σ.length = n) (hl : σ2.length = n) (h : ∀ j ∈ compl n vs, σ2[j]? = (wipe σ vs)[j]?) : wipe σ2 vs = wipe σ vs := by
  apply List.ext_getElem?
  intro j
  by_cases hj : j ∈ vs
  · have w : ∀ {τ : L2.St} {ws : List Nat}, j ∈ ws → (wipe τ ws)[j]? = if j < τ.length then some none else none := fun {τ ws} m => by
      induction ws with
      | nil => cases m
      | cons v ws ih =>
        show ((wipe τ ws).set v none)[j]? = _
        by_cases e : j = v
        · subst e
          rw [List.getElem?_set_self']
          by_cases hlt : j < τ.length
          · rw [if_pos hlt, List.getElem?_eq_getElem (by rw [wipe_length]; exact hlt)]
            rfl
          · rw [if_neg hlt, List.getElem?_eq_none (by rw [wipe_length]; omega)]
            rfl
        · rw [List.getElem?_set_ne (Ne.symm e)]
          exact ih ((List.mem_cons.mp m).elim (fun z => absurd z e) id)
    rw [w hj, w hj, hn, hl]
  · rw [wipe_at hj, wipe_at hj]
    by_cases hlt : j < n
    · rw [h j (List.mem_filter.mpr ⟨List.mem_range.mpr hlt, decide_eq_true hj⟩), wipe_at hj]
    · rw [List.getElem?_eq_none (by omega), List.getElem?_eq_none (by omega)]
end
def lcF (ft : FG) (tt : FE Bool) (fe : FE PyData) (vs : List Nat) : List PyData → FE (List PyData)
  | [], ρ => some ([], ρ)
  | d :: ds, ρ => (ft d ρ).bind fun ρ1 => (tt ρ1).bind fun p => if p.1 = true then (fe p.2).bind fun q => (lcF ft tt fe vs ds (wipeR q.2 vs)).map fun r => (q.1 :: r.1, r.2) else lcF ft tt fe vs ds (wipeR p.2 vs)
def fLc (fi : FE (List PyData)) (ft : FG) (tt : FE Bool) (fe : FE PyData) (vs : List Nat) : FE (List PyData) := fun ρ => (fi ρ).bind fun p => if sizeOk p.1.length = true then (lcF ft tt fe vs p.1 (wipeR p.2 vs)).map fun q => (q.1, backR p.2 q.2 vs) else none
section
variable {X : Cx} {e elt tg iter : Expr} {ifs : List Expr} {pos : Pos} {bb : Bool}
theorem lc_run {wk : Bool} {n : Nat} {fi : FE (List PyData)} {ft : FG} {tt : FE Bool} {fe : FE PyData} {vs : List Nat} {σ : L2.St} {H : Hp} {Q : VK} (hn : σ.length = n) (h : tF X.K bb (fLc fi ft tt fe vs) σ H Q) :
    tLc (tIw wk X.K bb fi) (tGw wk X.K (compl n vs) ft) (tT X.K bb tt) (tE X.K bb fe) vs σ H Q := by
  obtain ⟨G, ρ, ys, ρ', E, ef, k⟩ := h
  obtain ⟨⟨ds, ρ1⟩, h1, h2⟩ := Option.bind_eq_some_iff.mp ef
  obtain ⟨hz, h3⟩ : sizeOk ds.length = true ∧ (lcF ft tt fe vs ds (wipeR ρ1 vs)).map (fun q => (q.1, backR ρ1 q.2 vs)) = some (ys, ρ') := by
    dsimp only at h2
    by_cases q : sizeOk ds.length = true
    · rw [if_pos q] at h2; exact ⟨q, h2⟩
    · rw [if_neg q] at h2; cases h2
  obtain ⟨⟨ys', ρe⟩, h4, h5⟩ := Option.map_eq_some_iff.mp h3
  cases h5
  dsimp only at k
  refine ⟨G, ρ, ds, ρ1, E, h1, fun J G1 H1 t1 o1 E1 W D hD => ?_⟩
  have E0 := env_wipe E1 vs
  have hD0 : H D = none := tr_back t1 hD
  have notD : ∀ {a : Addr}, own (wipe σ vs) (wipeR ρ1 vs) a → a ≠ D := fun {a} q z => by
    obtain ⟨xs, w⟩ := own_there E0 q
    rw [z, hD] at w
    cases w
  let Inv' : Nat → Hp → Prop := fun i H' => ∃ G' ρ2 acc accd rest, EnvOk X.K G' H' (wipe σ vs) ρ2 ∧ Tr (fun a => ows bb (wipe σ vs) (wipeR ρ1 vs) a ∨ a = D) G1 (upd H1 D (.lst [])) G' H' ∧ G' D = none ∧ H' D = some (.lst acc) ∧ Da X.K G' acc accd ∧
    (∀ l, own (wipe σ vs) ρ2 l → own (wipe σ vs) (wipeR ρ1 vs) l) ∧ lcF ft tt fe vs (ds.drop i) ρ2 = some (rest, ρe) ∧ accd ++ rest = ys' ∧ acc.length ≤ i
  have start0 : Inv' 0 (upd H1 D (.lst [])) := ⟨G1, wipeR ρ1 vs, [], [], ys', E0.tr (tr_mk0 hD) (ex_new E1.ex hD), .refl, E1.gn hD, upd_same, .nil, fun _ q => q, h4, rfl, Nat.zero_le _⟩
  refine ⟨fun i m H' => m = ds.length - i ∧ i ≤ ds.length ∧ Inv' i H', ⟨ds.length, by omega, Nat.zero_le _, start0⟩, ?_⟩
  rintro i m H' ⟨rfl, hi, G', ρ2, acc, accd, rest, E', t', gD, hDl, da, oo, hf, ea, hlen⟩
  have exG : Ex G1 H' := fun a u z => E'.ex a u (t'.g a u z)
  by_cases hlt : i < ds.length
  · have ed : ds.drop i = ds[i] :: ds.drop (i + 1) := List.drop_eq_getElem_cons hlt
    rw [ed] at hf
    obtain ⟨ρ3, q1, q2⟩ := Option.bind_eq_some_iff.mp hf
    obtain ⟨⟨b, ρ4⟩, q3, q4⟩ := Option.bind_eq_some_iff.mp q2
    refine .inr ⟨W.go i H' hlt exG, Inv' (i + 1), fun H2 z => ⟨ds.length - (i + 1), by omega, rfl, hlt, z⟩, fun x H2 y => ?_⟩
    obtain ⟨G3, t3, e3, d3⟩ := W.yld i H' x H2 ds[i] (List.getElem?_eq_getElem hlt) exG y G' t'.g E'.ex
    have E3 := E'.tr t3 e3
    refine ⟨G3, ρ2, ds[i], ρ3, E3, d3, q1, fun σ2 so E4 => ?_⟩
    have hl2 : σ2.length = n := by rw [so.l, wipe_length, hn]
    refine ⟨wipe_eq hn hl2 so.p, G3, ρ3, b, ρ4, E4, q3, fun G5 H5 t5 o5 E5 => ?_⟩
    have D2 : H2 D = some (.lst acc) := t3.h D _ hDl id
    have g3D : G3 D = none := t3.n D _ hDl gD id
    have own3 : ∀ {a : Addr}, own σ2 ρ3 a → own (wipe σ vs) (wipeR ρ1 vs) a := fun q => oo _ (so.o _ q)
    have nD3 : ¬ ows bb σ2 ρ3 D := fun q => notD (own3 q.2) rfl
    have D5 : H5 D = some (.lst acc) := t5.h D _ D2 nD3
    have g5D : G5 D = none := t5.n D _ D2 g3D nD3
    have T5 : Tr (fun a => ows bb (wipe σ vs) (wipeR ρ1 vs) a ∨ a = D) G1 (upd H1 D (.lst [])) G5 H5 := (t'.trans t3 fun _ _ _ q => q.elim).trans t5 fun a _ _ q => .inl ⟨q.1, own3 q.2⟩
    have toW : ∀ {ρx : Rho} {a : Addr}, (∀ l, own σ2 ρx l → own σ2 ρ4 l) → own (wipe σ vs) (wipeR ρx vs) a → own (wipe σ vs) (wipeR ρ1 vs) a := fun {ρx a} hx q => by
      rw [← wipe_eq hn hl2 so.p] at q
      exact own3 (o5 _ (hx _ (own_wipe q)))
    cases b with
    | false =>
      dsimp only
      rw [if_neg Bool.false_ne_true]
      refine ⟨G5, wipeR ρ4 vs, acc, accd, rest, ?_, T5, g5D, D5, da.mono fun a u z => t5.g a u (t3.g a u z), fun l q => toW (fun _ z => z) q, q4, ea, Nat.le_succ_of_le hlen⟩
      rw [← wipe_eq hn hl2 so.p]
      exact env_wipe E5 vs
    | true =>
      dsimp only
      rw [if_pos rfl]
      obtain ⟨⟨y0, ρ5⟩, q5, q6⟩ := Option.bind_eq_some_iff.mp (show ((fe ρ4).bind fun q => _) = some (rest, ρe) from q4)
      obtain ⟨⟨r0, ρ6⟩, q7, q8⟩ := Option.map_eq_some_iff.mp q6
      cases q8
      refine ⟨G5, ρ4, y0, ρ5, E5, q5, fun v G6 H6 t6 o6 E6 d6 => ?_⟩
      have nD4 : ¬ ows bb σ2 ρ4 D := fun q => notD (own3 (o5 _ q.2)) rfl
      have D6 : H6 D = some (.lst acc) := t6.h D _ D5 nD4
      have g6D : G6 D = none := t6.n D _ D5 g5D nD4
      refine ⟨acc, D6, Nat.lt_of_le_of_lt hlen (Nat.lt_of_lt_of_le hlt (sizeOk_le hz)), ?_⟩
      have E7 : EnvOk X.K G6 (upd H6 D (.lst (acc ++ [v]))) σ2 ρ5 := {
        ex := ex_cell E6.ex g6D
        len := E6.len
        dat := E6.dat
        mu := fun j d q => by
          obtain ⟨l, xs, w1, w2, w3, w4⟩ := E6.mu j d q
          have nl : l ≠ D := notD (own3 (o5 _ (o6 _ ⟨j, d, q, w1⟩)))
          exact ⟨l, xs, w1, w2, by rw [upd_ne nl]; exact w3, w4⟩
        ne := E6.ne }
      refine ⟨G6, wipeR ρ5 vs, acc ++ [v], accd ++ [y0], r0, ?_, ?_, g6D, upd_same, (da.mono fun a u z => t6.g a u (t5.g a u (t3.g a u z))).app (Da.one d6), fun l q => toW (fun _ z => o6 _ z) q, q7, by rw [List.append_assoc]; exact ea, by rw [List.length_append]; exact Nat.succ_le_succ hlen⟩
      · rw [← wipe_eq hn hl2 so.p]
        exact env_wipe E7 vs
      · have T6 : Tr (fun a => ows bb (wipe σ vs) (wipeR ρ1 vs) a ∨ a = D) G1 (upd H1 D (.lst [])) G6 H6 := T5.trans t6 fun a _ _ q => .inl ⟨q.1, own3 (o5 _ q.2)⟩
        exact T6.trans (tr_cell g6D D6) fun a _ _ q => .inr q
  · have en : i = ds.length := by omega
    subst en
    rw [List.drop_length] at hf
    cases hf
    rw [List.append_nil] at ea
    subst ea
    refine .inl ⟨W.stop H' exG, k D acc G' H' hD0 gD hDl da ?_ (fun l q => o1 l (own_wipe (oo l (own_back q)))) (env_back E1 E' t'.g)⟩
    have tA : Tr (ows bb (wipe σ vs) (wipeR ρ1 vs)) G1 H1 G' H' := (tr_mk0 hD).trans t' fun x o q w => w.elim id fun z => by rw [z, hD] at q; cases q
    exact t1.trans tA fun x o q w => ⟨w.1, o1 _ (own_wipe w.2)⟩
end
end Tw

set_option Elab.async false
set_option linter.all false
set_option maxRecDepth 100000
set_option maxHeartbeats 2000000
namespace Tw
open PySem PySem.Spec PyProof.Rows L2
open Evl (Ex)
section
variable {X : Cx} {e elt tg iter : Expr} {ifs : List Expr} {pos : Pos} {bb : Bool} {P : List Nat}
theorem PTs.weak {t t' : TT} (h : PTs X ifs t) (w : ∀ σ H Q, t' σ H Q → t σ H Q) : PTs X ifs t' := ⟨fun pins s σ H Q I q => h.run pins s σ H Q I (w σ H Q q)⟩
theorem ts_nil : PTs X [] (tT X.K bb (ret true)) := PTs.weak pts_nil fun σ H Q ⟨G, ρ, d, ρ', E, ef, k⟩ => by
  obtain ⟨rfl, rfl⟩ := ret_of ef
  exact k G H .refl (fun _ q => q) E
theorem ts_one {c : Expr} {t : FE Bool} (h : PT X c (tT X.K bb t)) : PTs X [c] (tT X.K bb t) := pts_one h
variable {wk : Bool} {scope : Scope} {own : List (Str × Nat)} {fi : FE (List PyData)} {ft : FG} {tt : FE Bool} {fe : FE PyData}
theorem l_lc (n : Nat) (hc : X.calm = true) (hN : X.N.Nodup) (hi : PI X tg iter (tIw wk X.K bb fi)) (ok : BlkOk X.N X.env.scope scope own)
    (hg : ∀ (s : Shared) (H : Hp) (C : Addr) (cl : List (Str × Addr)) (fp : List Addr), PG (X.blk s H scope (compEnvC scope cl C X.env) fp) tg (tGw wk X.K (compl n (own.map (·.2))) ft))
    (ht : ∀ (s : Shared) (H : Hp) (C : Addr) (cl : List (Str × Addr)) (fp : List Addr), PTs (X.blk s H scope (compEnvC scope cl C X.env) fp) ifs (tT X.K bb tt))
    (he : ∀ (s : Shared) (H : Hp) (C : Addr) (cl : List (Str × Addr)) (fp : List Addr), PE (X.blk s H scope (compEnvC scope cl C X.env) fp) elt (tE X.K bb fe)) (hn : X.N.length = n := by rfl) (hs : ∀ x, foldedSetIterable iter X.env x = pure x := by intro _; rfl) :
    PE X (.ListComp elt [⟨tg, iter, ifs, 0⟩] scope pos) (tF X.K bb (fLc fi ft tt fe (own.map (·.2)))) :=
  PE.weakI (pe_lc hc hN hi ok hg ht he hs) fun pins s σ H Q I h => lc_run (I.len.trans hn) h
/-- y = [.. for .. in ..], stored straight -/
theorem s_setLc {i : Nat} {y : Str} {py spos : Pos} (n : Nat) (hp : i ∉ P) (hc : X.calm = true) (hN : X.N.Nodup) (hy : X.N[i]? = some y) (hyl : X.env.scope.names.lookup y = some .local)
    (hsw : swapsWith (.ListComp elt [⟨tg, iter, ifs, 0⟩] scope pos) (some (.Name y py)) spos.line X.env = pure true) (hi : PI X tg iter (tIw wk X.K bb fi)) (ok : BlkOk X.N X.env.scope scope own)
    (hg : ∀ (s : Shared) (H : Hp) (C : Addr) (cl : List (Str × Addr)) (fp : List Addr), PG (X.blk s H scope (compEnvC scope cl C X.env) fp) tg (tGw wk X.K (compl n (own.map (·.2))) ft))
    (ht : ∀ (s : Shared) (H : Hp) (C : Addr) (cl : List (Str × Addr)) (fp : List Addr), PTs (X.blk s H scope (compEnvC scope cl C X.env) fp) ifs (tT X.K bb tt))
    (he : ∀ (s : Shared) (H : Hp) (C : Addr) (cl : List (Str × Addr)) (fp : List Addr), PE (X.blk s H scope (compEnvC scope cl C X.env) fp) elt (tE X.K bb fe)) (hn : X.N.length = n := by rfl) (hs : ∀ x, foldedSetIterable iter X.env x = pure x := by intro _; rfl) :
    PS X (.Assign [.Name y py] (.ListComp elt [⟨tg, iter, ifs, 0⟩] scope pos) spos) (tS X.K P (fAsg (fOf (fLc fi ft tt fe (own.map (·.2)))) (gNm i))) :=
  PS.weakI (ps_setLc hc hN hy hyl hsw hi ok hg ht he hs) fun pins s D σ H I h => by
    obtain ⟨G, ρ, o, E, ef, k⟩ := h
    refine lc_run (I.len.trans hn) (f_to ?_)
    obtain ⟨⟨d, ρ1⟩, h1, h2⟩ := Option.bind_eq_some_iff.mp ef
    obtain ⟨ρ2, h3, rfl⟩ := Option.map_eq_some_iff.mp h2
    obtain ⟨hlt, rfl⟩ := ite_p h3
    refine ⟨G, ρ, d, ρ1, E, h1, fun v G1 H1 t1 o1 E1 d1 => ?_⟩
    exact k _ G1 H1 ((Stp.of t1 o1).trans ⟨.refl, fun l q => .inl (own_set q), fun j hj => List.getElem?_set_ne fun z => hp (by rw [z]; exact hj)⟩) (E1.set hlt d1)
theorem s_ownLc {i : Nat} {y : Str} {py spos : Pos} (n : Nat) (hp : i ∉ P) (hc : X.calm = true) (hN : X.N.Nodup) (hy : X.N[i]? = some y) (hyl : X.env.scope.names.lookup y = some .local)
    (hsw : swapsWith (.ListComp elt [⟨tg, iter, ifs, 0⟩] scope pos) (some (.Name y py)) spos.line X.env = pure true) (hi : PI X tg iter (tIw wk X.K bb fi)) (ok : BlkOk X.N X.env.scope scope own)
    (hg : ∀ (s : Shared) (H : Hp) (C : Addr) (cl : List (Str × Addr)) (fp : List Addr), PG (X.blk s H scope (compEnvC scope cl C X.env) fp) tg (tGw wk X.K (compl n (own.map (·.2))) ft))
    (ht : ∀ (s : Shared) (H : Hp) (C : Addr) (cl : List (Str × Addr)) (fp : List Addr), PTs (X.blk s H scope (compEnvC scope cl C X.env) fp) ifs (tT X.K bb tt))
    (he : ∀ (s : Shared) (H : Hp) (C : Addr) (cl : List (Str × Addr)) (fp : List Addr), PE (X.blk s H scope (compEnvC scope cl C X.env) fp) elt (tE X.K bb fe)) (hn : X.N.length = n := by rfl) (hs : ∀ x, foldedSetIterable iter X.env x = pure x := by intro _; rfl) :
    PS X (.Assign [.Name y py] (.ListComp elt [⟨tg, iter, ifs, 0⟩] scope pos) spos) (tS X.K P (fOwn (fLc fi ft tt fe (own.map (·.2))) i)) :=
  PS.weakI (ps_setLc hc hN hy hyl hsw hi ok hg ht he hs) fun pins s D σ H I h => by
    have q := own_run (bb := bb) hp h
    exact lc_run (I.len.trans hn) q
end
end Tw

set_option Elab.async false
set_option linter.all false
set_option maxRecDepth 100000
set_option maxHeartbeats 2000000
namespace Tw
open PySem PySem.Spec PyProof.Rows L2
open Evl (Ex)
/-! ### the law as it is called -/
theorem script_G {Pr : Program} {w : World} {K : PySem.W.Frag} {mg mb : Str → Option Value} {k : Nat} {fa a : Addr} {fd : FuncData} {x : Str} {g : List PyData → Option PyData} {s₁ : Shared} {vs : List Value} {ns : List Int}
    (KX : K.In s₁.heap) (hns : s₁.heap.Ns mainGlobals mg) (hmb : s₁.heap.Ns builtinsNs mb) (hbb : ∀ x : Str, x ≠ "__name__" → mb x = bootBuiltins x) (lim : s₁.heap.NoLimit) (gn : s₁.gens = #[])
    (ha : s₁.heap.get? a = some { cls := .type "list", data := .seq vs.toArray }) (hi : IntsAre vs ns) (hl : ns.length ≤ sizeLine) (hr : Room k callerA)
    (F : ∀ base : Heap, K.In base → base.Ns mainGlobals mg → FnG Pr w K mg base k fa fd [x] (spP K 1 g)) (bd : ∀ (s : Shared) (u : Value), BindsTo s fd ⟨[u], []⟩ [(x, u)])
    (ans : g [.list (ns.map .int)] = some (.bool true)) :
    codeAny (model Pr w) callerA (.call (.ref fa) ⟨[.ref a], []⟩) (fun r s' => r = .ok (.ret (.bool true)) ∧ OldK s₁.heap s'.heap ∧ s'.os = s₁.os ∧ AllBare s'.gens) s₁ := by
  have rv := vals_ints hi
  have hlen := hi.length
  have main : ∀ M : Hp, Only M → RL K M a (ns.map V.int) → HOk Pr w M s₁.heap → (∀ b, M b ≠ none → b = a) → (M a ≠ none → K.lookup a = none) →
      codeAny (model Pr w) callerA (.call (.ref fa) ⟨[.ref a], []⟩) (fun r s' => r = .ok (.ret (.bool true)) ∧ OldK s₁.heap s'.heap ∧ s'.os = s₁.os ∧ AllBare s'.gens) s₁ := fun M hO hS ok hA hK => by
    have is_a : ∀ {b : Addr} {u : HO}, M b = some u → b = a := fun {b u} q => hA b (by rw [q]; exact fun z => nomatch z)
    have plainB : ∀ {b : Addr} {o : Obj} {es : Array DictEntry} {ep : Nat}, s₁.heap.get? b = some o → o.data = .dict es ep → M b = none := fun {b o es ep} e d => by
      cases q : M b with
      | none => rfl
      | some u =>
        obtain rfl := is_a q
        rw [ha] at e
        cases e
        cases d
    have nsH : ∀ {b : Addr} {m : Str → Option Value}, s₁.heap.Ns b m → (hidT s₁.heap M).Ns b m := fun {b m} ⟨o, es, ep, e, d, r⟩ => ⟨o, es, ep, hidT_get e (plainB e d), d, r⟩
    have inB : K.In (hidT s₁.heap M) := fun b o e => hidT_get (KX b o e) (by
      cases q : M b with
      | none => rfl
      | some u =>
        obtain rfl := is_a q
        rw [hK (by rw [q]; exact fun z => nomatch z)] at e
        cases e)
    have md : Mod K mg (hidT s₁.heap M) := ⟨inB, nsH hns, ⟨mb, nsH hmb, hbb⟩, let ⟨mc, h1, h2⟩ := lim; ⟨mc, nsH h1, h2⟩⟩
    have none0 : ∀ b, b ∉ frs ([] : List Env) := fun b z => nomatch (show b ∈ ([] : List Addr) from z)
    have e0 : Env0 Pr w K mg (hidT s₁.heap M) callerA [] s₁ M := ⟨rfl, md, fun b o e => of_hidT e, Nat.le_of_eq (hidT_size _ _), trivial, fun b hb => absurd hb (none0 b), ok, .of_eq gn⟩
    have wish : spP K 1 g [.ref a] M (fun v _ => v = .bl true) E0 := ⟨M, [.list (ns.map .int)], _, fun _ _ q => q, .cons (.ll hS (Da.ints ns)) .nil, rfl, ans, fun v _ _ _ _ d => dt_bool d⟩
    refine codeAny_mono ((F _ inB (nsH hns)).run callerA rfl hr [] s₁ M ⟨[.ref a], []⟩ [.ref a] [.ref a] _ e0 (bd s₁ (.ref a)) (.cons rfl .nil) wish) fun r s' hq => ?_
    match r, hq with
    | .error _, hq => exact False.elim hq
    | .ok .next, hq => exact False.elim hq
    | .ok .brk, hq => exact False.elim hq
    | .ok .cont, hq => exact False.elim hq
    | .ok (.ret u), ⟨v, M', os, bare, un, ok', r', q⟩ =>
      dsimp only at q
      subst q
      obtain rfl : u = Value.bool true := r'
      refine ⟨rfl, OldK.of_keep fun b o e => ?_, os, bare⟩
      cases q : M b with
      | none => exact un.keep b o e q (none0 b) (fun z => nomatch z)
      | some t =>
        rcases hO b with z | ⟨ob, xs, z⟩
        · rw [q] at z; cases z
        · have z2 := un.frzs b ob _ z
          obtain ⟨e1, _⟩ := ok b _ z
          obtain ⟨e2, _⟩ := ok' b _ z2
          rw [e] at e1
          cases e1
          exact e2
  cases hk : K.lookup a with
  | some o =>
    have e := KX a o hk
    rw [ha] at e
    cases e
    exact main (fun _ => none) (fun _ => .inl rfl) (.inr ⟨vs, _, hk, rv, by rw [List.length_map]; exact hl⟩) (fun b u z => nomatch (show none = some u from z)) (fun b z => absurd rfl z) fun z => absurd rfl z
  | none =>
    have at_a : ∀ {b : Addr} {u : HO}, (if b = a then some (HO.frz { cls := .type "list", data := .seq vs.toArray } (.lst (ns.map V.int))) else none) = some u → b = a ∧ u = .frz { cls := .type "list", data := .seq vs.toArray } (.lst (ns.map V.int)) := fun {b u} z => by
      by_cases hb : b = a
      · rw [if_pos hb] at z; exact ⟨hb, (Option.some.inj z).symm⟩
      · rw [if_neg hb] at z; cases z
    refine main (fun b => if b = a then some (.frz { cls := .type "list", data := .seq vs.toArray } (.lst (ns.map V.int))) else none) (fun b => ?_) (.inl (.inr ⟨_, if_pos rfl⟩)) (fun b u z => ?_) (fun b z => ?_) fun _ => hk
    · by_cases hb : b = a
      · exact .inr ⟨_, _, if_pos hb⟩
      · exact .inl (if_neg hb)
    · obtain ⟨rfl, rfl⟩ := at_a z
      exact ⟨ha, by rw [List.length_map]; exact hl, vs, _, rv, ha⟩
    · by_cases hb : b = a
      · exact hb
      · exact absurd (if_neg hb) z
/-- what k_head leaves, from the law's own def -/
theorem walk_G {l : PySem.W.OpenLaw} {n k : Nat} {q : Program} {loose : List Str} {XP : (Str → Option Value) → Heap → Prop} {YP : World → Heap → Prop} {d : DefRec} {K : Params → PySem.W.Frag} {g : List PyData → Option PyData} {x : Str}
    (hn : l.most = some n) (hn2 : n ≤ sizeLine) (hdf : d.params.defaults = []) (hr : Room k callerA) (hY : ∀ (w : World) (h : Heap), YP w h → (K w.params).In h)
    (F : ∀ (w : World) (mg : Str → Option Value) (fa : Addr) (h : Heap), (K w.params).In h → h.Ns mainGlobals mg → mg d.name = some (.ref fa) →
      ∃ fd : FuncData, (∀ (s : Shared) (u : Value), BindsTo s fd ⟨[u], []⟩ [(x, u)]) ∧ ∀ base : Heap, (K w.params).In base → base.Ns mainGlobals mg → FnG l.prog w (K w.params) mg base k fa fd [x] (spP (K w.params) 1 g))
    (ans : ∀ ns : List Int, ns.length ≤ n → g [.list (ns.map .int)] = some (.bool true)) : PySem.W.WalkO q loose XP YP l.row.toRowW d [] (fun f vs => PySem.call f vs) := by
  refine Att.attach_call hn hdf fun w s₀ s₁ mg mb fa o pm cd doc a vs ns G Y ho hd hcd hmg hobj hints hlen hg => ?_
  obtain ⟨fd, hb, hF⟩ := F w mg fa _ (hY w _ Y) G.T.g hmg
  exact script_G (hY w _ Y) G.T.g G.T.b G.T.builtins G.T.nolimit hg hobj hints (Nat.le_trans hlen hn2) hr hF hb (ans ns hlen)
/-! ### list(range(..)) -/
section
variable {X : Cx} {e : Expr} {pos p : Pos} {bb : Bool}
def rgOk (a b : Int) : Bool := decide (0 ≤ a ∧ a ≤ 100000 ∧ 0 ≤ b ∧ b ≤ 100000)
def rg1 : PyData → Option (List PyData)
  | .int b => if rgOk 0 b = true then some (ups 0 b.toNat) else none
  | _ => none
theorem rg_da {K : PySem.W.Frag} {G : Hp} (a b : Int) : Da K G (rgV a b) (ups a (b - a).toNat) := Da.of_map (fun i => .ii _) _
theorem l_listRg {a : Expr} {q : Pos} {fa : FE PyData} (hc : X.calm = true) (hg : Gl X "list") (hm : X.mg "list" = none) (hgr : Gl X "range") (hmr : X.mg "range" = none) (ha : PE X a (tE X.K bb fa))
    (n1 : starEach [a] X.env = (false, eval a X.env) :: starEach [] X.env := by rfl) (n2 : starEach [.Call (.Name "range" q) [a] [] p] X.env = (false, eval (.Call (.Name "range" q) [a] [] p) X.env) :: starEach [] X.env := by rfl) {pl : Pos} :
    PE X (.Call (.Name "list" pl) [.Call (.Name "range" q) [a] [] p] [] pos) (tF X.K bb (thnE fa fun x => liftO (rg1 x))) := PE.weak (pe_listRg hc hg hm (prg_1 hgr hmr ha n1) n2) fun σ H Q ⟨G, ρ, d, ρ', E, ef, k⟩ => by
  obtain ⟨x, ρ1, h1, h2⟩ := thnE_of ef
  obtain ⟨h3, rfl⟩ := liftO_of h2
  refine ⟨G, ρ, x, ρ', E, h1, fun v G1 H1 t1 o1 E1 d1 => ?_⟩
  unfold rg1 at h3
  split at h3
  · obtain ⟨h4, rfl⟩ := ite_p h3
    have h5 := of_decide_eq_true h4
    refine ⟨_, dt_int d1, RgOk.of_le (by omega) (by omega) (by omega) (by omega), fun l hl => ?_⟩
    have da := rg_da (K := X.K) (G := G1) 0 ‹Int›
    rw [Int.sub_zero] at da
    exact k l _ G1 _ (tr_back t1 hl) (E1.gn hl) upd_same da (t1.trans (tr_mk0 (ow := nobody) hl) fun _ _ _ q => q.elim) o1 (E1.tr (tr_mk0 hl) (ex_new E1.ex hl))
  · cases h3
end
end Tw

set_option Elab.async false
set_option linter.all false
set_option maxRecDepth 100000
set_option maxHeartbeats 2000000
namespace Tw
open PySem PySem.Spec PyProof.Rows L2
open Evl (Ex)
/-! ### t[::-1] -/
section
variable {prog : Program} {w : World} {A : Around} {E : Value → Shared → Prop} {s : Shared}
theorem fm_congr {α β : Type} {f g : α → Option β} : ∀ {l : List α}, (∀ x ∈ l, f x = g x) → l.filterMap f = l.filterMap g
  | [], _ => rfl
  | x :: l, h => by
    rw [List.filterMap_cons, List.filterMap_cons, h x List.mem_cons_self, fm_congr fun y hy => h y (List.mem_cons_of_mem _ hy)]
theorem back_pick (xs : Array Value) : ((List.range xs.size).filterMap fun (k : Nat) => xs[((xs.size : Int) - 1 + (k : Int) * -1).toNat]?).toArray = xs.toList.reverse.toArray := by
  have e : (List.range xs.size).filterMap (fun (k : Nat) => xs[((xs.size : Int) - 1 + (k : Int) * -1).toNat]?) = ((List.range xs.size).map fun k => xs.size - 1 - k).filterMap (xs[·]?) := by
    rw [List.filterMap_map]
    apply fm_congr
    intro k hk
    have h1 := List.mem_range.mp hk
    show xs[((xs.size : Int) - 1 + (k : Int) * -1).toNat]? = xs[xs.size - 1 - k]?
    rw [show ((xs.size : Int) - 1 + (k : Int) * -1).toNat = xs.size - 1 - k by omega]
  rw [e, PySem.W.krv_range, List.filterMap_reverse, PySem.W.krv_all]
theorem back_applied {sl : Addr} {u : Tok} {n : Nat} {Q : Int × Int × Nat → Shared → Prop} (hs : s.heap.IsSliceOf sl .none .none (.int (-1) u)) (h : Q ((n : Int) - 1, -1, n) s) :
    wpAny (model prog w) A (Builtin.Slice.sliceApplied (.ref sl) (pure (n : Int))) Q E s := by
  obtain ⟨os, hos, hcs, hds⟩ := id hs
  unfold Builtin.Slice.sliceApplied Builtin.Slice.sliceFields
  refine wpAny_bind (wpAny_bind (wpAny_field hos hds (x := .none) rfl (wpAny_bind (wpAny_field hos hds (x := .none) rfl (wpAny_bind (wpAny_field hos hds (x := .int (-1) u) rfl (wpAny_pure ?_)))))))
  refine wpAny_bind (slicePart_int ?_)
  show wpAny _ _ (if ((-1 : Int) == 0) = true then _ else _) _ _ s
  rw [if_neg (by decide)]
  refine wpAny_bind (slicePart_none (wpAny_bind (slicePart_none (wpAny_bind (wpAny_pure ?_)))))
  have e1 : Builtin.Slice.sliceAdjust none none (-1) (n : Int) = ((n : Int) - 1, -1) := rfl
  have e2 : Builtin.Slice.slicePlaces ((n : Int) - 1) (-1) (-1) = n := by
    unfold Builtin.Slice.slicePlaces
    have h1 : ¬ ((-1 : Int) > 0) := by decide
    rw [if_neg h1]
    by_cases h0 : (n : Int) - 1 > -1
    · rw [if_pos h0]
      have e : ((n : Int) - 1 - -1 - 1) / - -1 + 1 = (n : Int) := by
        rw [show (- -1 : Int) = 1 by decide, Int.ediv_one]
        omega
      rw [e, Int.toNat_natCast]
    · rw [if_neg h0]
      have : n = 0 := by omega
      subst this
      rfl
  show wpAny _ _ (match Builtin.Slice.sliceAdjust none none (-1) (n : Int) with | (lo, hi) => pure (lo, (-1 : Int), Builtin.Slice.slicePlaces lo hi (-1))) _ _ s
  rw [e1]
  show wpAny _ _ (pure ((n : Int) - 1, (-1 : Int), Builtin.Slice.slicePlaces ((n : Int) - 1) (-1) (-1))) _ _ s
  rw [e2]
  exact wpAny_pure h
theorem back_tuple {t sl : Addr} {items : Array Value} {u : Tok} {Q : Value → Shared → Prop} (ht : IsTup s.heap t items) (hs : s.heap.IsSliceOf sl .none .none (.int (-1) u))
    (h : Q (.ref s.heap.objs.size) { s with heap := s.heap.push { cls := .type "tuple", data := .seq items.toList.reverse.toArray } }) (hsz : items.size ≤ sizeLine) : wpAny (model prog w) A (getItem (.ref t) (.ref sl)) Q E s := by
  have ht2 : PySem.sizeOk (.seq items.toList.reverse.toArray) := by
    show items.toList.reverse.toArray.size ≤ sizeLine
    rw [List.size_toArray, List.length_reverse, Array.length_toList]
    exact hsz
  obtain ⟨os, hos, hcs, hds⟩ := id hs
  have hTs : s.TypeIs (.ref sl) "slice" := ⟨os, hos, hcs⟩
  unfold getItem
  try with_reducible refine wpAny_holding ?_
  first | refine wpAny_bind (wpAny_pure ?_) | skip
  refine wpAny_bind (wpAny_sequenceKey ht.typeIs (by decide) ?_)
  refine wpAny_bind (wpAny_callSpecial?_slot (name := Str.ofString "__getitem__") ht.typeIs PyProof.Rows.slot_tuple_getitem (wpAny_call_entry PyProof.Rows.slot_tuple_getitem ht.typeIs entry_tuple_getitem ?_ (args_tuple_getitem _ _)))
  refine wpAny_bind (m := Builtin.Tuple.tupleItemsOf (.ref t)) (tupleItemsOf_ ht ?_)
  refine wpAny_bind (wpAny_typeOf hTs ?_)
  rw [if_pos (by decide)]
  refine wpAny_bind (back_applied hs ?_)
  have hno : ¬ (((items.size : Int) - 1 == 0 && (-1 : Int) == 1 && items.size == items.size) = true) := by
    rw [show ((-1 : Int) == 1) = false from rfl, Bool.and_false, Bool.false_and]
    exact Bool.false_ne_true
  show wpAny _ _ (if ((items.size : Int) - 1 == 0 && (-1 : Int) == 1 && items.size == items.size) = true then _ else _) _ _ s
  rw [if_neg hno, back_pick]
  first
    | exact wpAny_bind (m := Builtin.Tuple.tupleExact _) (wpAny_newObj_type (wpAny_pure ⟨_, rfl, wpAny_pure h⟩) ht2)
    | exact wpAny_bind (m := Builtin.Tuple.tupleExact _) (wpAny_newObj_type (wpAny_bind (wpAny_pure (wpAny_pure ⟨_, rfl, wpAny_pure h⟩))) ht2)
    | exact wpAny_bind (wpAny_bind (m := Builtin.Tuple.tupleExact _) (wpAny_newObj_type (wpAny_pure (wpAny_pure ⟨_, rfl, wpAny_pure h⟩)) ht2))
    | exact wpAny_bind (wpAny_bind (m := Builtin.Tuple.tupleExact _) (wpAny_newObj_type (wpAny_pure ⟨_, rfl, wpAny_pure h⟩) ht2))
end
section
variable {X : Cx} {e a b : Expr} {bb : Bool} {f : FE PyData} {pos : Pos} {K : PySem.W.Frag}
def tRev (K : PySem.W.Frag) (te : TE) : TE := fun σ H Q => te σ H fun x H1 => ∃ a, x = .ref a ∧ ((∃ xs, SqL K H1 a xs ∧ ∀ p, H1 p = none → Q (.ref p) (upd H1 p (.lst xs.reverse))) ∨ (∃ xs, SqT K H1 a xs ∧ NewT H1 Q xs.reverse))
theorem pe_rev {te : TE} {k : Nat} {p1 p2 p3 : Pos} (he : PE X e te) : PE X (.Subscript e (.Slice none none (some (.UnaryOp .USub (.Constant (.int 1) k p1) p2)) p3) pos) (tRev X.K te) := ⟨fun pins s σ H Q I h => by
  refine Subscript_ (thn (he.run pins s σ H _ I h) fun v s1 hz => ?_)
  obtain ⟨x, H1, I1, r1, a, ex, q⟩ := hz
  subst ex
  cases r1
  have st1 : PO X (some (.UnaryOp .USub (.Constant (.int 1) k p1) p2)) (tPart (tUn (rU fun i => .int (-i)) (tC (.int 1)))) := po_some (pe_un un_neg pe_int)
  refine wpAny_Slice (thn (po_none.run pins s1 σ H1 (fun o H2 => o = none ∧ H2 = H1) I1 ⟨rfl, rfl⟩) fun vl s2 hz => ?_)
  obtain ⟨_, _, I2, pl, rfl, rfl⟩ := hz
  refine thn (po_none.run pins s2 σ _ (fun o H3 => o = none ∧ H3 = _) I2 ⟨rfl, rfl⟩) fun vu s3 hz => ?_
  obtain ⟨_, _, I3, pu, rfl, rfl⟩ := hz
  refine thn (st1.run pins s3 σ _ (fun o H4 => o = some (-1) ∧ H4 = _) I3 ⟨1, rfl, -1, rfl, rfl, rfl⟩) fun vs s4 hz => ?_
  obtain ⟨_, _, I4, ps, rfl, rfl⟩ := hz
  have I5 : Inv X pins σ _ { s4 with heap := s4.heap.push { cls := .type "slice", data := .fields #[vl, vu, vs] } } := I4.kept (t' := s4.toks) fun b ob q => Heap.get?_push_of_some _ q
  show wpAny (model X.prog X.w) X.A (subscriptTail e (.Slice none none (some (.UnaryOp .USub (.Constant (.int 1) k p1) p2)) p3) (.ref a) (.ref s4.heap.objs.size)) (EP X pins σ Q) X.xe { s4 with heap := s4.heap.push { cls := .type "slice", data := .fields #[vl, vu, vs] } }
  rcases q with ⟨xs, hx, q⟩ | ⟨xs, hx, q⟩
  · obtain ⟨its, r, ht, hz⟩ := I5.list hx
    refine tail_any (ops := [.ref a, .ref s4.heap.objs.size]) ht.isList.typeIs (PySem.slot_list_getitem.lookup) ?_ (by with_unfolding_all rfl)
    refine wpAny_getItem_list_slice ht.isList (Heap.IsSliceOf.new _ vl vu vs) pl pu ps (by decide) ?_ (by rw [List.size_toArray, ← r.length]; exact hz)
    rw [PySem.W.krv_pick]
    refine ⟨.ref _, _, I5.laid (t' := s4.toks) (o := .lst xs.reverse) (fun b ob q => Heap.get?_push_of_some _ q) (Nat.le_refl _) ?_, rfl, q _ (I5.hok.fresh (Nat.le_refl _))⟩
    exact ⟨by rw [List.length_reverse]; exact hz, _, 0, r.reverse, Heap.get?_push_size _ rfl⟩
  · obtain ⟨its, r, ht, hz⟩ := I5.tuple hx
    cases pl
    cases pu
    cases ps with
    | int i u =>
      refine tail_any (ops := [.ref a, .ref s4.heap.objs.size]) ht.typeIs (PyProof.Rows.slot_tuple_getitem.lookup) ?_ (by with_unfolding_all rfl)
      refine back_tuple ht (Heap.IsSliceOf.new ..) ?_ (by rw [List.size_toArray, ← r.length]; exact hz)
      exact newT I5 (by rw [List.length_reverse]; exact hz) r.reverse q⟩
def revD : PyData → Option PyData
  | .list ds => some (.list ds.reverse)
  | .tuple ds => some (.tuple ds.reverse)
  | _ => none
theorem e_rev {k : Nat} {p1 p2 p3 : Pos} (he : PE X e (tE X.K bb f)) : PE X (.Subscript e (.Slice none none (some (.UnaryOp .USub (.Constant (.int 1) k p1) p2)) p3) pos) (tE X.K bb (fUn revD f)) :=
  PE.weak (pe_rev he) fun σ H Q ⟨G, ρ, d, ρ', E, ef, k⟩ => by
    obtain ⟨x, ρ1, h1, h2⟩ := thnE_of ef
    obtain ⟨h5, rfl⟩ := liftO_of h2
    refine ⟨G, ρ, x, ρ', E, h1, fun v G1 H1 t1 o1 E1 d1 => ?_⟩
    unfold revD at h5
    split at h5
    · cases h5
      obtain ⟨a, xs, rfl, hx, dx⟩ := dt_list d1
      refine ⟨a, rfl, .inl ⟨xs, (hx.mono E1.ex).sq, fun p hp => ?_⟩⟩
      have t : Tr nobody G1 H1 (upd G1 p (.lst xs.reverse)) (upd H1 p (.lst xs.reverse)) := Tr.new hp E1.ex
      exact k _ _ _ (t1.trans t fun _ _ _ q => q.elim) o1 (E1.tr t (ex_upd E1.ex)) (.ll (RL.of upd_same) (dx.rev.mono t.g))
    · cases h5
      obtain ⟨a, xs, rfl, hx, dx⟩ := dt_tup d1
      refine ⟨a, rfl, .inr ⟨xs, Evl.ex_t E1.ex hx, fun p o hp ho => ?_⟩⟩
      have t : Tr nobody G1 H1 (upd G1 p (.frz o (.tup xs.reverse))) (upd H1 p (.frz o (.tup xs.reverse))) := Tr.new hp E1.ex
      exact k _ _ _ (t1.trans t fun _ _ _ q => q.elim) o1 (E1.tr t (ex_upd E1.ex)) (.tt (PTu.new ho) (dx.rev.mono t.g))
    · cases h5
/-! ### in, {}, is -/
def atomsAll : List PyData → Bool
  | [] => true
  | d :: ds => atom d && atomsAll ds
def inA (x : PyData) (ys : List PyData) : Bool := ys.any fun y => PyData.eqv y x
def inD (neg : Bool) : PyData → PyData → Option PyData := fun d e => (itemsOf e).bind fun ys => if (atom d && atomsAll ys) = true then some (.bool (if neg = true then !inA d ys else inA d ys)) else none
theorem eqv_atom {G : Hp} {v u : V} {d e : PyData} (h : Dt K G v d) (h' : Dt K G u e) (a : atom d = true) (b : atom e = true) : eqV v u = PyData.eqv d e ∧ flatV v = true ∧ flatV u = true := by
  cases h <;> cases h' <;> first | (cases a; done) | (cases b; done) | exact ⟨by simp only [eqV, PyData.eqv], rfl, rfl⟩
theorem in_flat {G : Hp} {v : V} {d : PyData} (h : Dt K G v d) (a : atom d = true) : ∀ {us : List V} {ys : List PyData}, Da K G us ys → atomsAll ys = true → inV v us = inA d ys ∧ us.all flatV = true
  | _, _, .nil, _ => ⟨rfl, rfl⟩
  | _, _, .cons h1 t, q => by
    have q2 := Bool.and_eq_true_iff.mp q
    obtain ⟨i1, i2⟩ := in_flat h a t q2.2
    obtain ⟨e1, e2, e3⟩ := eqv_atom h1 h q2.1 a
    have i1' : List.any _ _ = List.any _ _ := i1
    refine ⟨?_, ?_⟩
    · show List.any (_ :: _) _ = List.any (_ :: _) _
      rw [List.any_cons, List.any_cons, e1, i1']
    · rw [List.all_cons, e2, i2]; rfl
theorem d_in (neg : Bool) : OpD K (rIn K neg) (inD neg) := fun G H x y d e z Q ex hd he hz k => by
  obtain ⟨ys, h1, h2⟩ := Option.bind_eq_some_iff.mp hz
  obtain ⟨h3, rfl⟩ := ite_p h2
  have h4 := Bool.and_eq_true_iff.mp h3
  have fx : flatV x = true := (eqv_atom hd hd h4.1 h4.1).2.1
  unfold itemsOf at h1
  split at h1
  · cases h1
    obtain ⟨a, us, rfl, hu, du⟩ := dt_list he
    obtain ⟨i1, i2⟩ := in_flat hd h4.1 du h4.2
    refine ⟨a, us, rfl, .inl (hu.mono ex).sq, fx, i2, ?_⟩
    rw [i1]
    exact k _ G H .refl ex (.bb _)
  · cases h1
    obtain ⟨a, us, rfl, hu, du⟩ := dt_tup he
    obtain ⟨i1, i2⟩ := in_flat hd h4.1 du h4.2
    refine ⟨a, us, rfl, .inr (Evl.ex_t ex hu), fx, i2, ?_⟩
    rw [i1]
    exact k _ G H .refl ex (.bb _)
  · cases h1
theorem e_dict0 : PE X (.Dict [] [] pos) (tE X.K bb (ret (.dict []))) := PE.weak pe_dnewK fun σ H Q ⟨G, ρ, d, ρ', E, ef, k⟩ => by
  obtain ⟨rfl, rfl⟩ := ret_of ef
  intro p hp
  have t : Tr nobody G H (upd G p (.dK [])) (upd H p (.dK [])) := Tr.new hp E.ex
  exact k _ _ _ t.none (fun _ q => q) (E.tr t (ex_upd E.ex)) (.dd (kvs := []) (ds := []) upd_same .nil)
def isNoneD : PyData → PyData → Option PyData := fun d e => match e with
  | .none => some (.bool (match d with
    | .none => true
    | _ => false))
  | _ => none
def notNoneD : PyData → PyData → Option PyData := fun d e => match e with
  | .none => some (.bool (match d with
    | .none => false
    | _ => true))
  | _ => none
def rIsNon : R2 := fun x y H Q => y = .non ∧ Q (.bl (decide (x = .non))) H
def rNotNon : R2 := fun x y H Q => y = .non ∧ Q (.bl (!decide (x = .non))) H
theorem d_isN : OpD K rIsNon isNoneD := fun G H x y d e z Q ex hd he hz k => by
  unfold isNoneD at hz
  split at hz
  · refine ⟨dt_none he, k _ G H .refl ex ?_⟩
    cases hz
    cases hd <;> exact .bb _
  · cases hz
theorem d_notN : OpD K rNotNon notNoneD := fun G H x y d e z Q ex hd he hz k => by
  unfold notNoneD at hz
  split at hz
  · refine ⟨dt_none he, k _ G H .refl ex ?_⟩
    cases hz
    cases hd <;> exact .bb _
  · cases hz
def isB : PyData → PyData → Option PyData
  | .bool a, .bool b => some (.bool (decide (a = b)))
  | _, _ => none
theorem d_isB : OpD K rIsB isB := fun G H x y d e z Q ex hd he hz k => by
  unfold isB at hz
  split at hz
  · cases hz
    exact ⟨_, _, dt_bool hd, dt_bool he, k _ G H .refl ex (.bb _)⟩
  · cases hz
end
end Tw

set_option Elab.async false
set_option linter.all false
set_option maxRecDepth 100000
set_option maxHeartbeats 2000000
namespace Tw
open PySem PySem.Spec PyProof.Rows L2
open Evl (Ex)
/-! ### comprehensions of two clauses -/
def l2F (ft : FG) (tt : FE Bool) (fi1 : FE (List PyData)) (ft1 : FG) (tt1 : FE Bool) (fe : FE PyData) (vs vs1 : List Nat) : List PyData → FE (List PyData)
  | [], ρ => some ([], ρ)
  | d :: ds, ρ => (ft d ρ).bind fun ρ1 => (tt ρ1).bind fun p => if p.1 = true then (fi1 p.2).bind fun q => (lcF ft1 tt1 fe vs1 q.1 (wipeR q.2 vs1)).bind fun r => (l2F ft tt fi1 ft1 tt1 fe vs vs1 ds (wipeR r.2 vs)).map fun z => (r.1 ++ z.1, z.2)
    else l2F ft tt fi1 ft1 tt1 fe vs vs1 ds (wipeR p.2 vs)
def fL2 (fi : FE (List PyData)) (ft : FG) (tt : FE Bool) (fi1 : FE (List PyData)) (ft1 : FG) (tt1 : FE Bool) (fe : FE PyData) (vs vs1 : List Nat) : FE (List PyData) := fun ρ => (fi ρ).bind fun p =>
  (l2F ft tt fi1 ft1 tt1 fe vs vs1 p.1 (wipeR p.2 vs)).bind fun q => if sizeOk q.1.length = true then some (q.1, backR p.2 q.2 vs) else none
theorem wipe2 {σ : L2.St} {vs vs1 : List Nat} {n : Nat} (hn : σ.length = n) (hv : ∀ i ∈ vs1, i ∈ vs) : wipe (wipe σ vs1) vs = wipe σ vs :=
  wipe_eq (σ := σ) hn (by rw [wipe_length, hn]) fun j hj => by
    have h1 := of_decide_eq_true (List.mem_filter.mp hj).2
    rw [wipe_at h1, wipe_at fun z => h1 (hv j z)]
section
variable {X : Cx} {e elt tg iter tg1 iter1 : Expr} {ifs ifs1 : List Expr} {pos : Pos} {bb : Bool}
theorem l2_run {wk wk1 : Bool} {n : Nat} {fi fi1 : FE (List PyData)} {ft ft1 : FG} {tt tt1 : FE Bool} {fe : FE PyData} {vs vs1 : List Nat} (hv : ∀ i ∈ vs1, i ∈ vs) {σ : L2.St} {H : Hp} {Q : VK} (hn : σ.length = n) (h : tF X.K bb (fL2 fi ft tt fi1 ft1 tt1 fe vs vs1) σ H Q) :
    tLc2 (tIw wk X.K bb fi) (tGw wk X.K (compl n vs) ft) (tT X.K bb tt) (tIw wk1 X.K bb fi1) (tGw wk1 X.K (compl n vs1) ft1) (tT X.K bb tt1) (tE X.K bb fe) vs vs1 σ H Q := by
  obtain ⟨G, ρ, ys, ρ', E, ef, k⟩ := h
  obtain ⟨⟨ds, ρ1⟩, h1, h2⟩ := Option.bind_eq_some_iff.mp ef
  obtain ⟨⟨ys', ρe⟩, h4, h5⟩ := Option.bind_eq_some_iff.mp h2
  obtain ⟨hz, h6⟩ := ite_p h5
  cases h6
  dsimp only at k hz h4
  refine ⟨G, ρ, ds, ρ1, E, h1, fun J G1 H1 t1 o1 E1 W D hD => ?_⟩
  have E0 := env_wipe E1 vs
  have hD0 : H D = none := tr_back t1 hD
  have notD : ∀ {a : Addr}, own (wipe σ vs) (wipeR ρ1 vs) a → a ≠ D := fun {a} q z => by
    obtain ⟨xs, w⟩ := own_there E0 q
    rw [z, hD] at w
    cases w
  let Tx : Hp → Hp → Prop := fun G' H' => Tr (fun a => ows bb (wipe σ vs) (wipeR ρ1 vs) a ∨ a = D) G1 (upd H1 D (.lst [])) G' H'
  let Inv' : Nat → Hp → Prop := fun i H' => ∃ G' ρ2 acc accd rest, EnvOk X.K G' H' (wipe σ vs) ρ2 ∧ Tx G' H' ∧ G' D = none ∧ H' D = some (.lst acc) ∧ Da X.K G' acc accd ∧
    (∀ l, own (wipe σ vs) ρ2 l → own (wipe σ vs) (wipeR ρ1 vs) l) ∧ l2F ft tt fi1 ft1 tt1 fe vs vs1 (ds.drop i) ρ2 = some (rest, ρe) ∧ accd ++ rest = ys'
  have start0 : Inv' 0 (upd H1 D (.lst [])) := ⟨G1, wipeR ρ1 vs, [], [], ys', E0.tr (tr_mk0 hD) (ex_new E1.ex hD), .refl, E1.gn hD, upd_same, .nil, fun _ q => q, h4, rfl⟩
  refine ⟨fun i m H' => m = ds.length - i ∧ i ≤ ds.length ∧ Inv' i H', ⟨ds.length, by omega, Nat.zero_le _, start0⟩, ?_⟩
  rintro i m H' ⟨rfl, hi, G', ρ2, acc, accd, rest, E', t', gD, hDl, da, oo, hf, ea⟩
  have exG : Ex G1 H' := fun a u z => E'.ex a u (t'.g a u z)
  by_cases hlt : i < ds.length
  · have ed : ds.drop i = ds[i] :: ds.drop (i + 1) := List.drop_eq_getElem_cons hlt
    rw [ed] at hf
    obtain ⟨ρ3, q1, q2⟩ := Option.bind_eq_some_iff.mp hf
    obtain ⟨⟨b, ρ4⟩, q3, q4⟩ := Option.bind_eq_some_iff.mp q2
    refine .inr ⟨W.go i H' hlt exG, Inv' (i + 1), fun H2 z => ⟨ds.length - (i + 1), by omega, rfl, hlt, z⟩, fun x H2 y => ?_⟩
    obtain ⟨G3, t3, e3, d3⟩ := W.yld i H' x H2 ds[i] (List.getElem?_eq_getElem hlt) exG y G' t'.g E'.ex
    have E3 := E'.tr t3 e3
    refine ⟨G3, ρ2, ds[i], ρ3, E3, d3, q1, fun σ2 so E4 => ?_⟩
    have hl2 : σ2.length = n := by rw [so.l, wipe_length, hn]
    have ew : wipe σ2 vs = wipe σ vs := wipe_eq hn hl2 so.p
    refine ⟨ew, G3, ρ3, b, ρ4, E4, q3, fun G5 H5 t5 o5 E5 => ?_⟩
    have D2 : H2 D = some (.lst acc) := t3.h D _ hDl id
    have g3D : G3 D = none := t3.n D _ hDl gD id
    have own3 : ∀ {a : Addr}, own σ2 ρ3 a → own (wipe σ vs) (wipeR ρ1 vs) a := fun q => oo _ (so.o _ q)
    have nD3 : ¬ ows bb σ2 ρ3 D := fun q => notD (own3 q.2) rfl
    have D5 : H5 D = some (.lst acc) := t5.h D _ D2 nD3
    have g5D : G5 D = none := t5.n D _ D2 g3D nD3
    have T5 : Tx G5 H5 := (t'.trans t3 fun _ _ _ q => q.elim).trans t5 fun a _ _ q => .inl ⟨q.1, own3 q.2⟩
    have da5 := da.mono fun a u z => t5.g a u (t3.g a u z)
    have toW : ∀ {ρx : Rho} {a : Addr}, (∀ l, own σ2 ρx l → own σ2 ρ4 l) → own (wipe σ vs) (wipeR ρx vs) a → own (wipe σ vs) (wipeR ρ1 vs) a := fun {ρx a} hx q => by
      rw [← ew] at q
      exact own3 (o5 _ (hx _ (own_wipe q)))
    cases b with
    | false =>
      dsimp only
      rw [if_neg Bool.false_ne_true]
      refine ⟨G5, wipeR ρ4 vs, acc, accd, rest, ?_, T5, g5D, D5, da5, fun l q => toW (fun _ z => z) q, q4, ea⟩
      rw [← ew]
      exact env_wipe E5 vs
    | true =>
      dsimp only
      rw [if_pos rfl]
      obtain ⟨⟨es, ρ5⟩, q5, q6⟩ := Option.bind_eq_some_iff.mp (show ((fi1 ρ4).bind fun q => _) = some (rest, ρe) from q4)
      obtain ⟨⟨r0, ρ6⟩, q7, q8⟩ := Option.bind_eq_some_iff.mp q6
      obtain ⟨⟨z0, ρ7⟩, q9, q10⟩ := Option.map_eq_some_iff.mp q8
      cases q10
      dsimp only at q7 q9
      refine ⟨G5, ρ4, es, ρ5, E5, q5, fun J1 G6 H6 t6 o6 E6 W1 => ?_⟩
      have own4 : ∀ {a : Addr}, own σ2 ρ4 a → own (wipe σ vs) (wipeR ρ1 vs) a := fun q => own3 (o5 _ q)
      have nD4 : ¬ ows bb σ2 ρ4 D := fun q => notD (own4 q.2) rfl
      have D6 : H6 D = some (.lst acc) := t6.h D _ D5 nD4
      have g6D : G6 D = none := t6.n D _ D5 g5D nD4
      have T6 : Tx G6 H6 := T5.trans t6 fun a _ _ q => .inl ⟨q.1, own4 q.2⟩
      have own5 : ∀ {a : Addr}, own σ2 ρ5 a → own (wipe σ vs) (wipeR ρ1 vs) a := fun q => own4 (o6 _ q)
      let In1 : Nat → Hp → Prop := fun j Hj => ∃ Gj ρj acj acd ri, EnvOk X.K Gj Hj (wipe σ2 vs1) ρj ∧ Tx Gj Hj ∧ Ex G6 Gj ∧ Gj D = none ∧ Hj D = some (.lst acj) ∧ Da X.K Gj acj acd ∧
        (∀ l, own (wipe σ2 vs1) ρj l → own (wipe σ vs) (wipeR ρ1 vs) l) ∧ lcF ft1 tt1 fe vs1 (es.drop j) ρj = some (ri, ρ6) ∧ acd ++ (ri ++ z0) = ys'
      have st1 : In1 0 H6 := ⟨G6, wipeR ρ5 vs1, acc, accd, r0, env_wipe E6 vs1, T6, fun _ _ q => q, g6D, D6, da5.mono t6.g, fun l q => own5 (own_wipe q), q7, ea⟩
      refine ⟨fun j m Hj => m = es.length - j ∧ j ≤ es.length ∧ In1 j Hj, ⟨es.length, by omega, Nat.zero_le _, st1⟩, ?_⟩
      rintro j m Hj ⟨rfl, hj, Gj, ρj, acj, acd, ri, Ej, tj, gj6, gjD, hjD, daj, ooj, hfj, eaj⟩
      have exj : Ex G6 Hj := fun a u z => Ej.ex a u (gj6 a u z)
      by_cases hlj : j < es.length
      · have edj : es.drop j = es[j] :: es.drop (j + 1) := List.drop_eq_getElem_cons hlj
        rw [edj] at hfj
        obtain ⟨ρa, w1, w2⟩ := Option.bind_eq_some_iff.mp hfj
        obtain ⟨⟨b1, ρb⟩, w3, w4⟩ := Option.bind_eq_some_iff.mp w2
        refine .inr ⟨W1.go j Hj hlj exj, In1 (j + 1), fun H9 z => ⟨es.length - (j + 1), by omega, rfl, hlj, z⟩, fun x9 H9 y9 => ?_⟩
        obtain ⟨Ga, ta, ea9, d9⟩ := W1.yld j Hj x9 H9 es[j] (List.getElem?_eq_getElem hlj) exj y9 Gj gj6 Ej.ex
        refine ⟨Ga, ρj, es[j], ρa, Ej.tr ta ea9, d9, w1, fun σ3 so3 Ea => ?_⟩
        have hl3 : σ3.length = n := by rw [so3.l, wipe_length, hl2]
        have ew3 : wipe σ3 vs1 = wipe σ2 vs1 := wipe_eq hl2 hl3 so3.p
        refine ⟨ew3, Ga, ρa, b1, ρb, Ea, w3, fun Gb Hb tb ob Eb => ?_⟩
        have owna : ∀ {a : Addr}, own σ3 ρa a → own (wipe σ vs) (wipeR ρ1 vs) a := fun q => ooj _ (so3.o _ q)
        have nDa : ¬ ows bb σ3 ρa D := fun q => notD (owna q.2) rfl
        have Da9 : H9 D = some (.lst acj) := ta.h D _ hjD id
        have gaD : Ga D = none := ta.n D _ hjD gjD id
        have Db : Hb D = some (.lst acj) := tb.h D _ Da9 nDa
        have gbD : Gb D = none := tb.n D _ Da9 gaD nDa
        have Tb : Tx Gb Hb := (tj.trans ta fun _ _ _ q => q.elim).trans tb fun a _ _ q => .inl ⟨q.1, owna q.2⟩
        have toV : ∀ {ρx : Rho} {a : Addr}, (∀ l, own σ3 ρx l → own σ3 ρb l) → own (wipe σ2 vs1) (wipeR ρx vs1) a → own (wipe σ vs) (wipeR ρ1 vs) a := fun {ρx a} hx q => by
          rw [← ew3] at q
          exact owna (ob _ (hx _ (own_wipe q)))
        cases b1 with
        | false =>
          dsimp only
          rw [if_neg Bool.false_ne_true]
          refine ⟨Gb, wipeR ρb vs1, acj, acd, ri, ?_, Tb, fun a u z => tb.g a u (ta.g a u (gj6 a u z)), gbD, Db, daj.mono fun a u z => tb.g a u (ta.g a u z), fun l q => toV (fun _ z => z) q, w4, eaj⟩
          rw [← ew3]
          exact env_wipe Eb vs1
        | true =>
          dsimp only
          rw [if_pos rfl]
          obtain ⟨⟨y0, ρc⟩, w5, w6⟩ := Option.bind_eq_some_iff.mp (show ((fe ρb).bind fun q => _) = some (ri, ρ6) from w4)
          obtain ⟨⟨r1, ρd⟩, w7, w8⟩ := Option.map_eq_some_iff.mp w6
          cases w8
          refine ⟨Gb, ρb, y0, ρc, Eb, w5, fun v Gc Hc tc oc Ec dc => ?_⟩
          have ownb : ∀ {a : Addr}, own σ3 ρb a → own (wipe σ vs) (wipeR ρ1 vs) a := fun q => owna (ob _ q)
          have nDb : ¬ ows bb σ3 ρb D := fun q => notD (ownb q.2) rfl
          have Dc : Hc D = some (.lst acj) := tc.h D _ Db nDb
          have gcD : Gc D = none := tc.n D _ Db gbD nDb
          have len1 : acj.length < sizeLine := by
            have e1 : acj.length + (1 + r1.length + z0.length) = ys'.length := by
              rw [← eaj, daj.len]
              simp only [List.length_append, List.length_cons]
              omega
            have e2 := of_decide_eq_true hz
            exact Evl.sz_lt (by omega)
          refine ⟨acj, Dc, len1, ?_⟩
          have E7 : EnvOk X.K Gc (upd Hc D (.lst (acj ++ [v]))) σ3 ρc := {
            ex := ex_cell Ec.ex gcD
            len := Ec.len
            dat := Ec.dat
            mu := fun j d q => by
              obtain ⟨l, xs, w1, w2, w3, w4⟩ := Ec.mu j d q
              have nl : l ≠ D := notD (ownb (oc _ ⟨j, d, q, w1⟩))
              exact ⟨l, xs, w1, w2, by rw [upd_ne nl]; exact w3, w4⟩
            ne := Ec.ne }
          refine ⟨Gc, wipeR ρc vs1, acj ++ [v], acd ++ [y0], r1, ?_, ?_, fun a u z => tc.g a u (tb.g a u (ta.g a u (gj6 a u z))), gcD, upd_same, (daj.mono fun a u z => tc.g a u (tb.g a u (ta.g a u z))).app (Da.one dc), fun l q => toV (fun _ z => oc _ z) q, w7, ?_⟩
          · rw [← ew3]
            exact env_wipe E7 vs1
          · have T7 : Tx Gc Hc := Tb.trans tc fun a _ _ q => .inl ⟨q.1, ownb q.2⟩
            exact T7.trans (tr_cell gcD Dc) fun a _ _ q => .inr q
          · rw [List.append_assoc]
            exact eaj
      · have ej : j = es.length := by omega
        subst ej
        rw [List.drop_length] at hfj
        cases hfj
        refine .inl ⟨W1.stop Hj exj, Gj, wipeR ρ6 vs, acj, acd, z0, ?_, tj, gjD, hjD, daj, fun l q => ?_, q9, eaj⟩
        · have e9 := env_wipe Ej vs
          rw [wipe2 hl2 hv, ew] at e9
          exact e9
        · rw [← ew, ← wipe2 hl2 hv] at q
          exact ooj _ (own_wipe q)
  · have en : i = ds.length := by omega
    subst en
    rw [List.drop_length] at hf
    cases hf
    rw [List.append_nil] at ea
    subst ea
    refine .inl ⟨W.stop H' exG, k D acc G' H' hD0 gD hDl da ?_ (fun l q => o1 l (own_wipe (oo l (own_back q)))) (env_back E1 E' t'.g)⟩
    have tA : Tr (ows bb (wipe σ vs) (wipeR ρ1 vs)) G1 H1 G' H' := (tr_mk0 hD).trans t' fun x o q w => w.elim id fun z => by rw [z, hD] at q; cases q
    exact t1.trans tA fun x o q w => ⟨w.1, o1 _ (own_wipe w.2)⟩
variable {scope : Scope} {own : List (Str × Nat)} {vs1 : List Nat} {fi fi1 : FE (List PyData)} {ft ft1 : FG} {tt tt1 : FE Bool} {fe : FE PyData}
theorem l_lc2 {wk wk1 : Bool} (n : Nat) (hc : X.calm = true) (hN : X.N.Nodup) (hi : PI X tg iter (tIw wk X.K bb fi)) (ok : BlkOk X.N X.env.scope scope own) (hv : ∀ i ∈ vs1, i ∈ own.map (·.2))
    (hg : ∀ (s : Shared) (H : Hp) (C : Addr) (cl : List (Str × Addr)) (fp : List Addr), PG (X.blk s H scope (compEnvC scope cl C X.env) fp) tg (tGw wk X.K (compl n (own.map (·.2))) ft))
    (ht : ∀ (s : Shared) (H : Hp) (C : Addr) (cl : List (Str × Addr)) (fp : List Addr), PTs (X.blk s H scope (compEnvC scope cl C X.env) fp) ifs (tT X.K bb tt))
    (hi1 : ∀ (s : Shared) (H : Hp) (C : Addr) (cl : List (Str × Addr)) (fp : List Addr), PI (X.blk s H scope (compEnvC scope cl C X.env) fp) tg1 iter1 (tIw wk1 X.K bb fi1))
    (hg1 : ∀ (s : Shared) (H : Hp) (C : Addr) (cl : List (Str × Addr)) (fp : List Addr), PG (X.blk s H scope (compEnvC scope cl C X.env) fp) tg1 (tGw wk1 X.K (compl n vs1) ft1))
    (ht1 : ∀ (s : Shared) (H : Hp) (C : Addr) (cl : List (Str × Addr)) (fp : List Addr), PTs (X.blk s H scope (compEnvC scope cl C X.env) fp) ifs1 (tT X.K bb tt1))
    (he : ∀ (s : Shared) (H : Hp) (C : Addr) (cl : List (Str × Addr)) (fp : List Addr), PE (X.blk s H scope (compEnvC scope cl C X.env) fp) elt (tE X.K bb fe)) (hn : X.N.length = n := by rfl)
    (hs : ∀ x, foldedSetIterable iter X.env x = pure x := by intro _; rfl) (hs1 : ∀ env x, foldedSetIterable iter1 env x = pure x := by intro _ _; rfl) :
    PE X (.ListComp elt [⟨tg, iter, ifs, 0⟩, ⟨tg1, iter1, ifs1, 0⟩] scope pos) (tF X.K bb (fL2 fi ft tt fi1 ft1 tt1 fe (own.map (·.2)) vs1)) :=
  PE.weakI (pe_lc2 hc hN hi ok hv hg ht hi1 hg1 ht1 he hs hs1) fun pins s σ H Q I h => l2_run hv (I.len.trans hn) h
end
end Tw

set_option Elab.async false
set_option linter.all false
set_option maxRecDepth 100000
set_option maxHeartbeats 2000000
namespace Tw
open PySem PySem.Spec PyProof.Rows L2
open Evl (Ex)
section
variable {X : Cx} {P : List Nat} {pos : Pos} {e : Expr} {es : List Expr} {bb : Bool}
def fRetF (f : FE (List PyData)) : FS := fun ρ => (f ρ).map fun p => .rf p.1 p.2
theorem s_retF {f : FE (List PyData)} (h : PE X e (tF X.K bb f)) : PS X (.Return (some e) pos) (tS X.K P (fRetF f)) := PS.weak (ps_ret h) fun D σ H ⟨G, ρ, o, E, ef, k⟩ => by
  obtain ⟨⟨d, ρ'⟩, h1, rfl⟩ := Option.map_eq_some_iff.mp ef
  refine ⟨G, ρ, d, ρ', E, h1, fun p xs G' H' hp hG hH da t o E' => k p xs σ G' H' (.of t o) E' (.inr hp) (fun q => ?_) hG hH da⟩
  obtain ⟨ys, z⟩ := own_there E (o p q)
  rw [hp] at z
  cases z
def fRetO (i : Nat) : FS := fun ρ => match ρ[i]? with
  | some (.m (.l ds)) => some (.rf ds (ρ.set i .un))
  | _ => none
theorem s_retO (i : Nat) (h : PE X e (tVar i)) : PS X (.Return (some e) pos) (tS X.K P (fRetO i)) := PS.weak (ps_ret h) fun D σ H ⟨G, ρ, o, E, ef, k⟩ => by
  unfold fRetO at ef
  split at ef
  case h_2 => cases ef
  rename_i ds hi
  cases ef
  obtain ⟨l, xs, hσ, hG, hH, dx⟩ := E.muL hi
  have sub : ∀ {a : Addr}, own σ (ρ.set i .un) a → own σ ρ a ∧ a ≠ l := fun {a} ⟨j, es, w1, w2⟩ => by
    rcases set_get w1 with ⟨_, q⟩ | ⟨n, q⟩
    · cases q
    · exact ⟨⟨j, es, q, w2⟩, fun z => n (E.ne j i es ds l q hi (by rw [← z]; exact w2) hσ)⟩
  refine ⟨.ref l, hσ, k l xs σ G H ⟨.refl, fun a q => .inl (sub q).1, fun _ _ => rfl⟩ ⟨E.ex, by rw [List.length_set]; exact E.len, fun j d q => ?_, fun j d q => ?_, fun a b d1 d2 l' w1 w2 => ?_⟩ (.inl ⟨i, ds, hi, hσ⟩) (fun q => (sub q).2 rfl) hG hH dx⟩
  · rcases set_get q with ⟨_, q⟩ | ⟨_, q⟩
    · cases q
    · exact E.dat j d q
  · rcases set_get q with ⟨_, q⟩ | ⟨_, q⟩
    · cases q
    · exact E.mu j d q
  · rcases set_get w1 with ⟨_, q⟩ | ⟨_, w1⟩
    · cases q
    rcases set_get w2 with ⟨_, q⟩ | ⟨_, w2⟩
    · cases q
    exact E.ne a b d1 d2 l' w1 w2
/-- a def of data that hands back a new list -/
def spF (K : PySem.W.Frag) (n : Nat) (g : List PyData → Option (List PyData)) : Sp := fun vs H Q _ => ∃ (G : Hp) (ds : List PyData) (d : List PyData), Ex G H ∧ Da K G vs ds ∧ ds.length = n ∧ g ds = some d ∧
  ∀ p xs G' H', H p = none → G' p = none → H' p = some (.lst xs) → Da K G' xs d → Tr nobody G H G' H' → Ex G' H' → Q (.ref p) H'
def outF : Option Out → Option (List PyData)
  | some (.rf ds _) => some ds
  | _ => none
def runF (m : Nat) (fb : FS) (ds : List PyData) : Option (List PyData) := outF (fb (ds.map Sl.d ++ List.replicate (m - ds.length) Sl.un))
theorem fn_F {Pr : Program} {w : World} {K : PySem.W.Frag} {mg : Str → Option Value} {base : Heap} {x qual : Str} {st : Stmt} {f : Addr} {fd : FuncData} {N ps : List Str} {k : Nat} (F : Fun K x qual st f fd) (S : FnScope N ps (defScope st)) {fb : FS}
    (body : ∀ (cdv : Value) (A : Around) (outer : List Env) (s : Shared) (H : Hp), Here k (bx Pr w K mg base N qual st f cdv A outer s H) → PSs (bx Pr w K mg base N qual st f cdv A outer s H) (defBody st) (tS K [] fb)) : FnG Pr w K mg base (k + 1) f fd ps (spF K ps.length (runF N.length fb)) :=
  fn_G F S (fun vs H Q E ⟨G, ds, d, ex, da, hl, _⟩ => by rw [da.len, hl]) fun cdv A outer s H hh vs Q ⟨G, ds, d, ex, da, hl, hg, k⟩ => by
    refine ⟨_, body cdv A outer s H hh, ?_⟩
    unfold runF at hg
    have e1 : L2.start N vs = vs.map some ++ List.replicate (N.length - ds.length) none := by unfold L2.start; rw [da.len]
    rw [e1]
    have E : EnvOk K G H (vs.map some ++ List.replicate (N.length - ds.length) none) (ds.map Sl.d ++ List.replicate (N.length - ds.length) Sl.un) := env_args (env_un ex) da
    have hm : noM (ds.map Sl.d ++ List.replicate (N.length - ds.length) Sl.un) := noM_args noM_un ds
    cases ho : fb (ds.map Sl.d ++ List.replicate (N.length - ds.length) Sl.un) with
    | none => rw [ho] at hg; cases hg
    | some o =>
      rw [ho] at hg
      refine ⟨G, _, o, E, ho, ?_⟩
      cases o with
      | rf e r =>
        cases hg
        exact fun p xs σ' G' H' s' E' w1 w2 w3 w4 w5 => k p xs G' H' (w1.elim (fun q => (hm.own q).elim) id) w3 w4 w5 (s'.t.wide fun _ _ _ q => (hm.own q).elim) E'.ex
      | rt e r => cases hg
      | nx r => cases hg
      | bk r => cases hg
      | ct r => cases hg
variable {k : Nat} {f : Addr} {fd : FuncData} {ps : List Str} {x : Str} {p : Pos} {n : Nat}
def fCallF (n : Nat) (g : List PyData → Option (List PyData)) (r : FE (List PyData)) : FE (List PyData) := thnE r fun xs => liftO (if xs.length = n then g xs else none)
theorem l_callF {g : List PyData → Option (List PyData)} {ra : FE (List PyData)} (F : FnG X.prog X.w X.K X.mg X.base k f fd ps (spF X.K n g)) (hh : Here k X) (hg : Gl X x) (hm : X.mg x = some (.ref f)) (hk : PySem.W.keepIn X.K (.ref f) = true) (hb : Binds X.K fd ps [])
    (ha : PA X (e :: es) (tA X.K bb ra)) (hdb : (x == ("__debug__" : Str)) = false := by decide) (he : starEach (e :: es) X.env = (false, eval e X.env) :: starEach es X.env := by rfl) (hpl : (backTo pos (starEach es X.env)).any (·.1) = false := by rfl) :
    PE X (.Call (.Name x p) (e :: es) [] pos) (tF X.K bb (fCallF n g ra)) := PE.weak (call_G F hh hg hm hk hb ha hdb he hpl) fun σ H Q ⟨G, ρ, d, ρ', E, ef, kk⟩ => by
  obtain ⟨x, ρ1, h1, h2⟩ := thnE_of ef
  obtain ⟨h3, rfl⟩ := liftO_of h2
  split at h3
  case isFalse => cases h3
  rename_i hl
  refine ⟨G, ρ, x, ρ', E, h1, fun v G1 H1 t1 o1 E1 d1 => ⟨G1, x, d, E1.ex, d1, hl, h3, fun p xs G2 H2 hp hG hH da t2 ex2 => ?_⟩⟩
  exact kk p xs G2 H2 (tr_back t1 hp) hG hH da (t1.trans t2 fun _ _ _ q => q.elim) o1 (E1.tr t2 ex2)
/-- sorted(..), list(..), xs + ys, xs * n as new lists: the value is told to be new -/
def CallN (K : PySem.W.Frag) (r : List V → Hp → VK → Prop) (g : List PyData → Option (List PyData)) : Prop :=
  ∀ (G H : Hp) (xs : List V) (ds z : List PyData) (Q : VK), Ex G H → Da K G xs ds → g ds = some z → (∀ p ys, H p = none → Da K G ys z → Q (.ref p) (upd H p (.lst ys))) → r xs H Q
theorem callN_run {r : List V → Hp → VK → Prop} {g : List PyData → Option (List PyData)} {ra : FE (List PyData)} (hr : CallN X.K r g) {σ : L2.St} {H : Hp} {Q : VK} (h : tF X.K bb (thnE ra fun xs => liftO (g xs)) σ H Q) : tA X.K bb ra σ H fun vs H1 => r vs H1 Q := by
  obtain ⟨G, ρ, d, ρ', E, ef, k⟩ := h
  obtain ⟨x, ρ1, h1, h2⟩ := thnE_of ef
  obtain ⟨h5, rfl⟩ := liftO_of h2
  refine ⟨G, ρ, x, ρ', E, h1, fun v G1 H1 t1 o1 E1 d1 => ?_⟩
  refine hr G1 H1 v x d Q E1.ex d1 h5 fun p ys hp da => ?_
  exact k p ys G1 _ (tr_back t1 hp) (E1.gn hp) upd_same da (t1.trans (tr_mk0 (ow := nobody) hp) fun _ _ _ q => q.elim) o1 (E1.tr (tr_mk0 hp) (ex_new E1.ex hp))
theorem l_callB {id : String} {r : List V → Hp → VK → Prop} {g : List PyData → Option (List PyData)} {ra : FE (List PyData)} (hc : CallR X (.builtin id) r) (hr : CallN X.K r g) (hg : Gl X x) (hm : X.mg x = none)
    (hv : bootBuiltins x = some (.builtin id)) (ha : PA X (e :: es) (tA X.K bb ra)) (hn : x ≠ "__name__" := by decide) (hdb : (x == ("__debug__" : Str)) = false := by decide)
    (he : starEach (e :: es) X.env = (false, eval e X.env) :: starEach es X.env := by rfl) (hpl : (backTo pos (starEach es X.env)).any (·.1) = false := by rfl) : PE X (.Call (.Name x p) (e :: es) [] pos) (tF X.K bb (thnE ra fun xs => liftO (g xs))) :=
  PE.weak (pe_callB hc hg hm hv ha hn hdb he hpl) fun _ _ _ h => callN_run hr h
theorem l_callTy {T : String} {r : List V → Hp → VK → Prop} {g : List PyData → Option (List PyData)} {ra : FE (List PyData)} (hc : CallR X (.type T) r) (hr : CallN X.K r g) (hg : Gl X x) (hm : X.mg x = none)
    (hv : bootBuiltins x = some (.type T)) (ha : PA X (e :: es) (tA X.K bb ra)) (hn : x ≠ "__name__" := by decide) (hdb : (x == ("__debug__" : Str)) = false := by decide)
    (he : starEach (e :: es) X.env = (false, eval e X.env) :: starEach es X.env := by rfl) (hpl : (backTo pos (starEach es X.env)).any (·.1) = false := by rfl) : PE X (.Call (.Name x p) (e :: es) [] pos) (tF X.K bb (thnE ra fun xs => liftO (g xs))) :=
  PE.weak (pe_callTy hc hg hm hv ha hn hdb he hpl) fun _ _ _ h => callN_run hr h
def listN : List PyData → Option (List PyData)
  | [.list ds] => some ds
  | [.tuple ds] => some ds
  | _ => none
theorem n_list {K : PySem.W.Frag} : CallN K (rListD2 K) listN := fun G H xs ds z Q ex hd hz k => by
  unfold listN at hz
  split at hz
  · cases hz
    obtain ⟨v, rfl, h⟩ := da_one hd
    obtain ⟨a, ys, rfl, hy, dy⟩ := dt_list h
    exact ⟨a, ys, rfl, .inl (hy.mono ex).sq, fun l hl => k l ys hl dy⟩
  · cases hz
    obtain ⟨v, rfl, h⟩ := da_one hd
    obtain ⟨a, ys, rfl, hy, dy⟩ := dt_tup h
    exact ⟨a, ys, rfl, .inr (Evl.ex_t ex hy), fun l hl => k l ys hl dy⟩
  · cases hz
theorem e_globE {i : Int} (hg : Gl X x) (hm : ∃ t, X.mg x = some (.int i t)) (hd : (x == ("__debug__" : Str)) = false := by decide) : PE X (.Name x pos) (tE X.K bb (ret (.int i))) := by
  obtain ⟨t, hm⟩ := hm
  exact e_glob hg hm hd
theorem Here.mono {j k : Nat} (h : Here k X) (q : j ≤ k) : Here j X := ⟨h.g, h.r.mono q, h.c⟩
/-- a def as it is called -/
structure Cal (Pr : Program) (w : World) (K : PySem.W.Frag) (mg : Str → Option Value) (base : Heap) (k : Nat) (x : Str) (ps : List Str) (sp : Sp) (f : Addr) (fd : FuncData) : Prop where
  ok : FnG Pr w K mg base k f fd ps sp
  gl : mg x = some (.ref f)
  kp : PySem.W.keepIn K (.ref f) = true
  bd : Binds K fd ps []
theorem t_chain {a b c : Expr} {op op' : CmpOp} {r r' : R2} {g g' : PyData → PyData → Option PyData} {fa fb fc : FE PyData} (ho : OpR X (compareOp op) r) (ho' : OpR X (compareOp op') r') (hr : OpD X.K r g) (hr' : OpD X.K r' g')
    (ha : PE X a (tE X.K bb fa)) (hb : PE X b (tE X.K bb fb)) (hc : PE X c (tE X.K bb fc)) (hm : lastMarks [op, op'] [b, c] = false := by rfl) : PT X (.Compare a [op, op'] [b, c] pos) (tT X.K bb (fTst (fChain g g' fa fb fc))) :=
  PT.weak (pt_chain ho ho' ha hb hc hm) fun σ H Q h => by
    have h' := tst_run h
    exact chain_run hr hr' h'
end
end Tw

set_option Elab.async false
set_option linter.all false
set_option maxRecDepth 100000
set_option maxHeartbeats 2000000
namespace Tw
open PySem PySem.Spec PyProof.Rows L2
open Evl (Ex)
section
variable {X : Cx} {a b e : Expr} {pos : Pos} {bb : Bool} {fa fb fe : FE PyData} {P : List Nat} {K : PySem.W.Frag}
/-! ### x += e -/
def fAug (i : Nat) (g : PyData → PyData → Option PyData) (fe : FE PyData) : FS := fun ρ => match ρ[i]? with
  | some (.d x) => (fe ρ).bind fun p => (g x p.1).bind fun z => if i < p.2.length then some (.nx (p.2.set i (.d z))) else none
  | _ => none
theorem s_aug {i : Nat} {x : Str} {op : Operator} {r : R2} {g : PyData → PyData → Option PyData} {pos' : Pos} (hp : i ∉ P) (hN : X.N.Nodup) (hi : X.N[i]? = some x) (hx : Loc X.env.scope x) (ho : OpR X (inplaceOp op) r) (hr : OpD X.K r g) (he : PE X e (tE X.K bb fe))
    (hf : X.fn x = true ∨ X.env.scope.names.lookup x = some .local := by first | exact .inl rfl | exact .inr rfl) : PS X (.AugAssign (.Name x pos') op e pos) (tS X.K P (fAug i g fe)) :=
  PS.weak (ps_aug (ti := r) hN hi hx he ho hf) fun D σ H ⟨G, ρ, o, E, ef, k⟩ => by
    unfold fAug at ef
    split at ef
    case h_2 => cases ef
    rename_i d0 h0
    obtain ⟨⟨d, ρ1⟩, h1, h2⟩ := Option.bind_eq_some_iff.mp ef
    obtain ⟨z, h3, h4⟩ := Option.bind_eq_some_iff.mp h2
    obtain ⟨hl, rfl⟩ := ite_p h4
    obtain ⟨v, hv, dv⟩ := E.dat i d0 h0
    refine ⟨v, hv, G, ρ, d, ρ1, E, h1, fun u G1 H1 t1 o1 E1 d1 => ?_⟩
    refine hr G1 H1 v u d0 d z _ E1.ex (dv.mono t1.g) d1 h3 fun w G2 H2 t2 x2 d2 => ?_
    have E2 := E1.tr t2 x2
    exact k _ G2 H2 ((Stp.of t1 o1).trans ⟨t2.none, fun l q => .inl (own_set q), fun j hj => List.getElem?_set_ne fun z => hp (by rw [z]; exact hj)⟩) (E2.set hl d2)
/-! ### new lists by an operator -/
def OpN (K : PySem.W.Frag) (r : R2) (g : PyData → PyData → Option (List PyData)) : Prop :=
  ∀ (G H : Hp) (x y : V) (d e : PyData) (z : List PyData) (Q : VK), Ex G H → Dt K G x d → Dt K G y e → g d e = some z → (∀ p ys, H p = none → Da K G ys z → Q (.ref p) (upd H p (.lst ys))) → r x y H Q
def fOpN (g : PyData → PyData → Option (List PyData)) (fa fb : FE PyData) : FE (List PyData) := thnE fa fun x => thnE fb fun y => liftO (g x y)
theorem l_op {op : Operator} {r : R2} {g : PyData → PyData → Option (List PyData)} (ho : OpR X (binaryOp op) r) (hr : OpN X.K r g) (ha : PE X a (tE X.K bb fa)) (hb : PE X b (tE X.K bb fb)) :
    PE X (.BinOp a op b pos) (tF X.K bb (fOpN g fa fb)) := PE.weak (pe_op ho ha hb) fun σ H Q ⟨G, ρ, ds, ρ', E, ef, k⟩ => by
  obtain ⟨x, ρ1, h1, h2⟩ := thnE_of ef
  obtain ⟨y, ρ2, h3, h4⟩ := thnE_of h2
  obtain ⟨h5, rfl⟩ := liftO_of h4
  refine ⟨G, ρ, x, ρ1, E, h1, fun v G1 H1 t1 o1 E1 d1 => ⟨G1, ρ1, y, ρ', E1, h3, fun u G2 H2 t2 o2 E2 d2 => ?_⟩⟩
  refine hr G2 H2 v u x y ds Q E2.ex (d1.mono t2.g) d2 h5 fun p ys hp da => ?_
  have t3 : Tr nobody G2 H2 G2 (upd H2 p (.lst ys)) := tr_mk0 hp
  exact k p ys G2 _ (tr_back t1 (tr_back t2 hp)) (E2.gn hp) upd_same da ((t1.seq o1 t2).trans t3 fun _ _ _ q => q.elim) (fun l q => o1 l (o2 l q)) (E2.tr t3 (ex_new E2.ex hp))
/-- a list times an int -/
def rRepR (K : PySem.W.Frag) : R2 := fun x y H Q => ∃ l k xs, x = .ref l ∧ y = .int k ∧ RL K H l xs ∧ -(2 ^ 63) ≤ k ∧ k < 2 ^ 63 ∧ xs.length * k.toNat ≤ sizeLine ∧
  ∀ p, H p = none → Q (.ref p) (upd H p (.lst (List.replicate k.toNat xs).flatten))
theorem op_repR : OpR X (binaryOp .Mult) (rRepR X.K) := fun pins s σ H x y v u Q I rx ry h => by
  obtain ⟨l, k, xs, rfl, rfl, hH, h1, h2, hz, q⟩ := h
  cases rx
  obtain ⟨t, rfl⟩ := ry
  obtain ⟨z, its, n, r, hl, e⟩ := lstR I hH
  have hlen : its.toArray.size * k.toNat ≤ sizeLine := by rw [List.size_toArray, ← hl]; exact hz
  have hcap : ¬ its.toArray.size * k.toNat > (2 ^ 63 - 1) / 8 := by
    have : (sizeLine : Nat) ≤ (2 ^ 63 - 1) / 8 := by decide
    omega
  have hfit : ¬ (!Builtin.List.listFitsIndex k) = true := by rw [fitsIndex_both h1 h2]; exact Bool.false_ne_true
  have hlong : ¬ Builtin.List.listTooLong (its.toArray.size * k.toNat) = true := by rw [notLongL hlen]; exact Bool.false_ne_true
  have hnew : List.foldl (fun x1 x2 => x1 ++ x2) #[] (List.replicate (if its.toArray.isEmpty = true then 0 else k.toNat) its.toArray) = (List.replicate k.toNat its).flatten.toArray := by
    have f0 : ∀ m : Nat, List.foldl (fun x1 x2 => x1 ++ x2) #[] (List.replicate m its.toArray) = (List.replicate m its).flatten.toArray := fun m => by simpa using foldl_rep its m []
    rw [f0]
    cases its with
    | nil => simp
    | cons a r' => rw [if_neg (by simp)]
  refine wpAny_binaryOp_repeat_ref (T := "list") (U := "int") (by decide) ⟨_, e, rfl⟩ (fun s' => PySem.typeIs_int s' k t) noFill_list_mul F.fills_int_mul F.slot_int_rmul repeat_list F.slot_int_index.lookup
    (call_meets F.slot_int_rmul (PySem.typeIs_int s k t) F.entry_int_rmul (F.args_int_rmul_2 _ _) (int___rmul___int_list k t l its.toArray n)
      ⟨e, rfl, ⟨_, e, rfl⟩, call_meets F.slot_list_mul ⟨_, e, rfl⟩ F.entry_list_mul (F.args_list_mul_2 _ _) (AutoListH.list___mul___list_int_3 l its.toArray n k t hfit hcap hlong) ⟨e, ?_⟩⟩)
  rw [hnew]
  exact ⟨.ref _, _, I.lnew (t' := s.toks) (r.rep k.toNat) (by rw [PyProof.Rows.lm_len_rep_flat, Nat.mul_comm]; exact hz), rfl, q _ I.fresh⟩
theorem Da.rep {G : Hp} {xs : List V} {ds : List PyData} (h : Da K G xs ds) : ∀ n : Nat, Da K G (List.replicate n xs).flatten (List.replicate n ds).flatten
  | 0 => .nil
  | n + 1 => by
    rw [List.replicate_succ, List.replicate_succ, List.flatten_cons, List.flatten_cons]
    exact h.app (Da.rep h n)
def repN : PyData → PyData → Option (List PyData)
  | .list ds, .int k => if -(2 ^ 62) ≤ k ∧ k < 2 ^ 62 ∧ ds.length * k.toNat ≤ 100000 then some (List.replicate k.toNat ds).flatten else none
  | _, _ => none
theorem n_rep : OpN K (rRepR K) repN := fun G H x y d e z Q ex hd he hz k => by
  unfold repN at hz
  split at hz
  · obtain ⟨hb, rfl⟩ := ite_p hz
    obtain ⟨a, xs, rfl, hx, dx⟩ := dt_list hd
    exact ⟨a, _, xs, rfl, dt_int he, hx.mono ex, by omega, by omega, by rw [dx.len]; exact Evl.sz_of hb.2.2, fun p hp => k p _ hp (dx.rep _)⟩
  · cases hz
/-- list + list -/
def catN : PyData → PyData → Option (List PyData)
  | .list ds, .list es => if sizeOk (ds.length + es.length) = true then some (ds ++ es) else none
  | _, _ => none
theorem n_cat : OpN K (rCatR K) catN := fun G H x y d e z Q ex hd he hz k => by
  unfold catN at hz
  split at hz
  · obtain ⟨hs, rfl⟩ := ite_p hz
    obtain ⟨a, xs, rfl, hx, dx⟩ := dt_list hd
    obtain ⟨b, ys, rfl, hy, dy⟩ := dt_list he
    exact ⟨a, b, xs, ys, rfl, rfl, hx.mono ex, hy.mono ex, by rw [dx.len, dy.len]; exact sizeOk_le hs, fun p hp => k p _ hp (dx.app dy)⟩
  · cases hz
end
/-- how these reckon -/
theorem fAug_ok {i : Nat} {g : PyData → PyData → Option PyData} {fe : FE PyData} {ρ ρ1 : Rho} {x d z : PyData} (h0 : ρ[i]? = some (.d x)) (h1 : fe ρ = some (d, ρ1)) (h2 : g x d = some z) (h3 : i < ρ1.length) : fAug i g fe ρ = some (.nx (ρ1.set i (.d z))) := by
  unfold fAug
  rw [h0]
  dsimp only
  rw [h1, Option.bind_some]
  dsimp only
  rw [h2, Option.bind_some, if_pos h3]
end Tw

set_option Elab.async false
set_option linter.all false
set_option maxRecDepth 100000
set_option maxHeartbeats 2000000
namespace Tw
open PySem PySem.Spec PyProof.Rows L2
open Evl (Ex)
/-! ### a module's tuples -/
mutual
/-- what a module's value reads as, whatever the heap -/
inductive KD (K : PySem.W.Frag) : Value → PyData → Prop
  | nn : KD K .none .none
  | bb (b : Bool) : KD K (.bool b) (.bool b)
  | ii (i : Int) (t : Tok) : KD K (.int i t) (.int i)
  | ss (x : Str) (t : Tok) : KD K (.str x t) (.str x)
  | tt {a : Addr} {o : Obj} {its : Array Value} {n : Nat} {ds : List PyData} (h : K.lookup a = some o) (hn : o.dict = none) (hc : o.cls = .type "tuple") (hd : o.data = .seq its n) (hz : its.size ≤ sizeLine) (t : KDs K its.toList ds) : KD K (.ref a) (.tuple ds)
inductive KDs (K : PySem.W.Frag) : List Value → List PyData → Prop
  | nil : KDs K [] []
  | cons {u : Value} {us : List Value} {d : PyData} {ds : List PyData} (h : KD K u d) (t : KDs K us ds) : KDs K (u :: us) (d :: ds)
end
mutual
theorem KD.data {K : PySem.W.Frag} : ∀ {u : Value} {d : PyData}, KD K u d → ∃ v, RelV v u ∧ ∀ G, Dt K G v d
  | _, _, .nn => ⟨.non, rfl, fun _ => .nn⟩
  | _, _, .bb b => ⟨.bl b, rfl, fun _ => .bb b⟩
  | _, _, .ii i t => ⟨.int i, ⟨t, rfl⟩, fun _ => .ii i⟩
  | _, _, .ss x t => ⟨.str x, ⟨t, rfl⟩, fun _ => .ss x⟩
  | _, _, .tt h hn hc hd hz t => by
    obtain ⟨vs, r, q⟩ := KDs.data t
    exact ⟨.ref _, rfl, fun G => .tt (.inr ⟨_, _, _, h, hn, hc, hd, hz, r⟩) (q G)⟩
theorem KDs.data {K : PySem.W.Frag} : ∀ {us : List Value} {ds : List PyData}, KDs K us ds → ∃ vs, Vals vs us ∧ ∀ G, Da K G vs ds
  | _, _, .nil => ⟨[], .nil, fun _ => .nil⟩
  | _, _, .cons h t => by
    obtain ⟨v, r, q⟩ := KD.data h
    obtain ⟨vs, r2, q2⟩ := KDs.data t
    exact ⟨v :: vs, .cons r r2, fun G => .cons (q G) (q2 G)⟩
end
section
variable {X : Cx} {a b e : Expr} {es : List Expr} {pos p : Pos} {bb : Bool} {fa fb fe fi : FE PyData} {P : List Nat} {K : PySem.W.Frag} {x : Str}
theorem e_globT {d : PyData} (hg : Gl X x) (hm : ∃ u, X.mg x = some u ∧ KD X.K u d) (hd : (x == ("__debug__" : Str)) = false := by decide) : PE X (.Name x pos) (tE X.K bb (ret d)) := by
  obtain ⟨u, hm, k⟩ := hm
  obtain ⟨v, r, q⟩ := k.data
  exact e_con (pe_glob hg hm r hd) q
/-! ### is not, of truths -/
def notB : PyData → PyData → Option PyData
  | .bool a, .bool b => some (.bool (!decide (a = b)))
  | _, _ => none
theorem d_notB : OpD K rNotB notB := fun G H x y d e z Q ex hd he hz k => by
  unfold notB at hz
  split at hz
  · cases hz
    exact ⟨_, _, dt_bool hd, dt_bool he, k _ G H .refl ex (.bb _)⟩
  · cases hz
/-! ### a, b = x, y -/
def fPar (i j : Nat) (r : FE (List PyData)) : FS := fun ρ => (r ρ).bind fun p => match p.1 with
  | [x, y] => if i < p.2.length ∧ j < p.2.length then some (.nx ((p.2.set i (.d x)).set j (.d y))) else none
  | _ => none
theorem s_par {i j : Nat} {x y : Str} {r : FE (List PyData)} {px py pt pt2 : Pos} {kt k2 : Nat} (hpi : i ∉ P) (hpj : j ∉ P) (hc : X.calm = true) (hN : X.N.Nodup) (hi : X.N[i]? = some x) (hj : X.N[j]? = some y) (hij : i ≠ j)
    (hx : X.env.scope.names.lookup x = some .local) (hy : X.env.scope.names.lookup y = some .local) (ha : PA X [a, b] (tA X.K bb r))
    (hw : swappedStores [.Tuple [.Name x px, .Name y py] kt pt] (.Tuple [a, b] k2 pt2) X.env = pure (some [x, y]) := by rfl)
    (hs : swapsWithSole [.Tuple [.Name x px, .Name y py] kt pt] (.Tuple [a, b] k2 pt2) pos.line X.env = pure false := by rfl) :
    PS X (.Assign [.Tuple [.Name x px, .Name y py] kt pt] (.Tuple [a, b] k2 pt2) pos) (tS X.K P (fPar i j r)) := PS.weak (ps_par hc hN hi hj hij hx hy ha hw hs) fun D σ H ⟨G, ρ, o, E, ef, k⟩ => by
  unfold fPar at ef
  obtain ⟨⟨ds, ρ1⟩, h1, h2⟩ := Option.bind_eq_some_iff.mp ef
  dsimp only at h2
  split at h2
  case h_2 => cases h2
  rename_i d1 d2
  obtain ⟨⟨l1, l2⟩, rfl⟩ := ite_p h2
  refine ⟨G, ρ, _, ρ1, E, h1, fun vs G1 H1 t1 o1 E1 da => ?_⟩
  obtain ⟨v, w, rfl, dv, dw⟩ := da_two da
  refine ⟨v, w, rfl, ?_⟩
  have E2 := E1.set l1 dv
  have E3 := E2.set (by rw [List.length_set]; exact l2) dw
  exact k _ G1 H1 ((Stp.of t1 o1).trans ⟨.refl, fun l q => .inl (own_set (own_set q)), fun m hm => by
    rw [List.getElem?_set_ne fun z => hpj (by rw [z]; exact hm), List.getElem?_set_ne fun z => hpi (by rw [z]; exact hm)]⟩) E3
/-! ### a def that changes its list, called with a new one -/
variable {k n : Nat} {f : Addr} {fd : FuncData} {ps : List Str}
def fCallN (n : Nat) (g : List PyData → List PyData → Option (PyData × List PyData)) (r0 : FE (List PyData)) (ra : FE (List PyData)) : FE PyData := thnE r0 fun ms => thnE ra fun ds => liftO (if ds.length = n then (g ms ds).map (·.1) else none)
/-- beside a new list that no slot holds -/
theorem env_keep {G H G1 H1 : Hp} {σ : L2.St} {ρ : Rho} {l : Addr} (E : EnvOk K G H σ ρ) (nw : ¬ own σ ρ l) (t : Tr (fun a => a = l) G H G1 H1) (e : Ex G1 H1) : EnvOk K G1 H1 σ ρ where
  ex := e
  len := E.len
  dat := fun i d q => by
    obtain ⟨v, h1, h2⟩ := E.dat i d q
    exact ⟨v, h1, h2.mono t.g⟩
  mu := fun i ds q => by
    obtain ⟨m, xs, h1, h2, h3, h4⟩ := E.mu i ds q
    have ne : m ≠ l := fun z => nw (by rw [← z]; exact ⟨i, ds, q, h1⟩)
    exact ⟨m, xs, h1, t.n m _ h3 h2 ne, t.h m _ h3 ne, h4.mono t.g⟩
  ne := E.ne
theorem e_callN {g : List PyData → List PyData → Option (PyData × List PyData)} {r0 ra : FE (List PyData)} (F : FnG X.prog X.w X.K X.mg X.base k f fd ps (spM X.K n g)) (hh : Here k X) (hg : Gl X x) (hm : X.mg x = some (.ref f)) (hk : PySem.W.keepIn X.K (.ref f) = true) (hb : Binds X.K fd ps [])
    (h0 : PE X e (tF X.K true r0)) (ha : PA X es (tA X.K true ra)) (hdb : (x == ("__debug__" : Str)) = false := by decide) (he : starEach (e :: es) X.env = (false, eval e X.env) :: starEach es X.env := by rfl) (hpl : (backTo pos (starEach es X.env)).any (·.1) = false := by rfl) :
    PE X (.Call (.Name x p) (e :: es) [] pos) (tE X.K true (fCallN n g r0 ra)) := PE.weak (call_G F hh hg hm hk hb (pa_cons h0 ha he) hdb he hpl) fun σ H Q ⟨G, ρ, d, ρ', E, ef, kk⟩ => by
  obtain ⟨ms, ρ1, h1, h2⟩ := thnE_of ef
  obtain ⟨ds, ρ2, h3, h4⟩ := thnE_of h2
  obtain ⟨h5, rfl⟩ := liftO_of h4
  split at h5
  case isFalse => cases h5
  rename_i hl
  obtain ⟨⟨z, ms'⟩, h6, rfl⟩ := Option.map_eq_some_iff.mp h5
  refine ⟨G, ρ, ms, ρ1, E, h1, fun l xs G1 H1 hp hG hH dx t1 o1 E1 => ?_⟩
  have nw : ¬ own σ ρ1 l := fun q => by
    obtain ⟨ys, z⟩ := own_there E (o1 l q)
    rw [hp] at z
    cases z
  refine ⟨G1, ρ1, ds, ρ', E1, h3, fun ws G2 H2 t2 o2 E2 d2 => ?_⟩
  have nw2 : ¬ own σ ρ' l := fun q => nw (o2 l q)
  have not2 : ¬ ows true σ ρ1 l := fun q => nw q.2
  have hG2 : G2 l = none := t2.n l _ hH hG not2
  have hH2 : H2 l = some (.lst xs) := t2.h l _ hH not2
  refine ⟨G2, l, xs, ws, ms, ds, _, ms', rfl, E2.ex, hG2, hH2, dx.mono t2.g, d2, hl, h6, fun v G3 H3 xs' t3 ex3 hG3 hH3 dx3 dv => ?_⟩
  have t12 := t1.seq o1 t2
  have t13 : Tr (ows true σ ρ) G H G3 H3 := {
    g := fun x o q => t3.g x o (t12.g x o q)
    h := fun x o q w => by
      by_cases z : x = l
      · subst z; rw [hp] at q; cases q
      · exact t3.h x o (t12.h x o q w) z
    n := fun x o q gq w => by
      by_cases z : x = l
      · subst z; rw [hp] at q; cases q
      · exact t3.n x o (t12.h x o q w) (t12.n x o q gq w) z
    k := fun x o q => let ⟨u, e⟩ := t12.k x o q; t3.k x u e }
  exact kk v G3 H3 t13 (fun l' q => o1 l' (o2 l' q)) (env_keep E2 nw2 t3 ex3) dv
end
end Tw

set_option Elab.async false
set_option linter.all false
set_option maxRecDepth 100000
set_option maxHeartbeats 2000000
namespace Tw
open PySem PySem.Spec PyProof.Rows L2
open Evl (Ex)
section
variable {X : Cx} {a b e i : Expr} {es : List Expr} {pos p q : Pos} {bb : Bool} {fa fb fe fi : FE PyData} {P : List Nat} {K : PySem.W.Frag} {x : Str}
/-! ### tuple(range(n)) -/
def fTupRg (f : FE PyData) : FE PyData := thnE f fun x => liftO ((rg1 x).map .tuple)
theorem e_tupRg (hc : X.calm = true) (hg : Gl X "tuple") (hm : X.mg "tuple" = none) (hgr : Gl X "range") (hmr : X.mg "range" = none) (ha : PE X a (tE X.K bb fa))
    (n1 : starEach [a] X.env = (false, eval a X.env) :: starEach [] X.env := by rfl) (n2 : starEach [.Call (.Name "range" q) [a] [] p] X.env = (false, eval (.Call (.Name "range" q) [a] [] p) X.env) :: starEach [] X.env := by rfl) {pl : Pos} :
    PE X (.Call (.Name "tuple" pl) [.Call (.Name "range" q) [a] [] p] [] pos) (tE X.K bb (fTupRg fa)) := PE.weak (pe_tupRgP hc hg hm (prg_1 hgr hmr ha n1) n2) fun σ H Q ⟨G, ρ, d, ρ', E, ef, k⟩ => by
  obtain ⟨x, ρ1, h1, h2⟩ := thnE_of ef
  obtain ⟨h4, rfl⟩ := liftO_of h2
  obtain ⟨ds, h3, rfl⟩ := Option.map_eq_some_iff.mp h4
  refine ⟨G, ρ, x, ρ', E, h1, fun v G1 H1 t1 o1 E1 d1 => ?_⟩
  unfold rg1 at h3
  split at h3
  · obtain ⟨h6, rfl⟩ := ite_p h3
    have h5 := of_decide_eq_true h6
    refine ⟨_, dt_int d1, RgOk.of_le (by omega) (by omega) (by omega) (by omega), fun l ob hl ho => ?_⟩
    have da := rg_da (K := X.K) (G := G1) 0 ‹Int›
    rw [Int.sub_zero] at da
    have t2 : Tr nobody G1 H1 (upd G1 l (.frz ob (.tup (rgV 0 ‹Int›)))) (upd H1 l (.frz ob (.tup (rgV 0 ‹Int›)))) := Tr.new hl E1.ex
    exact k _ _ _ (t1.trans t2 fun _ _ _ q => q.elim) o1 (E1.tr t2 (ex_upd E1.ex)) (.tt (PTu.new ho) (da.mono t2.g))
  · cases h3
/-! ### xs[i] += e, a list of one's own -/
def rGetL : V → V → Hp → VK → Prop := fun o i H Q => ∃ p xs k v, o = .ref p ∧ i = .int k ∧ H p = some (.lst xs) ∧ atI xs k = some v ∧ Q v H
theorem get_list : PGet X rGetL := fun pins s σ H o i ov iv Q I ro ri h => by
  obtain ⟨p, xs, k, z, rfl, rfl, hp, he, q⟩ := h
  cases ro
  obtain ⟨t, rfl⟩ := ri
  obtain ⟨its, r, pl, hz⟩ := I.list (SqL.of hp)
  obtain ⟨j, h1, h2, h3, h4, h5⟩ := atI_get he
  obtain ⟨w, ew, rw'⟩ := r.get h2
  have hl := r.length
  have hn := line63
  have fin : EP X pins σ Q w s := ⟨z, H, I, rw', q⟩
  by_cases h0 : 0 ≤ k
  · have hj : k.toNat = j := by
      rw [seqIndex_of h0 h5] at h1
      exact Option.some.inj h1
    exact wpAny_getItem_list pl.isList h0 (by omega) (by rw [hj]; simpa using ew) fin
  · have hj : (k + (its.toArray.size : Int)).toNat = j := by
      rw [seqIndex_neg (by omega) h4] at h1
      rw [List.size_toArray, ← hl]
      exact Option.some.inj h1
    exact wpAny_getItem_list_neg pl.isList (by omega) (by rw [List.size_toArray] <;> omega) (by omega) (by rw [hj]; simpa using ew) fin
/-- the number is told ahead of e, the list of both -/
def fAugI (i : Nat) (g : PyData → PyData → Option PyData) (fi fe : FE PyData) : FS := fun ρ => match ρ[i]? with
  | some (.m (.l _)) => (fi ρ).bind fun p => match p.1, p.2[i]? with
    | .int k, some (.m (.l ms)) => (ixN ms.length k).bind fun j => (ms[j]?).bind fun x => (fe p.2).bind fun q => match q.2[i]? with
      | some (.m (.l ns)) => if ns.length = ms.length then (g x q.1).map fun z => .nx (q.2.set i (.m (.l (ns.set j z)))) else none
      | _ => none
    | _, _ => none
  | _ => none
theorem ixN_at {xs : List V} {k : Int} {j : Nat} (h : ixN xs.length k = some j) {v : V} (hv : xs[j]? = some v) : atI xs k = some v := by
  unfold atI
  rw [h]
  exact hv
theorem s_augI {op : Operator} {r : R2} {g : PyData → PyData → Option PyData} {o ie : Expr} {tpos : Pos} (n : Nat) (ho : PE X o (tVar n)) (hi : PE X ie (tE X.K true fi)) (hop : OpR X (inplaceOp op) r) (hr : OpD X.K r g) (he : PE X e (tE X.K true fe))
    (ha : ∀ ov iv new, augStore ie ov iv new = (do holding [new, ov, iv] (setItem ov iv new); release [new, ov, iv] []; pure .next) := by intros; rfl) :
    PS X (.AugAssign (.Subscript o ie tpos) op e pos) (tS X.K P (fAugI n g fi fe)) :=
  PS.weak (ps_augS (tip := r) ho hi get_list he hop set_list ha) fun D σ H ⟨G, ρ, o, E, ef, k⟩ => by
    unfold fAugI at ef
    split at ef
    case h_2 => cases ef
    rename_i ms0 h0
    obtain ⟨⟨dk, ρ1⟩, h1, h2⟩ := Option.bind_eq_some_iff.mp ef
    dsimp only at h2
    split at h2
    case h_2 => cases h2
    rename_i kk ms hm1
    obtain ⟨j, hj, h3⟩ := Option.bind_eq_some_iff.mp h2
    obtain ⟨x, hx, h4⟩ := Option.bind_eq_some_iff.mp h3
    obtain ⟨⟨y, ρ2⟩, h5, h6⟩ := Option.bind_eq_some_iff.mp h4
    dsimp only at h6
    split at h6
    case h_2 => cases h6
    rename_i ns hm2
    split at h6
    case isFalse => cases h6
    rename_i hlen
    obtain ⟨z, hz, rfl⟩ := Option.map_eq_some_iff.mp h6
    obtain ⟨l, xs0, hσ, _, _, _⟩ := E.muL h0
    refine ⟨.ref l, hσ, G, ρ, _, ρ1, E, h1, fun vk G1 H1 t1 o1 E1 d1 => ?_⟩
    obtain ⟨l1, xs1, hσ1, hG1, hH1, dx1⟩ := E1.muL hm1
    rw [hσ] at hσ1
    cases hσ1
    obtain ⟨vx, hvx, dvx⟩ := dx1.get hx
    have hj1 : ixN xs1.length kk = some j := by rw [dx1.len]; exact hj
    refine ⟨l, xs1, kk, vx, rfl, dt_int d1, hH1, ixN_at hj1 hvx, G1, ρ1, y, ρ2, E1, h5, fun vy G2 H2 t2 o2 E2 d2 => ?_⟩
    obtain ⟨l2, xs2, hσ2, hG2, hH2, dx2⟩ := E2.muL hm2
    rw [hσ] at hσ2
    cases hσ2
    refine hr G2 H2 vx vy x y z _ E2.ex (dvx.mono t2.g) d2 hz fun vz G3 H3 t3 x3 d3 => ?_
    have E3 := E2.tr t3 x3
    obtain ⟨l3, xs3, hσ3, hG3, hH3, dx3⟩ := E3.muL hm2
    rw [hσ] at hσ3
    cases hσ3
    have hj3 : ixN xs3.length kk = some j := by rw [dx3.len, hlen]; exact hj
    refine ⟨l, xs3, kk, j, rfl, dt_int d1, hH3, hj3, ?_⟩
    have own3 : own σ ρ2 l := ⟨n, ns, hm2, hσ⟩
    have s13 : Stp P G H σ ρ G3 H3 σ ρ2 := ((Stp.of t1 o1).trans (.of t2 o2)).trans ⟨t3.none, fun _ q => .inl q, fun _ _ => rfl⟩
    have t4 : Tr (fun a => a = l) G3 H3 G3 (upd H3 l (.lst (xs3.set j vz))) := tr_cell hG3 hH3
    refine k σ G3 _ (s13.trans ⟨t4.wide fun a _ _ q => by rw [q]; exact own3, fun l' q => .inl (own_setM hm2 q), fun _ _ => rfl⟩) ?_
    exact env_setM E3 hm2 hσ t4 (ex_cell E3.ex hG3) hG3 upd_same (.l (Da.set j d3 dx3))
end
/-- how it reckons -/
theorem fAugI_ok {i : Nat} {g : PyData → PyData → Option PyData} {fi fe : FE PyData} {ρ ρ1 ρ2 : Rho} {ms0 ms ns : List PyData} {k : Int} {j : Nat} {x y z : PyData} (h0 : ρ[i]? = some (.m ms0)) (h1 : fi ρ = some (.int k, ρ1)) (h2 : ρ1[i]? = some (.m ms)) (h3 : ixN ms.length k = some j) (h4 : ms[j]? = some x)
    (h5 : fe ρ1 = some (y, ρ2)) (h6 : ρ2[i]? = some (.m ns)) (h7 : ns.length = ms.length) (h8 : g x y = some z) : fAugI i g fi fe ρ = some (.nx (ρ2.set i (.m (ns.set j z)))) := by
  unfold fAugI
  rw [h0]
  dsimp only
  rw [h1, Option.bind_some]
  dsimp only
  rw [h2]
  dsimp only
  rw [h3, Option.bind_some, h4, Option.bind_some, h5, Option.bind_some]
  dsimp only
  rw [h6]
  dsimp only
  rw [if_pos h7, h8]
  rfl
end Tw

set_option Elab.async false
set_option linter.all false
set_option maxRecDepth 100000
set_option maxHeartbeats 2000000
namespace Tw
open PySem PySem.Spec PyProof.Rows L2
open Evl (Ex)
/-! ### dicts, read and filled -/
def keyOf : PyData → Option Key
  | .int i => some (.inl i)
  | .str x => some (.inr x)
  | _ => none
def isK : Key → PyData → Bool
  | .inl i, .int j => decide (j = i)
  | .inr x, .str y => decide (y = x)
  | _, _ => false
theorem isK_key (k q : Key) : isK k (keyD q) = decide (q = k) := by
  cases k <;> cases q <;> simp [isK, keyD]
def getE (es : List (PyData × PyData)) (k : Key) : Option PyData := (es.find? fun e => isK k e.1).map (·.2)
def hasE (es : List (PyData × PyData)) (k : Key) : Bool := es.any fun e => isK k e.1
def putE (es : List (PyData × PyData)) (k : Key) (v : PyData) : List (PyData × PyData) :=
  if hasE es k = true then es.map (fun e => if isK k e.1 = true then (e.1, v) else e) else es ++ [(keyD k, v)]
section
variable {K : PySem.W.Frag} {G : Hp}
def zipE (kvs : List (Key × V)) (ds : List PyData) : List (PyData × PyData) := (kvs.map fun p => keyD p.1).zip ds
theorem ek_get (k : Key) : ∀ {kvs : List (Key × V)} {ds : List PyData}, Da K G (kvs.map (·.2)) ds → (∀ d, getE (zipE kvs ds) k = some d → ∃ v, valV kvs k = some v ∧ Dt K G v d) ∧ (getE (zipE kvs ds) k = none → valV kvs k = none) ∧ hasE (zipE kvs ds) k = (valV kvs k).isSome
  | [], ds, h => by
    cases h
    exact ⟨fun d q => (by cases q), fun _ => rfl, rfl⟩
  | p :: kvs, ds, h => by
    cases h with
    | cons h1 h2 =>
      rename_i d0 ds
      obtain ⟨i1, i2, i3⟩ := ek_get k h2
      have e : zipE (p :: kvs) (d0 :: ds) = (keyD p.1, d0) :: zipE kvs ds := rfl
      rw [e]
      unfold getE at i1 i2 ⊢
      unfold hasE at i3 ⊢
      by_cases c : p.1 = k
      · have t : isK k (keyD p.1) = true := by rw [isK_key, decide_eq_true c]
        rw [List.find?_cons_of_pos (p := fun e : PyData × PyData => isK k e.1) t, valV_pos c, List.any_cons, t]
        exact ⟨fun d q => ⟨_, rfl, by cases q; exact h1⟩, fun q => (by cases q), rfl⟩
      · have t : isK k (keyD p.1) = false := by rw [isK_key, decide_eq_false c]
        rw [List.find?_cons_of_neg (p := fun e : PyData × PyData => isK k e.1) (by rw [t]; decide), valV_neg c, List.any_cons, t, Bool.false_or]
        exact ⟨i1, i2, i3⟩
theorem ek_map {k : Key} {v : V} {d : PyData} (hv : Dt K G v d) : ∀ {kvs : List (Key × V)} {ds : List PyData}, Da K G (kvs.map (·.2)) ds →
    ∃ ds', Da K G ((kvs.map fun kv => if kv.1 = k then (kv.1, v) else kv).map (·.2)) ds' ∧ (zipE kvs ds).map (fun e => if isK k e.1 = true then (e.1, d) else e) = zipE (kvs.map fun kv => if kv.1 = k then (kv.1, v) else kv) ds'
  | [], ds, h => by
    cases h
    exact ⟨[], .nil, rfl⟩
  | p :: kvs, ds, h => by
    cases h with
    | cons h1 h2 =>
      rename_i d0 ds
      obtain ⟨ds', a, b⟩ := ek_map (k := k) hv h2
      have e : zipE (p :: kvs) (d0 :: ds) = (keyD p.1, d0) :: zipE kvs ds := rfl
      rw [e]
      by_cases c : p.1 = k
      · have t : isK k (keyD p.1) = true := by rw [isK_key, decide_eq_true c]
        refine ⟨d :: ds', ?_, ?_⟩
        · show Da K G ((if p.1 = k then (p.1, v) else p).2 :: _) _
          rw [if_pos c]
          exact .cons hv a
        · show (if isK k (keyD p.1) = true then (keyD p.1, d) else (keyD p.1, d0)) :: (zipE kvs ds).map _ = zipE ((if p.1 = k then (p.1, v) else p) :: kvs.map _) _
          rw [b, if_pos t, if_pos c]
          rfl
      · have t : isK k (keyD p.1) = false := by rw [isK_key, decide_eq_false c]
        refine ⟨d0 :: ds', ?_, ?_⟩
        · show Da K G ((if p.1 = k then (p.1, v) else p).2 :: _) _
          rw [if_neg c]
          exact .cons h1 a
        · show (if isK k (keyD p.1) = true then (keyD p.1, d) else (keyD p.1, d0)) :: (zipE kvs ds).map _ = zipE ((if p.1 = k then (p.1, v) else p) :: kvs.map _) _
          rw [b, if_neg (by rw [t]; decide), if_neg c]
          rfl
theorem ek_put {k : Key} {v : V} {d : PyData} {kvs : List (Key × V)} {ds : List PyData} (hv : Dt K G v d) (h : Da K G (kvs.map (·.2)) ds) : MuOk K G (.dK (putK kvs k v)) (.k (putE (zipE kvs ds) k d)) := by
  obtain ⟨_, _, i3⟩ := ek_get k h
  have c : (kvs.any fun kv => decide (kv.1 = k)) = hasE (zipE kvs ds) k := by rw [i3, valV_any]
  unfold putK putE
  rw [c]
  by_cases q : hasE (zipE kvs ds) k = true
  · rw [if_pos q, if_pos q]
    obtain ⟨ds', a, b⟩ := ek_map (k := k) hv h
    rw [b]
    exact .k a
  · rw [if_neg q, if_neg q]
    have l : (kvs.map fun p => keyD p.1).length = ds.length := by rw [List.length_map, ← h.len, List.length_map]
    have e : zipE kvs ds ++ [(keyD k, d)] = zipE (kvs ++ [(k, v)]) (ds ++ [d]) := by
      unfold zipE
      rw [List.map_append, List.zip_append l]
      rfl
    rw [e]
    refine .k ?_
    rw [List.map_append]
    exact h.app (Da.one hv)
/-- data dicts, read -/
theorem dt_dict {v : V} {es : List (PyData × PyData)} (h : Dt K G v (.dict es)) : ∃ a kvs ds, v = .ref a ∧ G a = some (.dK kvs) ∧ Da K G (kvs.map (·.2)) ds ∧ es = zipE kvs ds := by
  cases h with
  | dd h t => exact ⟨_, _, _, rfl, h, t, rfl⟩
theorem keyOf_dt {v : V} {d : PyData} {k : Key} (h : Dt K G v d) (e : keyOf d = some k) : v = kV k := by
  cases h <;> cases e <;> rfl
end
theorem tr_cell' {G H : Hp} {l : Addr} {o o' : HO} (hH : H l = some o) : Tr (fun a => a = l) G H G (upd H l o') where
  g := fun _ _ q => q
  h := fun x u q n => by rw [upd_ne n]; exact q
  n := fun _ _ _ q _ => q
  k := fun x u q => by
    by_cases z : x = l
    · subst z; exact ⟨_, upd_same⟩
    · exact ⟨u, by rw [upd_ne z]; exact q⟩
section
variable {X : Cx} {bb : Bool} {P : List Nat} {pos tpos : Pos}
def rDg : R2 := fun x y H Q => ∃ a v, x = .ref a ∧ DGet H a y (some v) ∧ Q v H
theorem ix_dict (hu : X.A.units + 1 < cLine) : IxR X rDg := by
  intro value slice pins s σ H x y v u Q I rx ry q hs
  obtain ⟨a, w, rfl, g, q⟩ := q
  cases rx
  have hT := dict_typeIs I g
  unfold subscriptTail
  refine wpAny_bind ?_
  rw [getitemInPython_of_ne hT.not_modules]
  refine wpAny_bind (wpAny_specialOf hT PySem.F.slot_dict_getitem.lookup ?_)
  have h₂ := d_getItem (A := X.A) (E := X.xe) (Q := EP X pins σ Q) hu I g ry fun w' s3 I3 rw' => ⟨w, H, I3, rw', q⟩
  have fin : wpAny (model X.prog X.w) X.A (subscripted slice false (.ref a) u) (fun r s₃ => wpAny (model X.prog X.w) X.A (letTemporaryGo value (.ref a) r >>= fun _ => pure r) (EP X pins σ Q) X.xe s₃) X.xe s := by
    rw [hs]
    exact wpAny_operating (wpAny_mono h₂ (fun r s₃ h₃ => wpAny_bind (wpAny_letTemporaryGo (wpAny_pure h₃))) fun _ _ x => x)
  first
    | exact wpAny_pure (wpAny_bind fin)
    | exact wpAny_bind (wpAny_pure (wpAny_bind fin))
    | exact wpAny_bind fin
def dgD : PyData → PyData → Option PyData
  | .dict es, x => (keyOf x).bind (getE es)
  | _, _ => none
theorem d_dg : OpD X.K rDg dgD := fun G H x y d e z Q ex hd he hz k => by
  unfold dgD at hz
  split at hz
  · obtain ⟨kk, h1, h2⟩ := Option.bind_eq_some_iff.mp hz
    obtain ⟨a, kvs, ds, rfl, hx, dx, rfl⟩ := dt_dict hd
    obtain ⟨v, hv, dv⟩ := (ek_get kk dx).1 _ h2
    have ey := keyOf_dt he h1
    refine ⟨a, v, rfl, ?_, k v G H .refl ex dv⟩
    rw [ey, ← hv]
    exact DGet.k (ex _ _ hx)
  · cases hz
/-- a list, a tuple, a text or a dict -/
def ixE (d x : PyData) : Option PyData := (ixD d x).or (dgD d x)
theorem ix_all (hu : X.A.units + 1 < cLine) : IxR X (fun x y H Q => rIx3 X.K x y H Q ∨ rDg x y H Q) := ix_seqB.or (ix_dict hu)
theorem d_ixE : OpD X.K (fun x y H Q => rIx3 X.K x y H Q ∨ rDg x y H Q) ixE := d_ix.or d_dg
/-- in, not in -/
def rDin (neg : Bool) : R2 := fun x y H Q => ∃ a o, y = .ref a ∧ DGet H a x o ∧ Q (.bl (if neg = true then !o.isSome else o.isSome)) H
theorem op_inDict (hu : X.A.units + 1 < cLine) : OpR X (compareOp .In) (rDin false) := by
  intro pins s σ H x y v u Q I rx ry q
  obtain ⟨a, o, rfl, g, q⟩ := q
  cases ry
  exact L2.d_in hu I g rx fun s3 I3 => ⟨.bl o.isSome, H, I3, rfl, q⟩
theorem op_notInDict (hu : X.A.units + 1 < cLine) : OpR X (compareOp .NotIn) (rDin true) := by
  intro pins s σ H x y v u Q I rx ry q
  obtain ⟨a, o, rfl, g, q⟩ := q
  cases ry
  exact L2.d_notIn hu I g rx fun s3 I3 => ⟨.bl (!o.isSome), H, I3, rfl, q⟩
def inK (neg : Bool) : PyData → PyData → Option PyData
  | x, .dict es => (keyOf x).map fun k => .bool (if neg = true then !hasE es k else hasE es k)
  | _, _ => none
theorem d_inK (neg : Bool) : OpD X.K (rDin neg) (inK neg) := fun G H x y d e z Q ex hd he hz k => by
  unfold inK at hz
  split at hz
  · obtain ⟨kk, h1, rfl⟩ := Option.map_eq_some_iff.mp hz
    obtain ⟨a, kvs, ds, rfl, hx, dx, rfl⟩ := dt_dict he
    have ey := keyOf_dt hd h1
    refine ⟨a, valV kvs kk, rfl, ?_, ?_⟩
    · rw [ey]
      exact DGet.k (ex _ _ hx)
    · rw [← (ek_get kk dx).2.2]
      exact k _ G H .refl ex (.bb _)
  · cases hz
/-! x = {} -/
def fOwnK (i : Nat) : FS := fun ρ => if i < ρ.length then some (.nx (ρ.set i (.m (.k [])))) else none
theorem s_ownK (i : Nat) {tg : Expr} {dpos : Pos} (hp : i ∉ P) (ht : PG X tg (gName i)) (hs : swapsWithSole [tg] (.Dict [] [] dpos) pos.line X.env = pure false := by rfl) (hw : swappedStores [tg] (.Dict [] [] dpos) X.env = pure none := by rfl)
    (h1 : (assignEach [tg] X.env).map (·.2) = [assign tg X.env] := by rfl) : PS X (.Assign [tg] (.Dict [] [] dpos) pos) (tS X.K P (fOwnK i)) := PS.weak (ps_asg pe_dnewK ht hs hw h1) fun D σ H ⟨G, ρ, o, E, ef, k⟩ => by
  obtain ⟨hi, rfl⟩ := ite_p ef
  intro p hp0
  have hi' : i < σ.length := by rw [E.len]; exact hi
  have t : Tr nobody G H G (upd H p (.dK [])) := tr_mk0 hp0
  have hG : G p = none := E.gn hp0
  have notp : ¬ own σ ρ p := fun q => by
    obtain ⟨ys, z⟩ := own_there E q
    rw [hp0] at z
    cases z
  have own' : ∀ l, own (σ.set i (some (.ref p))) (ρ.set i (.m (.k []))) l → l = p ∨ own σ ρ l := fun l ⟨j, es, w1, w2⟩ => by
    rcases set_get w1 with ⟨rfl, _⟩ | ⟨n, w1⟩
    · rw [List.getElem?_set_self hi'] at w2
      cases w2
      exact .inl rfl
    · rw [List.getElem?_set_ne (Ne.symm n)] at w2
      exact .inr ⟨j, es, w1, w2⟩
  have E1 := E.tr t (ex_new E.ex hp0)
  refine k _ G _ ⟨t.wide fun _ _ _ q => q.elim, fun l q => (own' l q).elim (fun z => .inr (by rw [z]; exact hp0)) fun z => .inl z, fun j hj => List.getElem?_set_ne fun z => hp (by rw [z]; exact hj)⟩ ?_
  exact {
    ex := E1.ex
    len := by rw [List.length_set, List.length_set]; exact E1.len
    dat := fun j d q => by
      rcases set_get q with ⟨_, q⟩ | ⟨n, q⟩
      · cases q
      · rw [List.getElem?_set_ne (Ne.symm n)]
        exact E1.dat j d q
    mu := fun j d q => by
      rcases set_get q with ⟨ej, qq⟩ | ⟨n, qq⟩
      · cases qq
        rw [ej]
        exact ⟨p, _, List.getElem?_set_self hi', hG, upd_same, .k (kvs := []) (ds := []) .nil⟩
      · rw [List.getElem?_set_ne (Ne.symm n)]
        exact E1.mu j d qq
    ne := fun a b d1 d2 l w1 w2 w3 w4 => by
      rcases set_get w1 with ⟨ea, _⟩ | ⟨na, w1⟩
      · rcases set_get w2 with ⟨eb, _⟩ | ⟨nb, w2⟩
        · rw [ea, eb]
        · rw [ea, List.getElem?_set_self hi'] at w3
          cases w3
          rw [List.getElem?_set_ne (Ne.symm nb)] at w4
          exact (notp ⟨b, d2, w2, w4⟩).elim
      · rcases set_get w2 with ⟨eb, _⟩ | ⟨nb, w2⟩
        · rw [eb, List.getElem?_set_self hi'] at w4
          cases w4
          rw [List.getElem?_set_ne (Ne.symm na)] at w3
          exact (notp ⟨a, d1, w1, w3⟩).elim
        · rw [List.getElem?_set_ne (Ne.symm na)] at w3
          rw [List.getElem?_set_ne (Ne.symm nb)] at w4
          exact E1.ne a b d1 d2 l w1 w2 w3 w4 }
/-! d[k] = v -/
def fPutK (i : Nat) (fe fk : FE PyData) : FS := fun ρ => (fe ρ).bind fun p => match p.2[i]? with
  | some (.m (.k _)) => (fk p.2).bind fun q => match q.2[i]? with
    | some (.m (.k es)) => (keyOf q.1).bind fun k => if es.length < 100000 then some (.nx (q.2.set i (.m (.k (putE es k p.1))))) else none
    | _ => none
  | _ => none
theorem s_putK {fe fk : FE PyData} {o ie e : Expr} (n : Nat) (hu : X.A.units + 1 < cLine) (ho : PE X o (tVar n)) (hi : PE X ie (tE X.K true fk)) (he : PE X e (tE X.K true fe)) (hs : swapsWith e (some (.Subscript o ie tpos)) pos.line X.env = pure false := by rfl) :
    PS X (.Assign [.Subscript o ie tpos] e pos) (tS X.K P (fPutK n fe fk)) := PS.weak (ps_dput hu ho hi he hs) fun D σ H ⟨G, ρ, o, E, ef, k⟩ => by
  obtain ⟨⟨d, ρ1⟩, q1, q2⟩ := Option.bind_eq_some_iff.mp ef
  dsimp only at q2
  split at q2
  case h_2 => cases q2
  rename_i es0 hi0
  obtain ⟨⟨dk, ρ2⟩, q3, q4⟩ := Option.bind_eq_some_iff.mp q2
  dsimp only at q4
  split at q4
  case h_2 => cases q4
  rename_i es hi2
  obtain ⟨kk, q5, q6⟩ := Option.bind_eq_some_iff.mp q4
  obtain ⟨hlen, rfl⟩ := ite_p q6
  refine ⟨G, ρ, d, ρ1, E, q1, fun v G1 H1 t1 o1 E1 d1 => ?_⟩
  obtain ⟨l, kvs0, ds0, hσ, _, _, _, _⟩ := E1.muK hi0
  refine ⟨.ref l, hσ, G1, ρ1, dk, ρ2, E1, q3, fun w G2 H2 t2 o2 E2 d2 => ?_⟩
  obtain ⟨l2, kvs, ds, hσ2, hG, hH, dx, ees⟩ := E2.muK hi2
  rw [hσ] at hσ2
  cases hσ2
  have own2 : own σ ρ2 l := ⟨n, _, hi2, hσ⟩
  have s12 : Stp P G H σ ρ G2 H2 σ ρ2 := (Stp.of t1 o1).trans (.of t2 o2)
  have ey := keyOf_dt d2 q5
  have lz : kvs.length < sizeLine := by
    have : es.length = kvs.length := by
      rw [ees, List.length_zip, List.length_map, ← dx.len, List.length_map, Nat.min_self]
    rw [← this]
    exact Evl.sz_lt hlen
  refine ⟨l, upd H2 l (.dK (putK kvs kk v)), rfl, ?_, ?_⟩
  · rw [ey]
    exact DPut.k hH lz
  have t3 : Tr (fun a => a = l) G2 H2 G2 (upd H2 l (.dK (putK kvs kk v))) := tr_cell' hH
  refine k σ G2 _ (s12.trans ⟨t3.wide fun a _ _ q => by rw [q]; exact own2, fun l' q => .inl (own_setM hi2 q), fun _ _ => rfl⟩) ?_
  refine env_setM E2 hi2 hσ t3 (ex_cell E2.ex hG) hG upd_same ?_
  rw [ees]
  exact ek_put (d1.mono t2.g) dx
end
end Tw
namespace Tw
open PySem L2
theorem Here.u1 {k : Nat} {X : Cx} (h : Here k X) : X.A.units + 1 < cLine := by
  have := h.u
  omega
/-- how d[k] = v reckons -/
theorem fPutK_ok {i : Nat} {fe fk : FE PyData} {ρ ρ1 ρ2 : Rho} {d x : PyData} {es0 es : List (PyData × PyData)} {k : Key} (h1 : fe ρ = some (d, ρ1)) (h2 : ρ1[i]? = some (.m (.k es0))) (h3 : fk ρ1 = some (x, ρ2)) (h4 : ρ2[i]? = some (.m (.k es))) (h5 : keyOf x = some k) (h6 : es.length < 100000) :
    fPutK i fe fk ρ = some (.nx (ρ2.set i (.m (.k (putE es k d))))) := by
  unfold fPutK
  rw [h1, Option.bind_some]
  dsimp only
  rw [h2]
  dsimp only
  rw [h3, Option.bind_some]
  dsimp only
  rw [h4]
  dsimp only
  rw [h5, Option.bind_some, if_pos h6]
end Tw

set_option Elab.async false
set_option linter.all false
set_option maxRecDepth 100000
set_option maxHeartbeats 2000000
namespace Tw
open PySem PySem.Spec PyProof.Rows L2
open Evl (Ex)
/-! ### xs.index(x); & and >> -/
def indexN (ds : List PyData) (x : PyData) : Option Nat := ds.findIdx? fun y => PyData.eqv y x
def indexD : PyData → PyData → Option PyData
  | .list ds, x => if (atom x && atomsAll ds) = true then (indexN ds x).map fun j => .int (j : Nat) else none
  | _, _ => none
section
variable {X : Cx} {K : PySem.W.Frag} {bb : Bool}
theorem atomsAll_get : ∀ {ds : List PyData} {j : Nat} {d : PyData}, atomsAll ds = true → ds[j]? = some d → atom d = true
  | [], _, _, _, h => by cases h
  | d :: ds, 0, _, h, e => by
    cases e
    exact (Bool.and_eq_true_iff.mp h).1
  | d :: ds, j + 1, _, h, e => atomsAll_get (ds := ds) (j := j) (Bool.and_eq_true_iff.mp h).2 e
theorem e_index {fo fe : FE PyData} {o e : Expr} {apos cpos : Pos} (ho : PE X o (tE X.K bb fo)) (he : PE X e (tE X.K bb fe)) (hbase : attributeBase o "index" X.env (eval o X.env) = eval o X.env := by rfl)
    (hfew : ((backTo cpos (starEach [e] X.env)).all (fun x => !x.1) && (backToKw cpos (keywordEach [] X.env)).all (fun x => x.1.isSome)
      && decide ([e].length + ([] : List Keyword).length + (if ([] : List Keyword).isEmpty then 0 else 1) < 30)) = true := by rfl)
    (hline : (apos.endLine == cpos.line) = true := by rfl) (hs : starEach [e] X.env = (false, eval e X.env) :: starEach [] X.env := by rfl) (hplain : (backTo cpos (starEach [] X.env)).any (·.1) = false := by rfl) :
    PE X (.Call (.Attribute o "index" apos) [e] [] cpos) (tE X.K bb (fBin indexD fo fe)) :=
  PE.weak (pe_bm PySem.F.plainAttrs_list PySem.F.slot_list_index PySem.F.type_list_index mt_index ho (a_cons he a_nil hs) hbase hfew hline hs hplain) fun σ H Q ⟨G, ρ, d, ρ', E, ef, k⟩ => by
    obtain ⟨x, ρ1, h1, h2⟩ := thnE_of ef
    obtain ⟨y, ρ2, h3, h4⟩ := thnE_of h2
    obtain ⟨h5, rfl⟩ := liftO_of h4
    unfold indexD at h5
    split at h5
    case h_2 => cases h5
    rename_i ds
    split at h5
    case isFalse => cases h5
    rename_i ha
    have h6 := h5
    obtain ⟨j, hj, rfl⟩ := Option.map_eq_some_iff.mp h6
    have ha := Bool.and_eq_true_iff.mp ha
    refine ⟨G, ρ, _, ρ1, E, h1, fun v G1 H1 t1 o1 E1 d1 => ?_⟩
    obtain ⟨a, xs, rfl, hx, dx⟩ := dt_list d1
    refine ⟨.inl ⟨rfl, xs, (hx.mono E1.ex).sq⟩, G1, ρ1, [y], ρ', E1, ?_, fun ws G2 H2 t2 o2 E2 d2 => ?_⟩
    · show thnE fe (fun x => thnE fNil fun xs => ret (x :: xs)) ρ1 = _
      unfold thnE
      rw [h3]
      rfl
    obtain ⟨w, rfl, dw⟩ := da_one d2
    have dx2 := dx.mono t2.g
    have hx2 := (hx.mono t2.g).mono E2.ex
    obtain ⟨hlt, hz, hno⟩ := List.findIdx?_eq_some_iff_getElem.mp hj
    obtain ⟨z, hz1, dz⟩ := dx2.get (List.getElem?_eq_getElem hlt)
    have flat : ∀ {m : Nat} {z' : V}, xs[m]? = some z' → ∃ d', ds[m]? = some d' ∧ eqV z' w = PyData.eqv d' y ∧ flatV z' = true ∧ flatV w = true := fun {m z'} e => by
      obtain ⟨d', e1, e2⟩ := dx2.getV e
      obtain ⟨q1, q2, q3⟩ := eqv_atom e2 dw (atomsAll_get ha.2 e1) ha.1
      exact ⟨d', e1, q1, q2, q3⟩
    obtain ⟨d0, e0, q1, q2, q3⟩ := flat hz1
    rw [List.getElem?_eq_getElem hlt] at e0
    cases e0
    refine ⟨a, xs, w, j, z, rfl, rfl, hx2.sq, q3, List.all_eq_true.mpr fun z' hz' => ?_, hz1, by rw [q1]; exact hz, fun m z' hm e => ?_, ?_⟩
    · obtain ⟨m, e⟩ := List.mem_iff_getElem?.mp hz'
      obtain ⟨_, _, _, q, _⟩ := flat e
      exact q
    · obtain ⟨d', e1, q, _, _⟩ := flat e
      have hm' : m < ds.length := by omega
      rw [List.getElem?_eq_getElem hm'] at e1
      cases e1
      rw [q]
      have := hno m hm
      simpa using this
    · exact k _ G2 H2 (t1.trans t2 fun a o q1 q2 => ⟨q2.1, o1 a q2.2⟩) (fun l q => o1 l (o2 l q)) E2 (.ii _)
def andI : PyData → PyData → Option PyData
  | .int i, .int j => some (.int (Builtin.bitAnd i j))
  | _, _ => none
theorem d_andI : OpD K (rI0 fun i j => .int (Builtin.bitAnd i j)) andI := opD_I0 (h := fun i j => .int (Builtin.bitAnd i j)) (fun _ _ _ => .ii _) fun d e z h => by
  unfold andI at h
  split at h
  · exact ⟨_, _, rfl, rfl, (Option.some.inj h).symm⟩
  · cases h
def shrI : PyData → PyData → Option PyData
  | .int i, .int j => if 0 ≤ j then some (.int (i / 2 ^ j.toNat)) else none
  | _, _ => none
theorem d_shrI : OpD K (rI (fun _ j => 0 ≤ j) fun i j => .int (i / 2 ^ j.toNat)) shrI := opD_I (h := fun i j => .int (i / 2 ^ j.toNat)) (fun _ _ _ => .ii _) fun d e z h => by
  unfold shrI at h
  split at h
  · obtain ⟨h1, h2⟩ := ite_p h
    exact ⟨_, _, rfl, rfl, h1, h2⟩
  · cases h
end
end Tw

set_option Elab.async false
set_option linter.all false
set_option maxRecDepth 100000
set_option maxHeartbeats 2000000
namespace Tw
open PySem PySem.Spec PyProof.Rows L2
open Evl (Ex)
/-! ### match of a tuple by rows of names -/
/-- the cases, the subject a tuple of xs -/
structure PM (X : Cx) (cs : List MatchCase) (t : List V → TS) : Prop where
  run : ∀ (pins : List (Addr × Obj)) (s : Shared) (σ : L2.St) (H : Hp) (D : Ends) (a : Addr) (xs : List V) (first : Bool), Inv X pins σ H s → SqT X.K H a xs → t xs D σ H →
    wpAny (model X.prog X.w) X.A (matchCases cs X.env (.ref a) first) (SP X pins D) X.xe s
section
variable {X : Cx} {e : Expr} {cs : List MatchCase} {body : List Stmt} {pos : Pos} {P : List Nat} {bb : Bool} {f : FS} {g : List PyData → FS}
theorem PM.weak {t t' : List V → TS} (h : PM X cs t) (w : ∀ xs D σ H, t' xs D σ H → t xs D σ H) : PM X cs t' := ⟨fun pins s σ H D a xs first I hq q => h.run pins s σ H D a xs first I hq (w xs D σ H q)⟩
theorem pm_nil : PM X [] (fun _ => tNext) := ⟨fun _ _ σ H _ _ _ _ I _ h => wpAny_matchCases_nil ⟨σ, H, I, h⟩⟩
def tCase (n : Nat) (tg : TGs) (t : TS) (u : List V → TS) : List V → TS := fun xs D σ H => if xs.length = n then tg xs σ H (fun σ' H' => t D σ' H') else u xs D σ H
theorem pm_one {x : Str} {i : Nat} {px pp : Pos} {t : TS} {u : List V → TS} (hc : X.calm = true) (hN : X.N.Nodup) (hi : X.N[i]? = some x) (hx : Loc X.env.scope x) (hb : PSs X body t) (hr : PM X cs u)
    (hf : X.fn x = true ∨ X.env.scope.names.lookup x = some .local := by first | exact .inl rfl | exact .inr rfl | assumption) :
    PM X (⟨.MatchSequence [.MatchAs none (some x) px] pp, none, body⟩ :: cs) (tCase 1 (gCons (gName i) gNil) t u) := by
  refine ⟨fun pins s σ H D a xs first I hq h => ?_⟩
  obtain ⟨its, rv, ht, hz⟩ := I.tuple hq
  have hsz : sizeLine < 2 ^ 62 := by decide
  have hl := rv.length
  refine wpAny_matchCases_cons ?_
  unfold tCase at h
  by_cases hn : xs.length = 1
  · rw [if_pos hn] at h
    refine matchSeq_tuple_hit ht (by simp only [List.size_toArray]; omega) (by simp only [List.size_toArray, List.length_cons, List.length_nil]; omega) ?_
    have I1 := I.tok (s.toks + 1 + 1)
    have e1 : [Pattern.MatchAs none (some x) px].length = its.toArray.size := by simp only [List.size_toArray, List.length_cons, List.length_nil]; omega
    rw [e1]
    refine unpackItems_tuple (I.ok.hd hc) (by obtain ⟨z1, z2, z3⟩ := ht; exact ⟨z1, z2, z3⟩) fun h' hx' => ?_
    have I2 := I1.kept (h' := h') (t' := s.toks + 1 + 1) fun b o e => hx' b o (Nat.ne_of_lt (Heap.lt_size e)) e
    obtain ⟨v, r, ev, h, eh⟩ := h
    subst h
    subst ev
    cases rv with
    | cons r1 rr =>
      cases rr
      refine wpAny_matchEach_cons (wpAny_matchPattern_Capture ?_) rfl
      refine wpAny_matchEach_nil ?_
      refine assignInOrder_cons (wpAny_bindName (store_ok I2 hN hi hx r1 (fun s2 I3 => assignInOrder_nil ?_) hf))
      exact hb.run pins s2 _ H D I3 eh
  · rw [if_neg hn] at h
    refine matchSeq_tuple_miss ht (by simp only [List.size_toArray]; omega) (by simp only [List.size_toArray, List.length_cons, List.length_nil]; omega) ?_
    exact hr.run pins _ σ H D a xs false (I.tok _) hq h
theorem pm_two {x y : Str} {i j : Nat} {px py pp : Pos} {t : TS} {u : List V → TS} (hc : X.calm = true) (hN : X.N.Nodup) (hi : X.N[i]? = some x) (hj : X.N[j]? = some y) (hx : Loc X.env.scope x) (hy : Loc X.env.scope y) (hb : PSs X body t) (hr : PM X cs u)
    (hf : X.fn x = true ∨ X.env.scope.names.lookup x = some .local := by first | exact .inl rfl | exact .inr rfl | assumption) (hg : X.fn y = true ∨ X.env.scope.names.lookup y = some .local := by first | exact .inl rfl | exact .inr rfl | assumption) :
    PM X (⟨.MatchSequence [.MatchAs none (some x) px, .MatchAs none (some y) py] pp, none, body⟩ :: cs) (tCase 2 (gCons (gName i) (gCons (gName j) gNil)) t u) := by
  refine ⟨fun pins s σ H D a xs first I hq h => ?_⟩
  obtain ⟨its, rv, ht, hz⟩ := I.tuple hq
  have hsz : sizeLine < 2 ^ 62 := by decide
  have hl := rv.length
  refine wpAny_matchCases_cons ?_
  unfold tCase at h
  by_cases hn : xs.length = 2
  · rw [if_pos hn] at h
    refine matchSeq_tuple_hit ht (by simp only [List.size_toArray]; omega) (by simp only [List.size_toArray, List.length_cons, List.length_nil]; omega) ?_
    have I1 := I.tok (s.toks + 1 + 1)
    have e1 : [Pattern.MatchAs none (some x) px, Pattern.MatchAs none (some y) py].length = its.toArray.size := by simp only [List.size_toArray, List.length_cons, List.length_nil]; omega
    rw [e1]
    refine unpackItems_tuple (I.ok.hd hc) (by obtain ⟨z1, z2, z3⟩ := ht; exact ⟨z1, z2, z3⟩) fun h' hx' => ?_
    have I2 := I1.kept (h' := h') (t' := s.toks + 1 + 1) fun b o e => hx' b o (Nat.ne_of_lt (Heap.lt_size e)) e
    obtain ⟨v, r, ev, v2, r2, ev2, h3⟩ := h
    obtain ⟨ev3, h⟩ := h3
    subst ev3; subst ev2; subst ev
    cases rv with
    | cons r1 rr =>
      cases rr with
      | cons r2 rr =>
      cases rr
      refine wpAny_matchEach_cons (wpAny_matchPattern_Capture ?_) rfl
      refine wpAny_matchEach_cons (wpAny_matchPattern_Capture ?_) rfl
      refine wpAny_matchEach_nil ?_
      refine assignInOrder_cons (wpAny_bindName (store_ok I2 hN hi hx r1 (fun s2 I3 => ?_) hf))
      refine assignInOrder_cons (wpAny_bindName (store_ok I3 hN hj hy r2 (fun s3 I4 => assignInOrder_nil ?_) hg))
      exact hb.run pins s3 _ H D I4 h
  · rw [if_neg hn] at h
    refine matchSeq_tuple_miss ht (by simp only [List.size_toArray]; omega) (by simp only [List.size_toArray, List.length_cons, List.length_nil]; omega) ?_
    exact hr.run pins _ σ H D a xs false (I.tok _) hq h
theorem ps_match {te : TE} {u : List V → TS} (he : PE X e te) (hm : PM X cs u) : PS X (.Match e cs pos) (fun D σ H => te σ H fun x H1 => ∃ a xs, x = .ref a ∧ SqT X.K H1 a xs ∧ u xs D σ H1) := by
  refine ⟨fun pins s σ H D I h => ?_⟩
  refine wpAny_Match (thn (he.run pins s σ H _ I h) fun v s1 ⟨x, H1, I1, r1, a, xs, ex, hq, q⟩ => ?_)
  subst ex
  cases r1
  exact hm.run pins s1 σ H1 D a xs true I1 hq q
/-! as denotations -/
def tM (K : PySem.W.Frag) (P : List Nat) (f : List PyData → FS) : List V → TS := fun xs D σ H => ∃ (G : Hp) (ρ : Rho) (ds : List PyData) (o : Out), EnvOk K G H σ ρ ∧ Da K G xs ds ∧ f ds ρ = some o ∧ Kont K P G H σ ρ D o
def mEnd : List PyData → FS := fun _ => fNext
def mCase (is : List Nat) (f : FS) (g : List PyData → FS) : List PyData → FS := fun ds ρ => if ds.length = is.length then (gSeq (is.map gNm) ds ρ).bind f else g ds ρ
def fMat (fe : FE PyData) (g : List PyData → FS) : FS := fun ρ => (fe ρ).bind fun p => match p.1 with
  | .tuple ds => g ds p.2
  | _ => none
theorem m_nil : PM X [] (tM X.K P mEnd) := PM.weak pm_nil fun xs D σ H ⟨G, ρ, ds, o, E, dx, ef, k⟩ => by
  cases ef
  exact k σ G H .refl E
theorem m_one {x : Str} {i : Nat} {px pp : Pos} (hp : i ∉ P) (hc : X.calm = true) (hN : X.N.Nodup) (hi : X.N[i]? = some x) (hx : Loc X.env.scope x) (hb : PSs X body (tS X.K P f)) (hr : PM X cs (tM X.K P g))
    (hf : X.fn x = true ∨ X.env.scope.names.lookup x = some .local := by first | exact .inl rfl | exact .inr rfl) :
    PM X (⟨.MatchSequence [.MatchAs none (some x) px] pp, none, body⟩ :: cs) (tM X.K P (mCase [i] f g)) := PM.weak (pm_one hc hN hi hx hb hr hf) fun xs D σ H ⟨G, ρ, ds, o, E, dx, ef, k⟩ => by
  unfold tCase
  unfold mCase at ef
  have hl := dx.len
  change (if ds.length = 1 then _ else _) = _ at ef
  by_cases hn : ds.length = 1
  · rw [if_pos hn] at ef
    rw [if_pos (hl.trans hn)]
    match ds, hn with
    | [d], _ =>
    obtain ⟨ρ1, q1, q2⟩ := Option.bind_eq_some_iff.mp ef
    obtain ⟨ρ2, q3, q4⟩ := Option.bind_eq_some_iff.mp (show (gNm i d ρ).bind _ = some ρ1 from q1)
    cases q4
    obtain ⟨hi', rfl⟩ := ite_p q3
    obtain ⟨v, rfl, dv⟩ := da_one dx
    refine ⟨v, [], rfl, rfl, G, _, o, E.set hi' dv, q2, k.pre ⟨.refl, fun l q => .inl (own_set q), fun j hj => List.getElem?_set_ne fun z => hp (by rw [z]; exact hj)⟩⟩
  · rw [if_neg hn] at ef
    rw [if_neg (by rw [hl]; exact hn)]
    exact ⟨G, ρ, ds, o, E, dx, ef, k⟩
theorem m_two {x y : Str} {i j : Nat} {px py pp : Pos} (hp : i ∉ P) (hp2 : j ∉ P) (hc : X.calm = true) (hN : X.N.Nodup) (hi : X.N[i]? = some x) (hj : X.N[j]? = some y) (hx : Loc X.env.scope x) (hy : Loc X.env.scope y) (hb : PSs X body (tS X.K P f)) (hr : PM X cs (tM X.K P g))
    (hf : X.fn x = true ∨ X.env.scope.names.lookup x = some .local := by first | exact .inl rfl | exact .inr rfl) (hg : X.fn y = true ∨ X.env.scope.names.lookup y = some .local := by first | exact .inl rfl | exact .inr rfl) :
    PM X (⟨.MatchSequence [.MatchAs none (some x) px, .MatchAs none (some y) py] pp, none, body⟩ :: cs) (tM X.K P (mCase [i, j] f g)) := PM.weak (pm_two hc hN hi hj hx hy hb hr hf hg) fun xs D σ H ⟨G, ρ, ds, o, E, dx, ef, k⟩ => by
  unfold tCase
  unfold mCase at ef
  have hl := dx.len
  change (if ds.length = 2 then _ else _) = _ at ef
  by_cases hn : ds.length = 2
  · rw [if_pos hn] at ef
    rw [if_pos (hl.trans hn)]
    match ds, hn with
    | [d, d2], _ =>
    obtain ⟨ρ1, q1, q2⟩ := Option.bind_eq_some_iff.mp ef
    obtain ⟨ρ2, q3, q4⟩ := Option.bind_eq_some_iff.mp (show (gNm i d ρ).bind _ = some ρ1 from q1)
    obtain ⟨ρ3, q5, q6⟩ := Option.bind_eq_some_iff.mp (show (gNm j d2 ρ2).bind _ = some ρ1 from q4)
    cases q6
    obtain ⟨hi', rfl⟩ := ite_p q3
    obtain ⟨hj', rfl⟩ := ite_p q5
    cases dx with
    | cons dv dt =>
      obtain ⟨v2, rfl, dv2⟩ := da_one dt
      have E1 := E.set hi' dv
      have E2 := E1.set hj' dv2
      refine ⟨_, _, rfl, _, _, rfl, rfl, G, _, o, E2, q2, k.pre ((Stp.trans (⟨.refl, fun l q => .inl (own_set q), fun j hj => List.getElem?_set_ne fun z => hp (by rw [z]; exact hj)⟩) ⟨.refl, fun l q => .inl (own_set q), fun j hj => List.getElem?_set_ne fun z => hp2 (by rw [z]; exact hj)⟩))⟩
  · rw [if_neg hn] at ef
    rw [if_neg (by rw [hl]; exact hn)]
    exact ⟨G, ρ, ds, o, E, dx, ef, k⟩
theorem s_match (he : PE X e (tE X.K bb fe)) (hm : PM X cs (tM X.K P g)) : PS X (.Match e cs pos) (tS X.K P (fMat fe g)) := PS.weak (ps_match he hm) fun D σ H ⟨G, ρ, o, E, ef, k⟩ => by
  obtain ⟨⟨d, ρ1⟩, h1, h2⟩ := Option.bind_eq_some_iff.mp ef
  cases d with
  | tuple ds =>
    refine ⟨G, ρ, _, ρ1, E, h1, fun v G1 H1 t1 o1 E1 d1 => ?_⟩
    obtain ⟨a, xs, rfl, hx, dx⟩ := dt_tup d1
    exact ⟨a, xs, rfl, Evl.ex_t E1.ex hx, G1, ρ1, ds, o, E1, dx, h2, k.pre (.of t1 o1)⟩
  | _ => cases h2
end
/-! ### all, any of anything plain -/
def smpl : PyData → Bool
  | .none => true
  | .bool _ => true
  | .int _ => true
  | _ => false
theorem smpl_plain : ∀ {ds : List PyData}, ds.all smpl = true → PyData.plainAll ds = true ∧ ∀ x ∈ ds, x.fits63
  | [], _ => ⟨rfl, fun _ h => nomatch h⟩
  | d :: ds, h => by
    rw [List.all_cons, Bool.and_eq_true] at h
    obtain ⟨a, b⟩ := smpl_plain h.2
    have q : d.plain = true ∧ d.fits63 := by
      cases d <;> first | exact ⟨rfl, trivial⟩ | (cases h.1; done)
    refine ⟨by rw [PyData.plainAll, q.1, a]; rfl, fun x hx => ?_⟩
    rcases List.mem_cons.mp hx with rfl | hx
    · exact q.2
    · exact b x hx
def allV : List PyData → Option PyData
  | [.list ds] => if ds.all smpl = true then some (.bool (ds.all PyData.truthy)) else none
  | [.tuple ds] => if ds.all smpl = true then some (.bool (ds.all PyData.truthy)) else none
  | _ => none
def anyV : List PyData → Option PyData
  | [.list ds] => if ds.all smpl = true then some (.bool (ds.any PyData.truthy)) else none
  | [.tuple ds] => if ds.all smpl = true then some (.bool (ds.any PyData.truthy)) else none
  | _ => none
section
variable {X : Cx} {K : PySem.W.Frag}
def rTruV (K : PySem.W.Frag) (tr : List PyData → Bool) : List V → Hp → VK → Prop := fun vs H Q => ∃ (a : Addr) (xs : List V) (ds : List PyData), vs = [V.ref a] ∧ (SqL K H a xs ∨ SqT K H a xs) ∧ Da K H xs ds ∧ ds.all smpl = true ∧ Q (.bl (tr ds)) H
theorem call_allV (hc : X.calm = true) : CallR X (.builtin "all") (rTruV X.K fun ds => ds.all PyData.truthy) := fun pins s σ H vs us Q I r ⟨a, xs, ds, ev, hs, dx, sm, q⟩ => by
  subst ev
  rw [Vals.ref1 r]
  obtain ⟨p1, p2⟩ := smpl_plain sm
  have fin : ∀ h' tk, (∀ b o, s.heap.get? b = some o → h'.get? b = some o) → EP X pins σ Q (.bool (ds.all PyData.truthy)) { s with heap := h', toks := tk } := fun h' tk hk => ⟨.bl _, H, I.kept hk, rfl, q⟩
  rcases hs with hs | hs
  · obtain ⟨its, rv, hl, _⟩ := I.list hs
    obtain ⟨as, hr⟩ := Da.reads I dx rv
    exact PySem.W.all_list_data (I.ok.hd hc) hl.isList hr p1 p2 fin
  · obtain ⟨its, rv, hl, _⟩ := I.tuple hs
    obtain ⟨as, hr⟩ := Da.reads I dx rv
    exact PySem.W.all_tuple_data (I.ok.hd hc) hl hr p1 p2 fin
theorem call_anyV (hc : X.calm = true) : CallR X (.builtin "any") (rTruV X.K fun ds => ds.any PyData.truthy) := fun pins s σ H vs us Q I r ⟨a, xs, ds, ev, hs, dx, sm, q⟩ => by
  subst ev
  rw [Vals.ref1 r]
  obtain ⟨p1, p2⟩ := smpl_plain sm
  have fin : ∀ h' tk, (∀ b o, s.heap.get? b = some o → h'.get? b = some o) → EP X pins σ Q (.bool (ds.any PyData.truthy)) { s with heap := h', toks := tk } := fun h' tk hk => ⟨.bl _, H, I.kept hk, rfl, q⟩
  rcases hs with hs | hs
  · obtain ⟨its, rv, hl, _⟩ := I.list hs
    obtain ⟨as, hr⟩ := Da.reads I dx rv
    exact PySem.W.any_list_data (I.ok.hd hc) hl.isList hr p1 p2 fin
  · obtain ⟨its, rv, hl, _⟩ := I.tuple hs
    obtain ⟨as, hr⟩ := Da.reads I dx rv
    exact PySem.W.any_tuple_data (I.ok.hd hc) hl hr p1 p2 fin
theorem d_truV {tr : List PyData → Bool} {g : List PyData → Option PyData} (hg : ∀ ds z, g ds = some z → ∃ es, (ds = [.list es] ∨ ds = [.tuple es]) ∧ es.all smpl = true ∧ z = .bool (tr es)) : CallD K (rTruV K tr) g := fun G H xs ds z Q ex hd hz k => by
  obtain ⟨es, h | h, sm, rfl⟩ := hg ds z hz
  · subst h
    obtain ⟨v, rfl, h⟩ := da_one hd
    obtain ⟨a, ys, rfl, hy, dy⟩ := dt_list h
    exact ⟨a, ys, es, rfl, .inl (hy.mono ex).sq, dy.mono ex, sm, k _ G H .refl ex (.bb _)⟩
  · subst h
    obtain ⟨v, rfl, h⟩ := da_one hd
    obtain ⟨a, ys, rfl, hy, dy⟩ := dt_tup h
    exact ⟨a, ys, es, rfl, .inr (Evl.ex_t ex hy), dy.mono ex, sm, k _ G H .refl ex (.bb _)⟩
theorem d_allV : CallD K (rTruV K fun ds => ds.all PyData.truthy) allV := d_truV fun ds z h => by
  unfold allV at h
  split at h
  · obtain ⟨a, b⟩ := ite_p h
    exact ⟨_, .inl rfl, a, b⟩
  · obtain ⟨a, b⟩ := ite_p h
    exact ⟨_, .inr rfl, a, b⟩
  · cases h
theorem d_anyV : CallD K (rTruV K fun ds => ds.any PyData.truthy) anyV := d_truV fun ds z h => by
  unfold anyV at h
  split at h
  · obtain ⟨a, b⟩ := ite_p h
    exact ⟨_, .inl rfl, a, b⟩
  · obtain ⟨a, b⟩ := ite_p h
    exact ⟨_, .inr rfl, a, b⟩
  · cases h
end
end Tw

set_option Elab.async false
set_option linter.all false
set_option maxRecDepth 100000
set_option maxHeartbeats 2000000
namespace Tw
open PySem PySem.Spec PyProof.Rows L2
open Evl (Ex)
/-! ### a def whose second argument is a list that it may change -/
def spM1 (K : PySem.W.Frag) (n : Nat) (g : List PyData → List PyData → Option (PyData × List PyData)) : Sp := fun vs H Q _ => ∃ (G : Hp) (v0 : V) (d0 : PyData) (l : Addr) (xs ws : List V) (ms ds : List PyData) (d : PyData) (ms' : List PyData), vs = v0 :: .ref l :: ws ∧ Ex G H ∧ G l = none ∧
  H l = some (.lst xs) ∧ Da K G xs ms ∧ Dt K G v0 d0 ∧ Da K G ws ds ∧ ds.length + 1 = n ∧ g ms (d0 :: ds) = some (d, ms') ∧
  ∀ v G' H' xs', Tr (fun a => a = l) G H G' H' → Ex G' H' → G' l = none → H' l = some (.lst xs') → Da K G' xs' ms' → Dt K G' v d → Q v H'
def outM1 : Option Out → Option (PyData × List PyData)
  | some (.rt d (_ :: .m (.l ms) :: _)) => some (d, ms)
  | some (.nx (_ :: .m (.l ms) :: _)) => some (.none, ms)
  | _ => none
def runM1 (m : Nat) (fb : FS) (ms : List PyData) : List PyData → Option (PyData × List PyData)
  | d0 :: ds => outM1 (fb (.d d0 :: .m ms :: (ds.map Sl.d ++ List.replicate (m - (ds.length + 2)) Sl.un)))
  | [] => none
theorem fn_M1 {Pr : Program} {w : World} {K : PySem.W.Frag} {mg : Str → Option Value} {base : Heap} {x qual : Str} {st : Stmt} {f : Addr} {fd : FuncData} {N ps : List Str} {k : Nat} (F : Fun K x qual st f fd) (S : FnScope N ps (defScope st)) {fb : FS} (hps : 1 < ps.length)
    (body : ∀ (cdv : Value) (A : Around) (outer : List Env) (s : Shared) (H : Hp), Here k (bx Pr w K mg base N qual st f cdv A outer s H) → PSs (bx Pr w K mg base N qual st f cdv A outer s H) (defBody st) (tS K [1] fb)) : FnG Pr w K mg base (k + 1) f fd ps (spM1 K (ps.length - 1) (runM1 N.length fb)) :=
  fn_G F S (fun vs H Q E ⟨G, v0, d0, l, xs, ws, ms, ds, d, ms', ev, ex, hG, hH, da, d0t, db, hl, _⟩ => by rw [ev, List.length_cons, List.length_cons, db.len]; omega) fun cdv A outer s H hh vs Q ⟨G, v0, d0, l, xs, ws, ms, ds, d, ms', ev, ex, hG, hH, da, d0t, db, hl, hg, k⟩ => by
    refine ⟨_, body cdv A outer s H hh, ?_⟩
    unfold runM1 at hg
    have e1 : L2.start N vs = some v0 :: some (.ref l) :: (ws.map some ++ List.replicate (N.length - (ds.length + 2)) none) := by unfold L2.start; rw [ev, List.length_cons, List.length_cons, db.len]; rfl
    rw [e1]
    have hm : noM (ds.map Sl.d ++ List.replicate (N.length - (ds.length + 2)) Sl.un) := noM_args noM_un ds
    have E : EnvOk K G H (some v0 :: some (.ref l) :: (ws.map some ++ List.replicate (N.length - (ds.length + 2)) none)) (.d d0 :: .m ms :: (ds.map Sl.d ++ List.replicate (N.length - (ds.length + 2)) Sl.un)) := env_cons (env_m (env_args (env_un ex) db) hm hG hH da) d0t
    have ow : ∀ a, own (some v0 :: some (.ref l) :: (ws.map some ++ List.replicate (N.length - (ds.length + 2)) none)) (.d d0 :: .m ms :: (ds.map Sl.d ++ List.replicate (N.length - (ds.length + 2)) Sl.un)) a → a = l := fun a ⟨i, es, q1, q2⟩ => by
      cases i with
      | zero => cases q1
      | succ i =>
        cases i with
        | zero => cases q2; rfl
        | succ i => exact (hm i es q1).elim
    cases ho : fb (.d d0 :: .m ms :: (ds.map Sl.d ++ List.replicate (N.length - (ds.length + 2)) Sl.un)) with
    | none => dsimp only at hg; rw [ho] at hg; cases hg
    | some o =>
      dsimp only at hg
      rw [ho] at hg
      refine ⟨G, _, o, E, ho, ?_⟩
      have at0 : ∀ {σ' : L2.St} {G' H' : Hp} {z : Sl} {ρ' : Rho} {ms'' : List PyData}, Stp [1] G H (some v0 :: some (.ref l) :: (ws.map some ++ List.replicate (N.length - (ds.length + 2)) none)) (.d d0 :: .m ms :: (ds.map Sl.d ++ List.replicate (N.length - (ds.length + 2)) Sl.un)) G' H' σ' (z :: .m ms'' :: ρ') →
          EnvOk K G' H' σ' (z :: .m ms'' :: ρ') → G' l = none ∧ ∃ xs', H' l = some (.lst xs') ∧ Da K G' xs' ms'' := fun {σ' G' H' z ρ' ms''} s' E' => by
        obtain ⟨l', xs', q1, q2, q3, q4⟩ := E'.muL (i := 1) (ds := ms'') rfl
        rw [s'.p 1 (List.mem_singleton.mpr rfl)] at q1
        cases q1
        exact ⟨q2, xs', q3, q4⟩
      cases o with
      | rt e r =>
        match r, hg with
        | z :: .m (.l ms'') :: r, hg =>
          cases hg
          exact fun v σ' G' H' s' E' dv => by
            obtain ⟨q2, xs', q3, q4⟩ := at0 s' E'
            exact k v G' H' xs' (s'.t.wide fun a _ _ q => ow a q) E'.ex q2 q3 q4 dv
      | rf ds' r => cases hg
      | nx r =>
        match r, hg with
        | z :: .m (.l ms'') :: r, hg =>
          cases hg
          exact fun σ' G' H' s' E' => by
            obtain ⟨q2, xs', q3, q4⟩ := at0 s' E'
            exact k .non G' H' xs' (s'.t.wide fun a _ _ q => ow a q) E'.ex q2 q3 q4 .nn
      | bk r => cases hg
      | ct r => cases hg
section
variable {X : Cx} {k : Nat} {f : Addr} {fd : FuncData} {ps : List Str} {x : Str} {p pos : Pos} {e0 e : Expr} {es : List Expr} {bb : Bool} {n : Nat}
def fCallM1 (n : Nat) (g : List PyData → List PyData → Option (PyData × List PyData)) (i : Nat) (fa : FE PyData) (ra : FE (List PyData)) : FE PyData := fun ρ => match ρ[i]? with
  | some (.m (.l _)) => thnE fa (fun d0 => thnE ra fun ds ρ1 => if ds.length + 1 = n then match ρ1[i]? with
    | some (.m (.l ms)) => (g ms (d0 :: ds)).map fun p => (p.1, ρ1.set i (.m (.l p.2)))
    | _ => none
    else none) ρ
  | _ => none
theorem e_callM1 {g : List PyData → List PyData → Option (PyData × List PyData)} {fa : FE PyData} {ra : FE (List PyData)} (i : Nat) (F : FnG X.prog X.w X.K X.mg X.base k f fd ps (spM1 X.K n g)) (hh : Here k X) (hg : Gl X x) (hm : X.mg x = some (.ref f)) (hk : PySem.W.keepIn X.K (.ref f) = true) (hb : Binds X.K fd ps [])
    (ha0 : PE X e0 (tE X.K true fa)) (h0 : PE X e (tVar i)) (ha : PA X es (tA X.K true ra)) (hdb : (x == ("__debug__" : Str)) = false := by decide) (he : starEach (e0 :: e :: es) X.env = (false, eval e0 X.env) :: starEach (e :: es) X.env := by rfl) (he2 : starEach (e :: es) X.env = (false, eval e X.env) :: starEach es X.env := by rfl) (hpl : (backTo pos (starEach (e :: es) X.env)).any (·.1) = false := by rfl) :
    PE X (.Call (.Name x p) (e0 :: e :: es) [] pos) (tE X.K true (fCallM1 n g i fa ra)) := PE.weak (call_G F hh hg hm hk hb (pa_cons ha0 (pa_cons h0 ha he2) he) hdb he hpl) fun σ H Q ⟨G, ρ, d, ρ', E, ef, kk⟩ => by
  unfold fCallM1 at ef
  split at ef
  case h_2 => cases ef
  rename_i ms0 hi0
  obtain ⟨d0, ρ0, h00, ef⟩ := thnE_of ef
  obtain ⟨ds, ρ1, h1, h2⟩ := thnE_of ef
  split at h2
  case isFalse => cases h2
  rename_i hl
  split at h2
  case h_2 => cases h2
  rename_i ms hi
  obtain ⟨⟨z, ms'⟩, h3, h4⟩ := Option.map_eq_some_iff.mp h2
  cases h4
  obtain ⟨l, _, hσ, _, _, _⟩ := E.muL hi0
  refine ⟨G, ρ, d0, ρ0, E, h00, fun v0 G0 H0 t0 o0 E0 dv0 => ⟨.ref l, hσ, G0, ρ0, ds, ρ1, E0, h1, fun ws G1 H1 t1 o1 E1 d1 => ?_⟩⟩
  obtain ⟨l2, xs, hσ2, hG, hH, dx⟩ := E1.muL hi
  rw [hσ] at hσ2
  cases hσ2
  refine ⟨G1, v0, d0, l, xs, ws, ms, ds, _, ms', rfl, E1.ex, hG, hH, dx, dv0.mono t1.g, d1, hl, h3, fun v G2 H2 xs' t2 ex2 hG2 hH2 dx2 dv => ?_⟩
  have own1 : own σ ρ1 l := ⟨i, _, hi, hσ⟩
  exact kk v G2 H2 ((t0.seq o0 t1).trans t2 fun a _ _ q => ⟨rfl, by rw [q]; exact o0 l (o1 l own1)⟩) (fun l' q => o0 l' (o1 l' (own_setM hi q))) (env_setM E1 hi hσ t2 ex2 hG2 hH2 (.l dx2)) dv
end
/-! ### a module's text -/
section
variable {X : Cx} {bb : Bool} {pos : Pos}
theorem e_globS {x : Str} {z : Str} (hg : Gl X x) (hm : ∃ t, X.mg x = some (.str z t)) (hd : (x == ("__debug__" : Str)) = false := by decide) : PE X (.Name x pos) (tE X.K bb (ret (.str z))) := by
  obtain ⟨t, hm⟩ := hm
  exact PE.weak (pe_glob (v := .str z) hg hm ⟨t, rfl⟩ hd) fun σ H Q ⟨G, ρ, d, ρ', E, ef, k⟩ => by
    cases ef
    exact k _ G H .refl (fun _ q => q) E (.ss _)
end
/-! ### range of three -/
def upsC (lo c : Int) (n : Nat) : List PyData := (List.range n).map fun i => .int (lo + (i : Nat) * c)
def rng3 : List PyData → Option (List PyData)
  | [.int i, .int j, .int c] => if (c ≠ 0 ∧ c.natAbs < 1073741824) ∧ Builtin.Range.small i j c = true then some (upsC i c (Builtin.Range.rangeSize i j c).toNat) else none
  | _ => none
section
variable {X : Cx} {tg : Expr} {bb : Bool} {pos p : Pos}
theorem walk_rc {K : PySem.W.Frag} {G : Hp} (lo c : Int) (n : Nat) : WalkD false K G (Itc lo c n) (upsC lo c n) where
  go := fun i H hi ex => by unfold upsC at hi; rw [List.length_map, List.length_range] at hi; exact hi
  stop := fun H ex => by unfold upsC; rw [List.length_map, List.length_range]; exact Nat.le_refl _
  yld := fun i H x H' y hy ex q G2 e1 e2 => by
    obtain ⟨rfl, rfl⟩ := q
    unfold upsC at hy
    rw [List.getElem?_map] at hy
    cases hr : (List.range n)[i]? with
    | none => rw [hr] at hy; cases hy
    | some j =>
      rw [hr] at hy
      obtain ⟨hj, ej⟩ := List.getElem?_eq_some_iff.mp hr
      rw [List.getElem_range] at ej
      cases ej
      cases hy
      exact ⟨G2, .refl, e2, .ii _⟩
theorem rsize_nat (i j c : Int) (hc : c ≠ 0) : Builtin.Range.rangeSize i j c = (((Builtin.Range.rangeSize i j c).toNat : Nat) : Int) := by
  have : 0 ≤ Builtin.Range.rangeSize i j c := by
    unfold Builtin.Range.rangeSize
    split
    · split
      · have := Int.ediv_nonneg (a := j - i - 1) (b := c) (by omega) (by omega)
        omega
      · exact Int.le_refl _
    · split
      · have := Int.ediv_nonneg (a := i - j - 1) (b := -c) (by omega) (by omega)
        omega
      · exact Int.le_refl _
  exact (Int.toNat_of_nonneg this).symm
theorem i_rng3 {a b c : Expr} {ra : FE (List PyData)} (hg : Gl X "range") (hm : X.mg "range" = none) (ha : PA X [a, b, c] (tA X.K bb ra))
    (hs : starEach [a, b, c] X.env = (false, eval a X.env) :: starEach [b, c] X.env := by rfl) (hpl : (backTo pos (starEach [b, c] X.env)).any (·.1) = false := by rfl) :
    PI X tg (.Call (.Name "range" p) [a, b, c] [] pos) (tI X.K bb (fRng rng3 ra)) := PI.weak (pi_range3 hg hm ha hs hpl) fun σ H R ⟨G, ρ, ds, ρ', E, ef, k⟩ => by
  obtain ⟨x, ρ1, h1, h2⟩ := thnE_of ef
  obtain ⟨h3, rfl⟩ := liftO_of h2
  refine ⟨G, ρ, x, ρ', E, h1, fun v G1 H1 t1 o1 E1 d1 => ?_⟩
  unfold rng3 at h3
  split at h3
  · rename_i i j c
    obtain ⟨hb, rfl⟩ := ite_p h3
    cases d1 with
    | cons dv d1 =>
    obtain ⟨v1, v2, rfl, d2, d3⟩ := da_two d1
    exact ⟨i, j, c, _, by rw [dt_int dv, dt_int d2, dt_int d3], ⟨hb.1.1, hb.1.2, hb.2, rsize_nat i j c hb.1.1⟩, k _ G1 H1 t1 o1 E1 (walk_rc _ _ _)⟩
  · cases h3
end
/-! ### min, max of a row of numbers -/
def extV (f : Int → Int → Int) : List PyData → Option PyData
  | [.list (.int n :: ds)] => (intsOf ds).map fun ns => .int (ns.foldl f n)
  | [.tuple (.int n :: ds)] => (intsOf ds).map fun ns => .int (ns.foldl f n)
  | _ => none
def rExtV (K : PySem.W.Frag) (f : Int → Int → Int) : List V → Hp → VK → Prop := fun vs H Q => ∃ (a : Addr) (n : Int) (ns : List Int), vs = [V.ref a] ∧ (SqL K H a ((n :: ns).map V.int) ∨ SqT K H a ((n :: ns).map V.int)) ∧ Q (.int (ns.foldl f n)) H
theorem ints_alike : ∀ ns : List Int, PySem.W.AlikeAll (ns.map PyData.int) := fun ns =>
  ⟨fun x hx y hy => by
    obtain ⟨i, _, rfl⟩ := List.mem_map.mp hx
    obtain ⟨j, _, rfl⟩ := List.mem_map.mp hy
    rfl, fun x hx => by
    obtain ⟨i, _, rfl⟩ := List.mem_map.mp hx
    exact fun z => nomatch z⟩
theorem ints_depth : ∀ ns : List Int, PyData.depthAll (ns.map PyData.int) = 0
  | [] => rfl
  | n :: ns => by
    rw [List.map_cons]
    show max (PyData.depth (.int n)) (PyData.depthAll (ns.map PyData.int)) = 0
    rw [ints_depth ns]
    rfl
section
variable {X : Cx} {K : PySem.W.Frag}
theorem ext_fin {pins : List (Addr × Obj)} {σ : L2.St} {H : Hp} {s : Shared} {Q : VK} (I : Inv X pins σ H s) {m : Int} (q : Q (.int m) H) : ∀ {v : Value} {h' : Heap} {tk : Nat} {bs : List Addr}, Reads h' v (.int m) bs → (∀ b o, s.heap.get? b = some o → h'.get? b = some o) → EP X pins σ Q v { s with heap := h', toks := tk } := fun {v h' tk bs} r hk => by
  cases r with
  | int i t => exact ⟨.int _, H, I.kept hk, ⟨t, rfl⟩, q⟩
theorem call_minV (hc : X.calm = true) (hu : X.A.units + 64 < cLine) : CallR X (.builtin "min") (rExtV X.K min) := fun pins s σ H vs us Q I r ⟨a, n, ns, ev, hs, q⟩ => by
  subst ev
  rw [Vals.ref1 r]
  have al := ints_alike (n :: ns)
  have dp := ints_depth (n :: ns)
  rw [List.map_cons] at al dp
  rcases hs with hs | hs
  · obtain ⟨its, rv, hl, _⟩ := I.list hs
    obtain ⟨as, hr⟩ := Da.reads (H := H) I (Da.ints (n :: ns)) rv
    exact PySem.W.min_list_data (I.ok.hd hc) hl.isList hr al (by rw [dp]; omega) fun i v h' tk bs hv r hk => by
      rw [PySem.W.minD_ints] at r
      exact ext_fin I q r hk
  · obtain ⟨its, rv, hl, _⟩ := I.tuple hs
    obtain ⟨as, hr⟩ := Da.reads (H := H) I (Da.ints (n :: ns)) rv
    exact PySem.W.min_tuple_data (I.ok.hd hc) hl hr al (by rw [dp]; omega) fun i v h' tk bs hv r hk => by
      rw [PySem.W.minD_ints] at r
      exact ext_fin I q r hk
theorem call_maxV (hc : X.calm = true) (hu : X.A.units + 64 < cLine) : CallR X (.builtin "max") (rExtV X.K max) := fun pins s σ H vs us Q I r ⟨a, n, ns, ev, hs, q⟩ => by
  subst ev
  rw [Vals.ref1 r]
  have al := ints_alike (n :: ns)
  have dp := ints_depth (n :: ns)
  rw [List.map_cons] at al dp
  rcases hs with hs | hs
  · obtain ⟨its, rv, hl, _⟩ := I.list hs
    obtain ⟨as, hr⟩ := Da.reads (H := H) I (Da.ints (n :: ns)) rv
    exact PySem.W.max_list_data (I.ok.hd hc) hl.isList hr al (by rw [dp]; omega) fun i v h' tk bs hv r hk => by
      rw [PySem.W.maxD_ints] at r
      exact ext_fin I q r hk
  · obtain ⟨its, rv, hl, _⟩ := I.tuple hs
    obtain ⟨as, hr⟩ := Da.reads (H := H) I (Da.ints (n :: ns)) rv
    exact PySem.W.max_tuple_data (I.ok.hd hc) hl hr al (by rw [dp]; omega) fun i v h' tk bs hv r hk => by
      rw [PySem.W.maxD_ints] at r
      exact ext_fin I q r hk
theorem d_extV (f : Int → Int → Int) : CallD K (rExtV K f) (extV f) := fun G H xs ds z Q ex hd hz k => by
  unfold extV at hz
  split at hz
  · rename_i n es
    obtain ⟨ns, h1, rfl⟩ := Option.map_eq_some_iff.mp hz
    obtain rfl := intsOf_eq h1
    obtain ⟨v, rfl, h⟩ := da_one hd
    obtain ⟨a, ys, rfl, hy, dy⟩ := dt_list h
    obtain rfl := da_ints (ns := n :: ns) dy
    exact ⟨a, n, ns, rfl, .inl (hy.mono ex).sq, k _ G H .refl ex (.ii _)⟩
  · rename_i n es
    obtain ⟨ns, h1, rfl⟩ := Option.map_eq_some_iff.mp hz
    obtain rfl := intsOf_eq h1
    obtain ⟨v, rfl, h⟩ := da_one hd
    obtain ⟨a, ys, rfl, hy, dy⟩ := dt_tup h
    obtain rfl := da_ints (ns := n :: ns) dy
    exact ⟨a, n, ns, rfl, .inr (Evl.ex_t ex hy), k _ G H .refl ex (.ii _)⟩
  · cases hz
end
end Tw

set_option Elab.async false
set_option linter.all false
set_option maxRecDepth 100000
set_option maxHeartbeats 2000000
namespace Tw
open PySem PySem.Spec PyProof.Rows L2
open Evl (Ex)
/-! ### x in a row, both anything plain -/
section
variable {X : Cx} {K : PySem.W.Frag}
def layB (d : PyData) (ys : List PyData) : Bool := d.canLay0 && PyData.canLayAll0 ys && decide (d.depth ≤ 60)
theorem layB_of {d : PyData} {ys : List PyData} (h : layB d ys = true) : d.canLay0 = true ∧ PyData.canLayAll0 ys = true ∧ d.depth ≤ 60 := by
  have h1 := Bool.and_eq_true_iff.mp h
  have h2 := Bool.and_eq_true_iff.mp h1.1
  exact ⟨h2.1, h2.2, of_decide_eq_true h1.2⟩
def rInP (K : PySem.W.Frag) (neg : Bool) : R2 := fun x y H Q => ∃ d ys, Dt K H x d ∧ (Dt K H y (.list ys) ∨ Dt K H y (.tuple ys)) ∧ layB d ys = true ∧ Q (.bl (if neg = true then !inA d ys else inA d ys)) H
theorem op_inP (hu : X.A.units + 64 < cLine) : OpR X (compareOp .In) (rInP X.K false) := by
  intro pins s σ H x y v u Q I rx ry ⟨d, ys, hd, he, hl, q⟩
  obtain ⟨l1, l2, l3⟩ := layB_of hl
  obtain ⟨as, r1⟩ := hd.reads I rx
  have room : X.A.units + 1 + min (PyData.depthAll ys) d.depth < cLine := by
    have := Nat.min_le_right (PyData.depthAll ys) d.depth
    omega
  rcases he with he | he
  · obtain ⟨bs, r2⟩ := he.reads I ry
    exact SeqAt.in_list_reads r2 r1 l2 l1 room ⟨.bl _, H, I, rfl, q⟩
  · obtain ⟨bs, r2⟩ := he.reads I ry
    exact SeqAt.in_tuple_reads r2 r1 l2 l1 room ⟨.bl _, H, I, rfl, q⟩
theorem op_notInP (hu : X.A.units + 64 < cLine) : OpR X (compareOp .NotIn) (rInP X.K true) := by
  intro pins s σ H x y v u Q I rx ry ⟨d, ys, hd, he, hl, q⟩
  obtain ⟨l1, l2, l3⟩ := layB_of hl
  obtain ⟨as, r1⟩ := hd.reads I rx
  have room : X.A.units + 1 + min (PyData.depthAll ys) d.depth < cLine := by
    have := Nat.min_le_right (PyData.depthAll ys) d.depth
    omega
  rcases he with he | he
  · obtain ⟨bs, r2⟩ := he.reads I ry
    exact SeqAt.notIn_list_reads r2 r1 l2 l1 room ⟨.bl _, H, I, rfl, q⟩
  · obtain ⟨bs, r2⟩ := he.reads I ry
    exact SeqAt.notIn_tuple_reads r2 r1 l2 l1 room ⟨.bl _, H, I, rfl, q⟩
def inP (neg : Bool) : PyData → PyData → Option PyData := fun d e => (itemsOf e).bind fun ys => if layB d ys = true then some (.bool (if neg = true then !inA d ys else inA d ys)) else none
theorem d_inP (neg : Bool) : OpD K (rInP K neg) (inP neg) := fun G H x y d e z Q ex hd he hz k => by
  obtain ⟨ys, h1, h2⟩ := Option.bind_eq_some_iff.mp hz
  obtain ⟨h3, rfl⟩ := ite_p h2
  unfold itemsOf at h1
  split at h1
  · cases h1
    exact ⟨d, ys, hd.mono ex, .inl (he.mono ex), h3, k _ G H .refl ex (.bb _)⟩
  · cases h1
    exact ⟨d, ys, hd.mono ex, .inr (he.mono ex), h3, k _ G H .refl ex (.bb _)⟩
  · cases h1
end
def inG (neg : Bool) : PyData → PyData → Option PyData := fun d e => (inD neg d e).or (inP neg d e)
section
variable {X : Cx} {bb : Bool}
theorem op_inG (hu : X.A.units + 64 < cLine) : OpR X (compareOp .In) (fun x y H Q => rIn X.K false x y H Q ∨ rInP X.K false x y H Q) := op_in_seq.or (op_inP hu)
theorem op_notInG (hu : X.A.units + 64 < cLine) : OpR X (compareOp .NotIn) (fun x y H Q => rIn X.K true x y H Q ∨ rInP X.K true x y H Q) := op_notIn_seq.or (op_notInP hu)
theorem d_inG {K : PySem.W.Frag} (neg : Bool) : OpD K (fun x y H Q => rIn K neg x y H Q ∨ rInP K neg x y H Q) (inG neg) := (d_in neg).or (d_inP neg)
/-! ### d.get(k) -/
def getD1 : PyData → PyData → Option PyData
  | .dict es, x => (keyOf x).map fun k => (getE es k).getD .none
  | _, _ => none
theorem e_get {fo fe : FE PyData} {o e : Expr} {apos cpos : Pos} (hu : X.A.units + 1 < cLine) (ho : PE X o (tE X.K bb fo)) (he : PE X e (tE X.K bb fe)) (m : M1 X o "get" apos e cpos) :
    PE X (.Call (.Attribute o "get" apos) [e] [] cpos) (tE X.K bb (fBin getD1 fo fe)) := PE.weak (pe_dget1 hu ho he m) fun σ H Q ⟨G, ρ, d, ρ', E, ef, k⟩ => by
  obtain ⟨x, ρ1, h1, h2⟩ := thnE_of ef
  obtain ⟨y, ρ2, h3, h4⟩ := thnE_of h2
  obtain ⟨h5, rfl⟩ := liftO_of h4
  unfold getD1 at h5
  split at h5
  case h_2 => cases h5
  rename_i es
  obtain ⟨kk, hk, rfl⟩ := Option.map_eq_some_iff.mp h5
  refine ⟨G, ρ, _, ρ1, E, h1, fun v G1 H1 t1 o1 E1 d1 => ?_⟩
  obtain ⟨a, kvs, ds, rfl, hx, dx, rfl⟩ := dt_dict d1
  refine ⟨a, rfl, .inl ⟨kvs, .of (E1.ex _ _ hx)⟩, G1, ρ1, y, ρ', E1, h3, fun w G2 H2 t2 o2 E2 d2 => ?_⟩
  have ey := keyOf_dt d2 hk
  have hx2 : H2 a = some (.dK kvs) := E2.ex _ _ (t2.g _ _ hx)
  refine ⟨valV kvs kk, by rw [ey]; exact DGet.k hx2, ?_⟩
  cases hg : getE (zipE kvs ds) kk with
  | none =>
    rw [(ek_get kk dx).2.1 hg]
    rw [hg] at k
    exact k _ G2 H2 (t1.seq o1 t2) (fun l q => o1 l (o2 l q)) E2 .nn
  | some z =>
    obtain ⟨v, hv, dv⟩ := (ek_get kk dx).1 z hg
    rw [hv]
    rw [hg] at k
    exact k _ G2 H2 (t1.seq o1 t2) (fun l q => o1 l (o2 l q)) E2 (dv.mono t2.g)
end
end Tw

set_option Elab.async false
set_option linter.all false
set_option maxRecDepth 100000
set_option maxHeartbeats 2000000
namespace Tw
open PySem PySem.Spec PyProof.Rows L2
open Evl (Ex)
/-! ### zip of a tuple and a list -/
def ItzM (K : PySem.W.Frag) (a b : Addr) : It :=
  ⟨fun i H => ∃ (xs ys : List V) (x y : V), SqT K H a xs ∧ SqL K H b ys ∧ xs[i]? = some x ∧ ys[i]? = some y,
    fun i H v H' => ∃ T x y, v = .ref T ∧ H T = none ∧ H' = upd H T (.tup [x, y]) ∧ (∀ xs, SqT K H a xs → xs[i]? = some x) ∧ ∀ ys, SqL K H b ys → ys[i]? = some y,
    fun i H => ∃ xs ys : List V, SqT K H a xs ∧ SqL K H b ys ∧ i = min xs.length ys.length⟩
def zmFp (z TI TO i1 i2 : Addr) : List Addr := [z, TI, TO, i1, i2]
def zmTn (a b z TI TO i1 i2 : Addr) : Nat → Heap → Prop := fun i h => IsZip h z TI TO .none ∧ IsTupOf2 h TI (.ref i1) (.ref i2) ∧ (∃ x y, IsTupOf2 h TO x y) ∧ h.IsTupleIter i1 a i ∧ h.IsListIter i2 b i
theorem zm_sep {z TI TO i1 i2 a b : Addr} (D : ZipApart z TI TO i1 i2 a b) : ZipSep2 z TI TO i1 i2 [i1, a] [i2, b] where
  TIz := D.TIz
  TOz := D.TOz
  TITO := D.TITO
  TIi1 := D.TIi1
  mem1 := List.mem_cons_self ..
  zf1 := by simp only [List.mem_cons, List.not_mem_nil, or_false, not_or]; exact ⟨D.i1z.symm, D.l1z.symm⟩
  Tf1 := by simp only [List.mem_cons, List.not_mem_nil, or_false, not_or]; exact ⟨D.TOi1, D.l1TO.symm⟩
  TIi2 := D.TIi2
  mem2 := List.mem_cons_self ..
  zf2 := by simp only [List.mem_cons, List.not_mem_nil, or_false, not_or]; exact ⟨D.i2z.symm, D.l2z.symm⟩
  Tf2 := by simp only [List.mem_cons, List.not_mem_nil, or_false, not_or]; exact ⟨D.TOi2, D.l2TO.symm⟩
  sep1_2 := by simp only [List.mem_cons, List.not_mem_nil, or_false, not_or]; exact ⟨D.i12, D.l2i1.symm⟩
  sep2_1 := by simp only [List.mem_cons, List.not_mem_nil, or_false, not_or]; exact ⟨D.i12.symm, D.l1i2.symm⟩
def zm_goes {P : Program} {w : World} {A : Around} {elts : List Expr} {kk : Nat} {tpos : Pos} {a b z TI TO i1 i2 : Addr} (hh : A.handled = none) (D : ZipApart z TI TO i1 i2 a b) (xs ys : Array Value) :=
  GoesN.zip2 (prog := P) (w := w) (A := A) (elts := elts) (x1 := kk) (pos := tpos) (zm_sep D) (Draws.tuple (prog := P) (w := w) (A := A.in1) hh i1 a D.l1i1 xs) (Draws.list (prog := P) (w := w) (A := A.in1) hh i2 b D.l2i2 ys)
theorem turn_zipM {P : Program} {w : World} {K : PySem.W.Frag} {elts : List Expr} {kk : Nat} {tpos : Pos} {a b z TI TO i1 i2 : Addr} (D : ZipApart z TI TO i1 i2 a b) :
    Turn P w K (.Tuple elts kk tpos) (ItzM K a b) (zmFp z TI TO i1 i2) z (zmTn a b z TI TO i1 i2) where
  mem := List.mem_cons_self ..
  obj := fun i h ⟨s1, s2, ⟨x, y, s3⟩, ⟨o1, s4, _, d1⟩, ⟨o2, s5, _, d2⟩⟩ c hc => by
    unfold zmFp at hc
    simp only [List.mem_cons, List.not_mem_nil, or_false] at hc
    rcases hc with rfl | rfl | rfl | rfl | rfl
    · exact ⟨_, s1, fun v e => nomatch e⟩
    · exact ⟨_, s2, fun v e => nomatch e⟩
    · exact ⟨_, s3, fun v e => nomatch e⟩
    · exact ⟨o1, s4, fun v e => by rw [d1] at e; cases e⟩
    · exact ⟨o2, s5, fun v e => by rw [d2] at e; cases e⟩
  keep := fun i h h' ⟨s1, s2, ⟨x, y, s3⟩, s4, s5⟩ k =>
    ⟨k z (by simp [zmFp]) _ s1, k TI (by simp [zmFp]) _ s2, ⟨x, y, k TO (by simp [zmFp]) _ s3⟩, s4.at fun o e => k i1 (by simp [zmFp]) o e, s5.at fun o e => k i2 (by simp [zmFp]) o e⟩
  item := by
    intro X hP hw hK hc i pins s σ H E I hf ⟨s1, s2, s3, s4, s5⟩ ⟨xs, ys, x, y, qx, qy, ex, ey⟩
    subst hP hw hK
    obtain ⟨us, ru, pu, _⟩ := I.tuple qx
    obtain ⟨ws, rw', pw, _⟩ := I.list qy
    obtain ⟨u, hu, relu⟩ := ru.get ex
    obtain ⟨v, hv, relv⟩ := rw'.get ey
    have lu : i < us.length := (List.getElem?_eq_some_iff.mp hu).1
    have lw : i < ws.length := (List.getElem?_eq_some_iff.mp hv).1
    refine (zm_goes (P := X.prog) (w := X.w) (elts := elts) (kk := kk) (tpos := tpos) (I.ok.hd hc) D us.toArray ws.toArray).goes i s (fun u s2 => ∃ x H', Inv X pins σ H' s2 ∧ RelV x u ∧ (ItzM X.K a b).yld i H x H' ∧ zmTn a b z TI TO i1 i2 (i + 1) s2.heap ∧ ∀ b ∈ zmFp z TI TO i1 i2, H' b = none) E
      (by simp only [List.size_toArray]; omega) ⟨s1, s2, s3, ⟨s4, pu⟩, s5, pw.isList⟩ fun vv h' tk ⟨T, p, q, e, hn, hp, hq, hT⟩ ⟨t1, t2, t3, t4, t5⟩ fr ht => ?_
    subst e
    have ep : p = u := by
      have hp' : us[i]? = some p := by simpa using hp
      rw [hu] at hp'
      exact (Option.some.inj hp').symm
    have eq : q = v := by
      have hq' : ws[i]? = some q := by simpa using hq
      rw [hv] at hq'
      exact (Option.some.inj hq').symm
    subst ep eq
    have new : ObjOk X.prog X.w (upd H T (.tup [x, y])) h' T (.tup [x, y]) := ⟨by show 2 ≤ sizeLine; decide, [p, q], .cons relu (.cons relv .nil), hT⟩
    have I1 : Inv X pins σ (upd H T (.tup [x, y])) { s with heap := h', toks := tk } :=
      I.turnedNew (t' := tk) (ch := zmFp z TI TO i1 i2) (fun c o hb e => fr c o (fun m => hb (by simp only [zmFp, List.mem_cons, List.not_mem_nil, or_false] at m ⊢; rcases m with m | m | m | m <;> simp [m])) e) hf hn new
    refine ⟨.ref T, _, I1, rfl, ⟨T, x, y, rfl, I.hok.fresh hn, rfl, fun l hl => by rw [I.tuple_inj hl qx]; exact ex, fun l hl => by rw [I.list_inj hl qy]; exact ey⟩, ⟨t1, t2, t3, t4.1, t5.1⟩, fun c hcm => ?_⟩
    have hlt : c < s.heap.objs.size := by
      obtain ⟨x3, y3, s3⟩ := s3
      obtain ⟨_, e4, _⟩ := s4
      obtain ⟨_, e5, _⟩ := s5
      simp only [zmFp, List.mem_cons, List.not_mem_nil, or_false] at hcm
      rcases hcm with rfl | rfl | rfl | rfl | rfl
      · exact Heap.lt_size s1
      · exact Heap.lt_size s2
      · exact Heap.lt_size s3
      · exact Heap.lt_size e4
      · exact Heap.lt_size e5
    rw [upd_ne (Nat.ne_of_lt (Nat.lt_of_lt_of_le hlt hn))]
    exact (hf c hcm).1
  done := by
    intro X hP hw hK hc i pins s σ H E I hf ⟨s1, s2, s3, s4, s5⟩ ⟨xs, ys, qx, qy, ei⟩
    subst hP hw hK
    obtain ⟨us, ru, pu, _⟩ := I.tuple qx
    obtain ⟨ws, rw', pw, _⟩ := I.list qy
    have l1 := ru.length
    have l2 := rw'.length
    have en : i = min us.toArray.size ws.toArray.size := by simp only [List.size_toArray]; omega
    subst en
    exact (zm_goes (P := X.prog) (w := X.w) (elts := elts) (kk := kk) (tpos := tpos) (I.ok.hd hc) D us.toArray ws.toArray).stops s (fun s1 => Inv X pins σ H s1) E ⟨s1, s2, s3, ⟨s4, pu⟩, s5, pw.isList⟩ fun h' tk fr ht =>
      I.turnedL (t' := tk) (ch := zmFp z TI TO i1 i2) (fun c o hb e => fr c o (fun m => hb (by simp only [zmFp, List.mem_cons, List.not_mem_nil, or_false] at m ⊢; rcases m with m | m | m | m <;> simp [m])) e) hf
  self := fun A i s Q E st h => wpAny_pyIter_zip st.1 h
def iZipM (K : PySem.W.Frag) (ta : TA) : TI := fun σ H R => ta σ H fun vs H1 => ∃ a b xs ys, vs = [.ref a, .ref b] ∧ SqT K H1 a xs ∧ SqL K H1 b ys ∧ R (ItzM K a b) H1
theorem pi_zipM {X : Cx} {e e2 : Expr} {ta : TA} {p pos tpos : Pos} {elts : List Expr} {kk : Nat} (hg : Gl X "zip") (hm : X.mg "zip" = none) (ha : PA X [e, e2] ta)
    (hs : starEach [e, e2] X.env = (false, eval e X.env) :: starEach [e2] X.env := by rfl) (hpl : (backTo pos (starEach [e2] X.env)).any (·.1) = false := by rfl) :
    PI X (.Tuple elts kk tpos) (.Call (.Name "zip" p) [e, e2] [] pos) (iZipM X.K ta) := by
  refine ⟨fun pins s σ H R I h => ?_⟩
  refine Call_ (ld_blt I hg hm PyProof.Rows.boot_zip (PyProof.Rows.callWith_type1 (thn (ha.run pos pins s σ H _ I h) fun us s1 ⟨vs, H1, I1, r1, q1⟩ => ?_) hs hpl))
  obtain ⟨a, b, xs, ys, ex, qx, qy, q⟩ := q1
  subst ex
  obtain ⟨ua, ub, rfl, ra, rb⟩ := vals2 r1
  cases ra
  cases rb
  obtain ⟨us, ru, pu, _⟩ := I1.tuple qx
  obtain ⟨ws, rw', pw, _⟩ := I1.list qy
  have fresh : ∀ c ∈ zmFp (s1.heap.objs.size + 4) (s1.heap.objs.size + 2) (s1.heap.objs.size + 3) s1.heap.objs.size (s1.heap.objs.size + 1), FpOk X pins H1 c := fun c hc => by
    have le : s1.heap.objs.size ≤ c := by
      simp only [zmFp, List.mem_cons, List.not_mem_nil, or_false] at hc
      rcases hc with rfl | rfl | rfl | rfl | rfl
      · exact Nat.le_add_right _ _
      · exact Nat.le_add_right _ _
      · exact Nat.le_add_right _ _
      · exact Nat.le_refl _
      · exact Nat.le_add_right _ _
    exact I1.fpOk le (I1.hok.fresh le)
  have pa : s1.heap.IsTuple a us.toArray := pu
  refine zip_begins2 (begins_tuple a us.toArray) (begins_list b ws.toArray) pa pw.isList fun h' z1 z2 z3 z4 z5 z6 k => wpAny_pyIter_zip z1 ?_
  have I2 : Inv X pins σ H1 { s1 with heap := h' } := I1.kept (t' := s1.toks) k
  obtain ⟨oa, ea, _⟩ := pa
  refine ⟨s1.heap.objs.size + 4, zmFp (s1.heap.objs.size + 4) (s1.heap.objs.size + 2) (s1.heap.objs.size + 3) s1.heap.objs.size (s1.heap.objs.size + 1), _, _, H1, rfl, I2, turn_zipM (PySem.W.ktu_apart s1.heap.objs.size a b (Heap.lt_size ea) pw.lt), ⟨z1, z2, ⟨_, _, z3⟩, ⟨_, z4, rfl, rfl⟩, ⟨_, z5, rfl, rfl⟩⟩, fresh, q⟩
def zipMN : List PyData → Option (List PyData)
  | [.tuple ds, .list es] => some (prs ds es)
  | _ => none
def fZipM (r : FE (List PyData)) : FE (List PyData) := thnE r fun xs => liftO (zipMN xs)
section
variable {X : Cx} {bb : Bool} {e e2 : Expr} {p pos tpos : Pos}
theorem i_zipM {elts : List Expr} {kk : Nat} {ra : FE (List PyData)} (hg : Gl X "zip") (hm : X.mg "zip" = none) (ha : PA X [e, e2] (tA X.K bb ra))
    (hs : starEach [e, e2] X.env = (false, eval e X.env) :: starEach [e2] X.env := by rfl) (hpl : (backTo pos (starEach [e2] X.env)).any (·.1) = false := by rfl) :
    PI X (.Tuple elts kk tpos) (.Call (.Name "zip" p) [e, e2] [] pos) (tIw true X.K bb (fZipM ra)) := PI.weak (pi_zipM hg hm ha hs hpl) fun σ H R ⟨G, ρ, ds, ρ', E, ef, k⟩ => by
  obtain ⟨x, ρ1, h1, h2⟩ := thnE_of ef
  obtain ⟨h3, rfl⟩ := liftO_of h2
  refine ⟨G, ρ, x, ρ', E, h1, fun v G1 H1 t1 o1 E1 d1 => ?_⟩
  unfold zipMN at h3
  split at h3
  case h_2 => cases h3
  rename_i ds2 es2
  cases h3
  obtain ⟨v, u, rfl, dv, du⟩ := da_two d1
  obtain ⟨a, xs, rfl, hx, dx⟩ := dt_tup dv
  obtain ⟨b, ys, rfl, hy, dy⟩ := dt_list du
  refine ⟨a, b, xs, ys, rfl, Evl.ex_t E1.ex hx, (hy.mono E1.ex).sq, k _ G1 H1 t1 o1 E1 ?_⟩
  have hl : (prs ds2 es2).length = min xs.length ys.length := by rw [prs_len, dx.len, dy.len]
  refine ⟨fun i H hi ex => ⟨xs, ys, xs[i]'(by omega), ys[i]'(by omega), Evl.ex_t ex hx, (hy.mono ex).sq, List.getElem?_eq_getElem _, List.getElem?_eq_getElem _⟩,
    fun H ex => ⟨xs, ys, Evl.ex_t ex hx, (hy.mono ex).sq, hl⟩, fun i H y H' d hd ex q G2 e1 e2 => ?_⟩
  obtain ⟨T, z, z2, rfl, hT, rfl, q, q2⟩ := q
  obtain ⟨da, db, k1, k2, rfl⟩ := prs_get hd
  obtain ⟨w, h4, h5⟩ := dx.get k1
  obtain ⟨w2, h6, h7⟩ := dy.get k2
  have r1 := q xs (Evl.ex_t ex hx)
  have r2 := q2 ys ((hy.mono ex).sq)
  rw [h4] at r1
  rw [h6] at r2
  cases r1
  cases r2
  exact pair_yld hT e1 e2 h5 h7
end
/-! ### t[i::c], a tuple from a place on by steps -/
def picks (i c n : Nat) : List Nat := (List.range (if i < n then (n - i - 1) / c + 1 else 0)).map fun k => i + k * c
section
variable {prog : Program} {w : World} {A : Around} {E : Value → Shared → Prop} {s : Shared}
theorem step_places (i c n : Nat) (hc : 2 ≤ c) : Builtin.Slice.slicePlaces (min (i : Int) (n : Int)) (n : Int) (c : Int) = (picks i c n).length := by
  unfold Builtin.Slice.slicePlaces picks
  rw [List.length_map, List.length_range, if_pos (by omega)]
  by_cases h : i < n
  · rw [if_pos h, if_pos (by omega)]
    have e : (n : Int) - min (i : Int) (n : Int) - 1 = ((n - i - 1 : Nat) : Int) := by omega
    rw [e, ← Int.natCast_ediv]
    generalize (n - i - 1) / c = q
    omega
  · rw [if_neg h, if_neg (by omega)]
    rfl
theorem step_pick (xs : Array Value) (i c : Nat) (hc : 2 ≤ c) : ((List.range (picks i c xs.size).length).filterMap fun (k : Nat) => xs[(min (i : Int) (xs.size : Int) + (k : Int) * (c : Int)).toNat]?).toArray = ((picks i c xs.size).filterMap (xs[·]?)).toArray := by
  by_cases h : i < xs.size
  · have e : (picks i c xs.size).length = (xs.size - i - 1) / c + 1 := by
      unfold picks
      rw [List.length_map, List.length_range, if_pos h]
    rw [e]
    unfold picks
    rw [if_pos h, List.filterMap_map]
    congr 1
    refine fm_congr fun k hk => ?_
    have e2 : (min (i : Int) (xs.size : Int) + (k : Int) * (c : Int)).toNat = i + k * c := by
      rw [show min (i : Int) (xs.size : Int) = (i : Int) by omega, ← Int.natCast_mul, ← Int.natCast_add, Int.toNat_natCast]
    show xs[(min (i : Int) (xs.size : Int) + (k : Int) * (c : Int)).toNat]? = xs[i + k * c]?
    rw [e2]
  · have e : picks i c xs.size = [] := by
      unfold picks
      rw [if_neg h]
      rfl
    rw [e]
    rfl
theorem step_applied {sl : Addr} {u v : Tok} {i c n : Nat} {Q : Int × Int × Nat → Shared → Prop} (hc : 2 ≤ c) (hs : s.heap.IsSliceOf sl (.int (i : Int) u) .none (.int (c : Int) v)) (h : Q (min (i : Int) (n : Int), (c : Int), (picks i c n).length) s) :
    wpAny (model prog w) A (Builtin.Slice.sliceApplied (.ref sl) (pure (n : Int))) Q E s := by
  obtain ⟨os, hos, hcs, hds⟩ := id hs
  unfold Builtin.Slice.sliceApplied Builtin.Slice.sliceFields
  refine wpAny_bind (wpAny_bind (wpAny_field hos hds (x := .int (i : Int) u) rfl (wpAny_bind (wpAny_field hos hds (x := .none) rfl (wpAny_bind (wpAny_field hos hds (x := .int (c : Int) v) rfl (wpAny_pure ?_)))))))
  refine wpAny_bind (slicePart_int ?_)
  have cz : ((c : Int) == 0) = false := beq_eq_false_iff_ne.mpr (by omega)
  show wpAny _ _ (if ((c : Int) == 0) = true then _ else _) _ _ s
  rw [if_neg (by rw [cz]; decide)]
  refine wpAny_bind (slicePart_int (wpAny_bind (slicePart_none (wpAny_bind (wpAny_pure ?_)))))
  have e1 : Builtin.Slice.sliceAdjust (some (i : Int)) none (c : Int) (n : Int) = (min (i : Int) (n : Int), (n : Int)) := by
    unfold Builtin.Slice.sliceAdjust
    have h1 : ¬ (c : Int) < 0 := by omega
    have h2 : ¬ (i : Int) < 0 := by omega
    simp only [if_neg h1, if_neg h2]
  show wpAny _ _ (match Builtin.Slice.sliceAdjust (some (i : Int)) none (c : Int) (n : Int) with | (lo, hi) => pure (lo, (c : Int), Builtin.Slice.slicePlaces lo hi (c : Int))) _ _ s
  rw [e1]
  show wpAny _ _ (pure (min (i : Int) (n : Int), (c : Int), Builtin.Slice.slicePlaces (min (i : Int) (n : Int)) (n : Int) (c : Int))) _ _ s
  rw [step_places i c n hc]
  exact wpAny_pure h
theorem picks_len (i c n : Nat) (hc : 2 ≤ c) : (picks i c n).length ≤ n := by
  unfold picks
  rw [List.length_map, List.length_range]
  by_cases h : i < n
  · rw [if_pos h]
    have := Nat.div_le_self (n - i - 1) c
    omega
  · rw [if_neg h]
    exact Nat.zero_le _
theorem step_tuple {t sl : Addr} {items : Array Value} {u v : Tok} {i c : Nat} {Q : Value → Shared → Prop} (hc : 2 ≤ c) (ht : IsTup s.heap t items) (hs : s.heap.IsSliceOf sl (.int (i : Int) u) .none (.int (c : Int) v))
    (h : Q (.ref s.heap.objs.size) { s with heap := s.heap.push { cls := .type "tuple", data := .seq ((picks i c items.size).filterMap (items[·]?)).toArray } }) (hsz : items.size ≤ sizeLine) : wpAny (model prog w) A (getItem (.ref t) (.ref sl)) Q E s := by
  have ht2 : PySem.sizeOk (.seq ((picks i c items.size).filterMap (items[·]?)).toArray) := by
    show ((picks i c items.size).filterMap (items[·]?)).toArray.size ≤ sizeLine
    rw [List.size_toArray]
    have h1 := List.length_filterMap_le (items[·]?) (picks i c items.size)
    have h2 := picks_len i c items.size hc
    omega
  obtain ⟨os, hos, hcs, hds⟩ := id hs
  have hTs : s.TypeIs (.ref sl) "slice" := ⟨os, hos, hcs⟩
  unfold getItem
  try with_reducible refine wpAny_holding ?_
  first | refine wpAny_bind (wpAny_pure ?_) | skip
  refine wpAny_bind (wpAny_sequenceKey ht.typeIs (by decide) ?_)
  refine wpAny_bind (wpAny_callSpecial?_slot (name := Str.ofString "__getitem__") ht.typeIs PyProof.Rows.slot_tuple_getitem (wpAny_call_entry PyProof.Rows.slot_tuple_getitem ht.typeIs entry_tuple_getitem ?_ (args_tuple_getitem _ _)))
  refine wpAny_bind (m := Builtin.Tuple.tupleItemsOf (.ref t)) (tupleItemsOf_ ht ?_)
  refine wpAny_bind (wpAny_typeOf hTs ?_)
  rw [if_pos (by decide)]
  refine wpAny_bind (step_applied hc hs ?_)
  have c1 : ((c : Int) == 1) = false := beq_eq_false_iff_ne.mpr (by omega)
  have hno : ¬ ((min (i : Int) (items.size : Int) == 0 && (c : Int) == 1 && (picks i c items.size).length == items.size) = true) := by
    rw [c1, Bool.and_false, Bool.false_and]
    exact Bool.false_ne_true
  show wpAny _ _ (if (min (i : Int) (items.size : Int) == 0 && (c : Int) == 1 && (picks i c items.size).length == items.size) = true then _ else _) _ _ s
  rw [if_neg hno, step_pick items i c hc]
  first
    | exact wpAny_bind (m := Builtin.Tuple.tupleExact _) (wpAny_newObj_type (wpAny_pure ⟨_, rfl, wpAny_pure h⟩) ht2)
    | exact wpAny_bind (m := Builtin.Tuple.tupleExact _) (wpAny_newObj_type (wpAny_bind (wpAny_pure (wpAny_pure ⟨_, rfl, wpAny_pure h⟩))) ht2)
    | exact wpAny_bind (wpAny_bind (m := Builtin.Tuple.tupleExact _) (wpAny_newObj_type (wpAny_pure (wpAny_pure ⟨_, rfl, wpAny_pure h⟩)) ht2))
    | exact wpAny_bind (wpAny_bind (m := Builtin.Tuple.tupleExact _) (wpAny_newObj_type (wpAny_pure ⟨_, rfl, wpAny_pure h⟩) ht2))
end
theorem vals_picks {xs : List V} {its : List Value} (r : Vals xs its) : ∀ L : List Nat, Vals (L.filterMap (xs[·]?)) (L.filterMap (its[·]?))
  | [] => .nil
  | j :: L => by
    have ih := vals_picks r L
    have ln := r.length
    cases h : xs[j]? with
    | none =>
      have h2 : its[j]? = none := List.getElem?_eq_none (by have := List.getElem?_eq_none_iff.mp h; omega)
      rw [List.filterMap_cons_none h, List.filterMap_cons_none h2]
      exact ih
    | some x =>
      obtain ⟨u, hu, ru⟩ := r.get h
      rw [List.filterMap_cons_some h, List.filterMap_cons_some hu]
      exact .cons ru ih
theorem da_picks {K : PySem.W.Frag} {G : Hp} {xs : List V} {ds : List PyData} (h : Da K G xs ds) : ∀ L : List Nat, Da K G (L.filterMap (xs[·]?)) (L.filterMap (ds[·]?))
  | [] => .nil
  | j :: L => by
    have ih := da_picks h L
    have ln := h.len
    cases e : ds[j]? with
    | none =>
      have h2 : xs[j]? = none := List.getElem?_eq_none (by have := List.getElem?_eq_none_iff.mp e; omega)
      rw [List.filterMap_cons_none e, List.filterMap_cons_none h2]
      exact ih
    | some d =>
      obtain ⟨x, hx, dx⟩ := h.get e
      rw [List.filterMap_cons_some e, List.filterMap_cons_some hx]
      exact .cons dx ih
section
variable {X : Cx} {e : Expr} {bb : Bool} {f : FE PyData} {pos : Pos}
def tStep (K : PySem.W.Frag) (i c : Nat) (te : TE) : TE := fun σ H Q => te σ H fun x H1 => ∃ a, x = .ref a ∧ ∃ xs, SqT K H1 a xs ∧ NewT H1 Q ((picks i c xs.length).filterMap (xs[·]?))
theorem pe_step {te : TE} {i c : Nat} {k1 k2 : Nat} {p1 p2 p3 : Pos} (hc : 2 ≤ c) (he : PE X e te) : PE X (.Subscript e (.Slice (some (.Constant (.int (i : Int)) k1 p1)) none (some (.Constant (.int (c : Int)) k2 p2)) p3) pos) (tStep X.K i c te) := ⟨fun pins s σ H Q I h => by
  refine Subscript_ (thn (he.run pins s σ H _ I h) fun v s1 hz => ?_)
  obtain ⟨x, H1, I1, r1, a, ex, xs, hx, q⟩ := hz
  subst ex
  cases r1
  have sta : PO X (some (.Constant (.int (i : Int)) k1 p1)) (tPart (tC (.int (i : Int)))) := po_some pe_int
  have stc : PO X (some (.Constant (.int (c : Int)) k2 p2)) (tPart (tC (.int (c : Int)))) := po_some pe_int
  refine wpAny_Slice (thn (sta.run pins s1 σ H1 (fun o H2 => o = some (i : Int) ∧ H2 = H1) I1 ⟨(i : Int), rfl, rfl, rfl⟩) fun vl s2 hz => ?_)
  obtain ⟨_, _, I2, pl, rfl, rfl⟩ := hz
  refine thn (po_none.run pins s2 σ _ (fun o H3 => o = none ∧ H3 = _) I2 ⟨rfl, rfl⟩) fun vu s3 hz => ?_
  obtain ⟨_, _, I3, pu, rfl, rfl⟩ := hz
  refine thn (stc.run pins s3 σ _ (fun o H4 => o = some (c : Int) ∧ H4 = _) I3 ⟨(c : Int), rfl, rfl, rfl⟩) fun vs s4 hz => ?_
  obtain ⟨_, _, I4, ps, rfl, rfl⟩ := hz
  have I5 : Inv X pins σ _ { s4 with heap := s4.heap.push { cls := .type "slice", data := .fields #[vl, vu, vs] } } := I4.kept (t' := s4.toks) fun b ob q => Heap.get?_push_of_some _ q
  show wpAny (model X.prog X.w) X.A (subscriptTail e (.Slice (some (.Constant (.int (i : Int)) k1 p1)) none (some (.Constant (.int (c : Int)) k2 p2)) p3) (.ref a) (.ref s4.heap.objs.size)) (EP X pins σ Q) X.xe { s4 with heap := s4.heap.push { cls := .type "slice", data := .fields #[vl, vu, vs] } }
  obtain ⟨its, r, ht, hz⟩ := I5.tuple hx
  cases pl
  cases pu
  cases ps
  have hl : its.toArray.size = xs.length := by rw [List.size_toArray, ← r.length]
  refine tail_any (ops := [.ref a, .ref s4.heap.objs.size]) ht.typeIs (PyProof.Rows.slot_tuple_getitem.lookup) ?_ (by with_unfolding_all rfl)
  refine step_tuple hc ht (Heap.IsSliceOf.new ..) ?_ (by rw [hl]; exact hz)
  have pk : (picks i c its.toArray.size).filterMap (its.toArray[·]?) = (picks i c xs.length).filterMap (its[·]?) := by
    rw [hl]
    exact fm_congr fun j _ => by simp
  refine newT I5 ?_ ?_ q
  · have h1 := List.length_filterMap_le (xs[·]?) (picks i c xs.length)
    have h2 := picks_len i c xs.length hc
    omega
  · rw [pk]
    exact vals_picks r _⟩
def stepD (i c : Nat) : PyData → Option PyData
  | .tuple ds => some (.tuple ((picks i c ds.length).filterMap (ds[·]?)))
  | _ => none
theorem e_step {i c : Nat} {k1 k2 : Nat} {p1 p2 p3 : Pos} (hc : 2 ≤ c) (he : PE X e (tE X.K bb f)) : PE X (.Subscript e (.Slice (some (.Constant (.int (i : Int)) k1 p1)) none (some (.Constant (.int (c : Int)) k2 p2)) p3) pos) (tE X.K bb (fUn (stepD i c) f)) :=
  PE.weak (pe_step hc he) fun σ H Q ⟨G, ρ, d, ρ', E, ef, k⟩ => by
    obtain ⟨x, ρ1, h1, h2⟩ := thnE_of ef
    obtain ⟨h5, rfl⟩ := liftO_of h2
    refine ⟨G, ρ, x, ρ', E, h1, fun v G1 H1 t1 o1 E1 d1 => ?_⟩
    unfold stepD at h5
    split at h5
    · cases h5
      obtain ⟨a, xs, rfl, hx, dx⟩ := dt_tup d1
      refine ⟨a, rfl, xs, Evl.ex_t E1.ex hx, fun p ob hp ho => ?_⟩
      have t : Tr nobody G1 H1 (upd G1 p (.frz ob (.tup ((picks i c xs.length).filterMap (xs[·]?))))) (upd H1 p (.frz ob (.tup ((picks i c xs.length).filterMap (xs[·]?))))) := Tr.new hp E1.ex
      refine k _ _ _ (t1.trans t fun _ _ _ q => q.elim) o1 (E1.tr t (ex_upd E1.ex)) (.tt (PTu.new ho) ?_)
      rw [← dx.len]
      exact (da_picks dx _).mono t.g
    · cases h5
/-! ### a starred part of a row -/
def starN (d : PyData) (xs : List PyData) : Option (List PyData) := (itemsOf d).map fun ds => ds ++ xs
def fStar (f : FE PyData) (r : FE (List PyData)) : FE (List PyData) := thnE f fun d => thnE r fun xs => liftO (starN d xs)
theorem a_star {es : List Expr} {p : Pos} {r : FE (List PyData)} (he : PE X e (tE X.K bb f)) (hr : PA X es (tA X.K bb r)) (hs : starEach (.Starred e p :: es) X.env = (true, eval e X.env) :: starEach es X.env := by rfl) :
    PA X (.Starred e p :: es) (tA X.K bb (fStar f r)) :=
  PA.weak (StX.pa_star he hr hs) fun σ H Q ⟨G, ρ, d, ρ', E, ef, k⟩ => by
    obtain ⟨x, ρ1, h1, h2⟩ := thnE_of ef
    obtain ⟨y, ρ2, h3, h4⟩ := thnE_of h2
    obtain ⟨h5, rfl⟩ := liftO_of h4
    obtain ⟨ds, h6, rfl⟩ := Option.map_eq_some_iff.mp h5
    refine ⟨G, ρ, x, ρ1, E, h1, fun v G1 H1 t1 o1 E1 d1 => ?_⟩
    unfold itemsOf at h6
    split at h6
    · cases h6
      obtain ⟨a, xs, rfl, hx, dx⟩ := dt_list d1
      exact ⟨a, xs, rfl, .inr (hx.mono E1.ex).sq, G1, ρ1, y, _, E1, h3, fun u G2 H2 t2 o2 E2 d2 => k (xs ++ u) G2 H2 (t1.seq o1 t2) (fun l q => o1 l (o2 l q)) E2 ((dx.mono t2.g).app d2)⟩
    · cases h6
      obtain ⟨a, xs, rfl, hx, dx⟩ := dt_tup d1
      exact ⟨a, xs, rfl, .inl (Evl.ex_t E1.ex hx), G1, ρ1, y, _, E1, h3, fun u G2 H2 t2 o2 E2 d2 => k (xs ++ u) G2 H2 (t1.seq o1 t2) (fun l q => o1 l (o2 l q)) E2 ((dx.mono t2.g).app d2)⟩
    · cases h6
end
end Tw

set_option Elab.async false
set_option linter.all false
set_option maxRecDepth 100000
set_option maxHeartbeats 2000000
namespace Tw
open PySem PySem.Spec PyProof.Rows L2
open Evl (Ex)
/-! ### t.index(x), t.index(x, from) -/
section
variable {X : Cx} {K : PySem.W.Frag} {bb : Bool}
/-- the first place from lo on -/
def firstFrom (ds : List PyData) (d : PyData) (lo j : Nat) : Prop := lo ≤ j ∧ (∃ z, ds[j]? = some z ∧ PyData.eqv z d = true) ∧ ∀ m z, lo ≤ m → m < j → ds[m]? = some z → PyData.eqv z d = false
def rTix (K : PySem.W.Frag) : V → List V → Hp → VK → Prop := fun x xs H Q => ∃ (ds : List PyData) (y : V) (d : PyData) (lo j : Nat), ((xs = [y] ∧ lo = 0) ∨ xs = [y, .int (lo : Nat)]) ∧ Dt K H x (.tuple ds) ∧ Dt K H y d ∧ layB d ds = true ∧
  firstFrom ds d lo j ∧ Q (.int (j : Nat)) H
theorem mt_tix (hu : X.A.units + 64 < cLine) : MtR X "tuple.index" (rTix X.K) := fun pins s σ H x xs v us Q I rx rxs h => by
  obtain ⟨ds, y, d, lo, j, hxs, dx, dy, hl, ⟨hlo, ⟨z, hz, he⟩, hno⟩, q⟩ := h
  obtain ⟨l1, l2, l3⟩ := layB_of hl
  obtain ⟨as, r1⟩ := dx.reads I rx
  have room : X.A.units + 1 + min (PyData.depthAll ds) d.depth < cLine := by
    have := Nat.min_le_right (PyData.depthAll ds) d.depth
    omega
  cases r1 with
  | @tuple a o vs n _ _ ho hc hd hr =>
    obtain ⟨cls, dd, data, sl⟩ := o
    simp only at hc hd
    subst hc hd
    have hmap : vs.toList.map (SeqAt.readOf s.heap) = ds := SeqAt.readsAll_map ds vs.toList _ l2 hr
    have hlen : vs.size = ds.length := by rw [← hmap, List.length_map, Array.length_toList]
    have at_ : ∀ (m : Nat) (hm : m < vs.size) (z' : PyData), ds[m]? = some z' → SeqAt.readOf s.heap vs[m] = z' := fun m hm z' hz' => by
      rw [← hmap, List.getElem?_map, List.getElem?_eq_getElem (by simpa using hm)] at hz'
      simpa using hz'
    have hj : j < vs.size := by rw [hlen]; exact (List.getElem?_eq_some_iff.mp hz).1
    let e : Nat → Bool := fun m => match vs[m]? with
      | some u => PyData.eqv (SeqAt.readOf s.heap u) d
      | none => false
    have ee : ∀ (m : Nat) (hm : m < vs.size), e m = PyData.eqv (SeqAt.readOf s.heap vs[m]) d := fun m hm => by
      show (match vs[m]? with | some u => PyData.eqv (SeqAt.readOf s.heap u) d | none => false) = _
      rw [Array.getElem?_eq_getElem hm]
    have hit : e j = true := by rw [ee j hj, at_ j hj z hz]; exact he
    have miss : ∀ m (hm : m < vs.size), lo ≤ m → m < j → e m = false := fun m hm h1 h2 => by
      rw [ee m hm, at_ m hm _ (List.getElem?_eq_getElem (by omega))]
      exact hno m _ h1 h2 (List.getElem?_eq_getElem (by omega))
    have fin : EP X pins σ Q (.int (j : Nat) s.toks) { s with toks := s.toks + 1 } := ⟨.int (j : Nat), H, I.tok _, ⟨_, rfl⟩, q⟩
    rcases hxs with ⟨rfl, rfl⟩ | rfl
    · obtain ⟨u, rfl, ru⟩ := vals1 rxs
      obtain ⟨bs, r2⟩ := dy.reads I ru
      refine call_meets PySem.F.slot_tuple_index ⟨_, ho, rfl⟩ PySem.F.entry_tuple_index (PySem.F.args_tuple_index_2 _ _)
        (SeqAt.tuple_index2_found a vs n dd sl u e j hj (Nat.zero_le _) hj hit fun m hm h1 h2 => miss m hm (Nat.zero_le _) h2) ⟨ho, fun m hm => ?_, fin⟩
      rw [ee m hm]
      exact SeqAt.items_eqAt hr r2 l2 l1 room vs[m] (Array.getElem_mem hm)
    · obtain ⟨u, w, rfl, ru, rw_⟩ := vals2 rxs
      obtain ⟨t, rfl⟩ := rw_
      obtain ⟨bs, r2⟩ := dy.reads I ru
      refine call_meets PySem.F.slot_tuple_index ⟨_, ho, rfl⟩ PySem.F.entry_tuple_index (PySem.F.args_tuple_index_3 _ _ _)
        (SeqAt.tuple_index3_found a vs n dd sl u e (lo : Nat) t j hj (by rw [SeqAt.searchFrom_nat]; exact hlo) hj hit fun m hm h1 h2 => miss m hm (by rw [SeqAt.searchFrom_nat] at h1; exact h1) h2) ⟨ho, fun m hm => ?_, fin⟩
      rw [ee m hm]
      exact SeqAt.items_eqAt hr r2 l2 l1 room vs[m] (Array.getElem_mem hm)
def tixC : List PyData → Option PyData
  | [.tuple ds, x] => if layB x ds = true then (indexN ds x).map fun j => .int (j : Nat) else none
  | [.tuple ds, x, .int lo] => if layB x ds = true ∧ 0 ≤ lo then (indexN (ds.drop lo.toNat) x).map fun j => .int ((lo.toNat + j : Nat)) else none
  | _ => none
theorem indexN_from {ds : List PyData} {d : PyData} {lo j : Nat} (h : indexN (ds.drop lo) d = some j) : firstFrom ds d lo (lo + j) := by
  obtain ⟨hlt, hz, hno⟩ := List.findIdx?_eq_some_iff_getElem.mp h
  refine ⟨Nat.le_add_right _ _, ⟨_, ?_, hz⟩, fun m z h1 h2 h3 => ?_⟩
  · rw [← List.getElem?_drop, List.getElem?_eq_getElem hlt]
  · have h4 := hno (m - lo) (by omega)
    have h5 : (ds.drop lo)[m - lo]? = some z := by
      rw [List.getElem?_drop]
      have : lo + (m - lo) = m := by omega
      rw [this]
      exact h3
    obtain ⟨hlt2, h6⟩ := List.getElem?_eq_some_iff.mp h5
    rw [h6] at h4
    simpa using h4
theorem e_tix {fo : FE PyData} {ra : FE (List PyData)} {o e : Expr} {es : List Expr} {apos cpos : Pos} (hu : X.A.units + 64 < cLine) (ho : PE X o (tE X.K bb fo)) (ha : PA X (e :: es) (tA X.K bb ra))
    (hbase : attributeBase o "index" X.env (eval o X.env) = eval o X.env := by rfl)
    (hfew : ((backTo cpos (starEach (e :: es) X.env)).all (fun x => !x.1) && (backToKw cpos (keywordEach [] X.env)).all (fun x => x.1.isSome)
      && decide ((e :: es).length + ([] : List Keyword).length + (if ([] : List Keyword).isEmpty then 0 else 1) < 30)) = true := by rfl)
    (hline : (apos.endLine == cpos.line) = true := by rfl) (hs : starEach (e :: es) X.env = (false, eval e X.env) :: starEach es X.env := by rfl) (hplain : (backTo cpos (starEach es X.env)).any (·.1) = false := by rfl) :
    PE X (.Call (.Attribute o "index" apos) (e :: es) [] cpos) (tE X.K bb (fCall tixC (fCons fo ra))) :=
  PE.weak (pe_tm PySem.F.slot_tuple_index PySem.F.type_tuple_index (mt_tix hu) ho ha hbase hfew hline hs hplain) fun σ H Q ⟨G, ρ, d, ρ', E, ef, k⟩ => by
    obtain ⟨zs, ρ2, h1, h2⟩ := thnE_of ef
    obtain ⟨h5, rfl⟩ := liftO_of h2
    obtain ⟨x, ρ1, h3, h4⟩ := thnE_of h1
    obtain ⟨xs, ρ3, h6, h7⟩ := thnE_of h4
    obtain ⟨rfl, rfl⟩ := ret_of h7
    refine ⟨G, ρ, x, ρ1, E, h3, fun v G1 H1 t1 o1 E1 d1 => ?_⟩
    have fin : ∀ {ds y : _} {lo j : Nat}, x = .tuple ds → d = .int (j : Nat) → (xs = [y] ∧ lo = 0 ∨ xs = [y, .int (lo : Nat)]) → layB y ds = true → firstFrom ds y lo j →
        (∃ a ys, v = .ref a ∧ PTu X.K H1 a ys) ∧ tA X.K bb ra σ H1 fun vs H2 => rTix X.K v vs H2 Q := fun {ds y lo j} ex ed hx hl hf => by
      subst ex ed
      obtain ⟨a, ys, rfl, hp, _⟩ := dt_tupP d1
      refine ⟨⟨a, ys, rfl, hp.mono E1.ex⟩, G1, ρ1, xs, _, E1, h6, fun vs G2 H2 t2 o2 E2 d2 => ?_⟩
      have dT := (d1.mono t2.g).mono E2.ex
      have last := k (.int (j : Nat)) G2 H2 (t1.seq o1 t2) (fun l q => o1 l (o2 l q)) E2 (.ii _)
      rcases hx with ⟨rfl, rfl⟩ | rfl
      · obtain ⟨w, rfl, dw⟩ := da_one d2
        exact ⟨ds, w, y, 0, j, .inl ⟨rfl, rfl⟩, dT, dw.mono E2.ex, hl, hf, last⟩
      · obtain ⟨w, w2, rfl, dw, dw2⟩ := da_two d2
        rw [dt_int dw2]
        exact ⟨ds, w, y, lo, j, .inr rfl, dT, dw.mono E2.ex, hl, hf, last⟩
    unfold tixC at h5
    split at h5
    · split at h5
      case isFalse => cases h5
      obtain ⟨j, hj, rfl⟩ := Option.map_eq_some_iff.mp h5
      rename_i hl
      have := indexN_from (lo := 0) (ds := ‹List PyData›) (d := ‹PyData›) (j := j) (by rw [List.drop_zero]; exact hj)
      rw [Nat.zero_add] at this
      rename_i he
      cases he
      exact fin rfl rfl (.inl ⟨rfl, rfl⟩) hl this
    · split at h5
      case isFalse => cases h5
      obtain ⟨j, hj, rfl⟩ := Option.map_eq_some_iff.mp h5
      rename_i hl
      rename_i he
      cases he
      refine fin rfl rfl (.inr ?_) hl.1 (indexN_from hj)
      rw [Int.toNat_of_nonneg hl.2]
    · cases h5
end
/-! ### defs with keyword-only parameters behind the others -/
/-- as such a def is called: f(a, ..) (each keyword-only one by its default dv), f(a, .., k = v, ..) (each of them given, in order) -/
structure CalK (Pr : Program) (w : World) (K : PySem.W.Frag) (mg : Str → Option Value) (base : Heap) (k : Nat) (x : Str) (ps : List Str) (sp : Sp) (f : Addr) (fd : FuncData) (n : Nat) (ks : List Str) (dv : List V) : Prop where
  ok : FnG Pr w K mg base k f fd ps sp
  gl : mg x = some (.ref f)
  kp : PySem.W.keepIn K (.ref f) = true
  b0 : ∃ ds : List Value, Vals dv ds ∧ Binds K fd ps ds
  bk : KBn K fd ps n ks (fun us ws => us ++ ws) (fun vs zs => vs ++ zs)
section
variable {X : Cx} {k n : Nat} {f : Addr} {fd : FuncData} {ps ks : List Str} {sp : Sp} {x : Str} {p pos : Pos} {e : Expr} {es : List Expr} {t tk : TA} {kws : List Keyword} {dv : List V} {bb : Bool} {g : List PyData → Option PyData} {ra rk : FE (List PyData)}
theorem call_D (F : FnG X.prog X.w X.K X.mg X.base k f fd ps sp) (hh : Here k X) (hg : Gl X x) (hm : X.mg x = some (.ref f)) (hk : PySem.W.keepIn X.K (.ref f) = true) (hb : ∃ ds : List Value, Vals dv ds ∧ Binds X.K fd ps ds)
    (ha : PA X (e :: es) t) (hdb : (x == ("__debug__" : Str)) = false := by decide) (he : starEach (e :: es) X.env = (false, eval e X.env) :: starEach es X.env := by rfl) (hpl : (backTo pos (starEach es X.env)).any (·.1) = false := by rfl) :
    PE X (.Call (.Name x p) (e :: es) [] pos) (fun σ H Q => t σ H fun vs H1 => sp (vs ++ dv) H1 Q E0) := ⟨fun pins s σ H Q I h => by
  refine wpAny_Call_Name_kw (ld_glob I hg hm ?_ hdb)
  refine PySem.W.callWith_K (h₀ := X.base) I.ok.mod.kin hk (thn (ha.run pos pins s σ H _ I h) fun us s1 hz => ?_) he hpl
  obtain ⟨vs, H1, J, r, q⟩ := hz
  refine ⟨J.kIn, ?_⟩
  have hl := F.len _ _ _ _ q
  obtain ⟨ds, rd, hb⟩ := hb
  have r2 := r.append rd
  have bd := hb s1 us J.kIn (by rw [← r2.length]; exact hl)
  refine wpAny_call (codeAny_mono (F.run X.A hh.g hh.r X.stack s1 H1 ⟨us, []⟩ (us ++ ds) (vs ++ dv) Q J.env0 bd r2 q) fun rr s2 hq => ?_)
  match rr, hq with
  | .ok (.ret _), hq => exact J.after hq
  | .ok .next, hq => exact False.elim hq
  | .ok .brk, hq => exact False.elim hq
  | .ok .cont, hq => exact False.elim hq
  | .error _, hq => exact False.elim hq⟩
theorem call_K (F : FnG X.prog X.w X.K X.mg X.base k f fd ps sp) (hh : Here k X) (hg : Gl X x) (hm : X.mg x = some (.ref f)) (hk : PySem.W.keepIn X.K (.ref f) = true) (hb : KBn X.K fd ps n ks (fun us ws => us ++ ws) (fun vs zs => vs ++ zs))
    (ha : PA X (e :: es) t) (hkw : PK X kws tk) (hall : (backToKw pos (keywordEach kws X.env)).all (·.1.isSome) = true := by rfl) (hks : (backToKw pos (keywordEach kws X.env)).filterMap (·.1) = ks := by rfl)
    (hdb : (x == ("__debug__" : Str)) = false := by decide) (he : starEach (e :: es) X.env = (false, eval e X.env) :: starEach es X.env := by rfl)
    (hpl : ((backTo pos (starEach (e :: es) X.env)).any (·.1) || (backToKw pos (keywordEach kws X.env)).any (·.1.isNone)) = false := by rfl) :
    PE X (.Call (.Name x p) (e :: es) kws pos) (fun σ H Q => t σ H fun vs H1 => tk σ H1 fun zs H2 => vs.length = n ∧ zs.length = ks.length ∧ sp (vs ++ zs) H2 Q E0) := ⟨fun pins s σ H Q I h => by
  refine wpAny_Call_Name_kw (ld_glob I hg hm ?_ hdb)
  refine PySem.W.callWith_KW (h₀ := X.base) I.ok.mod.kin hk hall (thn (ha.run pos pins s σ H _ I h) fun us s1 hz => ?_) hpl he
  obtain ⟨vs, H1, I1, r, q⟩ := hz
  refine thn (hkw.run pos pins s1 σ H1 _ I1 q) fun ws s2 hz => ?_
  obtain ⟨zs, H2, I2, rz, l1, l2, q2⟩ := hz
  refine ⟨I2.kIn, ?_⟩
  rw [hks]
  have r2 := hb.rel r rz
  refine wpAny_call (codeAny_mono (F.run X.A hh.g hh.r X.stack s2 H2 ⟨us, ks.zip ws⟩ (us ++ ws) (vs ++ zs) Q I2.env0 (hb.to s2 us ws I2.kIn (r.length.symm.trans l1) (rz.length.symm.trans l2)) r2 q2) fun rr s3 hq => ?_)
  match rr, hq with
  | .ok (.ret _), hq => exact I2.after hq
  | .ok .next, hq => exact False.elim hq
  | .ok .brk, hq => exact False.elim hq
  | .ok .cont, hq => exact False.elim hq
  | .error _, hq => exact False.elim hq⟩
theorem k_nil : PK X [] (tA X.K bb fNil) := ⟨fun pos pins s σ H Q I ⟨G, ρ, d, ρ', E, ef, k⟩ => pk_nil.run pos pins s σ H Q I (by
  obtain ⟨rfl, rfl⟩ := ret_of ef
  exact k [] G H .refl (fun _ q => q) E .nil)⟩
theorem k_cons {nm : Option Str} {kpos : Pos} {fe : FE PyData} (he : PE X e (tE X.K bb fe)) (hr : PK X kws (tA X.K bb rk)) : PK X (⟨nm, e, kpos⟩ :: kws) (tA X.K bb (fCons fe rk)) :=
  ⟨fun pos pins s σ H Q I ⟨G, ρ, d, ρ', E, ef, k⟩ => (pk_cons he hr).run pos pins s σ H Q I (by
    obtain ⟨x, ρ1, h1, h2⟩ := thnE_of ef
    obtain ⟨xs, ρ2, h3, h4⟩ := thnE_of h2
    obtain ⟨rfl, rfl⟩ := ret_of h4
    exact ⟨G, ρ, x, ρ1, E, h1, fun v G1 H1 t1 o1 E1 d1 => ⟨G1, ρ1, xs, ρ', E1, h3, fun u G2 H2 t2 o2 E2 d2 => k (v :: u) G2 H2 (t1.seq o1 t2) (fun l q => o1 l (o2 l q)) E2 (.cons (d1.mono t2.g) d2)⟩⟩)⟩
/-- f(a, ..), the keyword-only parameters by their defaults dd -/
theorem e_callD {dd : List PyData} (F : FnG X.prog X.w X.K X.mg X.base k f fd ps (spP X.K n g)) (hh : Here k X) (hg : Gl X x) (hm : X.mg x = some (.ref f)) (hk : PySem.W.keepIn X.K (.ref f) = true) (hb : ∃ ds : List Value, Vals dv ds ∧ Binds X.K fd ps ds) (hd : ∀ G, Da X.K G dv dd)
    (ha : PA X (e :: es) (tA X.K bb ra)) (hdb : (x == ("__debug__" : Str)) = false := by decide) (he : starEach (e :: es) X.env = (false, eval e X.env) :: starEach es X.env := by rfl) (hpl : (backTo pos (starEach es X.env)).any (·.1) = false := by rfl) :
    PE X (.Call (.Name x p) (e :: es) [] pos) (tE X.K bb (fCall (fun xs => lenIs n g (xs ++ dd)) ra)) := PE.weak (call_D F hh hg hm hk hb ha hdb he hpl) fun σ H Q h =>
  call_run (r := fun vs H1 Q => spP X.K n g (vs ++ dv) H1 Q E0) (fun G H xs ds z Q ex da hz k => by
    unfold lenIs at hz
    split at hz
    · exact ⟨G, ds ++ dd, z, ex, da.app (hd G), ‹_›, hz, k⟩
    · cases hz) h
/-- f(a, .., k = v, ..) -/
def fCat (ra rk : FE (List PyData)) : FE (List PyData) := thnE ra fun xs => thnE rk fun ys => ret (xs ++ ys)
theorem e_callKw {m : Nat} (F : FnG X.prog X.w X.K X.mg X.base k f fd ps (spP X.K n g)) (hh : Here k X) (hg : Gl X x) (hm : X.mg x = some (.ref f)) (hk : PySem.W.keepIn X.K (.ref f) = true) (hb : KBn X.K fd ps m ks (fun us ws => us ++ ws) (fun vs zs => vs ++ zs))
    (ha : PA X (e :: es) (tA X.K bb ra)) (hkw : PK X kws (tA X.K bb rk)) (hlen : m + ks.length = n := by rfl) (hlk : ∀ ρ xs ρ', rk ρ = some (xs, ρ') → xs.length = ks.length)
    (hall : (backToKw pos (keywordEach kws X.env)).all (·.1.isSome) = true := by rfl) (hks : (backToKw pos (keywordEach kws X.env)).filterMap (·.1) = ks := by rfl)
    (hdb : (x == ("__debug__" : Str)) = false := by decide) (he : starEach (e :: es) X.env = (false, eval e X.env) :: starEach es X.env := by rfl)
    (hpl : ((backTo pos (starEach (e :: es) X.env)).any (·.1) || (backToKw pos (keywordEach kws X.env)).any (·.1.isNone)) = false := by rfl) :
    PE X (.Call (.Name x p) (e :: es) kws pos) (tE X.K bb (fCall (lenIs n g) (fCat ra rk))) := PE.weak (call_K F hh hg hm hk hb ha hkw hall hks hdb he hpl) fun σ H Q ⟨G, ρ, d, ρ', E, ef, k⟩ => by
  obtain ⟨zs, ρ2, h1, h2⟩ := thnE_of ef
  obtain ⟨h5, rfl⟩ := liftO_of h2
  obtain ⟨xs, ρ1, h3, h4⟩ := thnE_of h1
  obtain ⟨ys, ρ3, h6, h7⟩ := thnE_of h4
  obtain ⟨rfl, rfl⟩ := ret_of h7
  refine ⟨G, ρ, xs, ρ1, E, h3, fun vs G1 H1 t1 o1 E1 d1 => ⟨G1, ρ1, ys, _, E1, h6, fun ws G2 H2 t2 o2 E2 d2 => ?_⟩⟩
  unfold lenIs at h5
  split at h5
  case isFalse => cases h5
  rename_i hn
  have l2 : ws.length = ks.length := by rw [d2.len]; exact hlk _ _ _ h6
  rw [List.length_append] at hn
  refine ⟨by have := d1.len; have := d2.len; omega, l2, G2, xs ++ ys, d, E2.ex, (d1.mono t2.g).app d2, by rw [List.length_append]; exact hn, h5, fun v G' H' t3 e3 d3 => ?_⟩
  exact k v G' H' ((t1.seq o1 t2).trans t3 fun _ _ _ q => q.elim) (fun l q => o1 l (o2 l q)) (E2.tr t3 e3) d3
theorem lenK1 {fe : FE PyData} : ∀ ρ xs ρ', fCons fe fNil ρ = some (xs, ρ') → xs.length = 1 := fun ρ xs ρ' h => by
  obtain ⟨x, ρ1, h1, h2⟩ := thnE_of h
  obtain ⟨ys, ρ2, h3, h4⟩ := thnE_of h2
  obtain ⟨rfl, rfl⟩ := ret_of h3
  obtain ⟨rfl, rfl⟩ := ret_of h4
  rfl
end
section
variable {K : PySem.W.Frag} {x qual : Str} {st : Stmt} {kws : List (Str × V)} {f D : Addr} {fd : FuncData} {ps : List Str}
theorem _root_.L2.FunD.toFun (F : FunD K x qual (defArgs st) (defBody st) (defScope st) [] kws f fd) : Fun K x qual st f fd := by
  obtain ⟨oc, od, dV, kV, doc, pm, an, cdv, ct, osl, rfl, lk, hc, hD, _⟩ := F.ex
  rcases hD with ⟨_, rfl⟩ | ⟨e, _⟩
  · exact ⟨⟨oc, od, kV, doc, pm, an, cdv, ct, osl, rfl, lk, hc⟩, F.kp⟩
  · exact absurd rfl e
theorem _root_.L2.FunD.kbn {n : Nat} {ks : List Str} (F : FunD K x qual (defArgs st) (defBody st) (defScope st) [] kws f fd)
    (h : ∀ (kV doc pm : Value) (an : Option Addr) (cdv ct : Value) (us ws : List Value), us.length = n → ws.length = ks.length →
      bindArgs (PySem.W.fnOf x qual (defArgs st) (defBody st) (defScope st) .none kV doc pm an cdv ct) ⟨us, ks.zip ws⟩ = pure (ps.zip (us ++ ws))) : KBn K fd ps n ks (fun us ws => us ++ ws) (fun vs zs => vs ++ zs) := by
  obtain ⟨oc, od, dV, kV, doc, pm, an, cdv, ct, osl, rfl, lk, hc, hD, _⟩ := F.ex
  rcases hD with ⟨_, rfl⟩ | ⟨e, _⟩
  · exact ⟨fun s us ws _ l1 l2 => .of_eq (h kV doc pm an cdv ct us ws l1 l2), fun r1 r2 => r1.append r2⟩
  · exact absurd rfl e
theorem _root_.L2.FunD.of {oc : Value} {od an : Option Addr} {osl : Array (Option Value)} {doc pm cdv ct : Value} (l : K.lookup f = some ⟨oc, od, .func (PySem.W.fnOf x qual (defArgs st) (defBody st) (defScope st) .none (.ref D) doc pm an cdv ct), osl⟩)
    (c : PySem.W.codeIn K cdv qual = true) (k : PySem.W.keepIn K (.ref f) = true) (h : ∀ q ∈ kws, ∃ u, PySem.W.nsIn K D q.1 = some (some u) ∧ RelV q.2 u) :
    FunD K x qual (defArgs st) (defBody st) (defScope st) [] kws f (PySem.W.fnOf x qual (defArgs st) (defBody st) (defScope st) .none (.ref D) doc pm an cdv ct) :=
  ⟨⟨oc, od, .none, .ref D, doc, pm, an, cdv, ct, osl, rfl, l, c, .inl ⟨rfl, rfl⟩, .inr ⟨D, rfl, h⟩⟩, k⟩
end
end Tw

set_option Elab.async false
set_option linter.all false
set_option maxRecDepth 100000
set_option maxHeartbeats 2000000
/-! ### reckoning a denotation at given slots, from the outside in -/
namespace Tw
open PySem PySem.Spec PyProof.Rows L2
section
variable {α β : Type} {ρ ρ1 ρ2 : Rho} {x : α} {d e : PyData} {ds es ms : List PyData} {i n : Nat}
def tk (o : Option (α × Rho)) (g : α → FE β) : Option (β × Rho) := o.bind fun p => g p.1 p.2
theorem r_thn {f : FE α} {g : α → FE β} : thnE f g ρ = tk (f ρ) g := rfl
theorem r_tk {g : α → FE β} : tk (some (x, ρ)) g = g x ρ := rfl
theorem r_tk0 {g : α → FE β} : tk none g = none := rfl
theorem r_ret : Tw.ret x ρ = some (x, ρ) := rfl
theorem r_lift : liftO (some x) ρ = some (x, ρ) := rfl
theorem r_lift0 : liftO (none : Option α) ρ = none := rfl
def vk (o : Option Sl) (ρ : Rho) : Option (PyData × Rho) := match o with
  | some (.d x) => some (x, ρ)
  | _ => none
theorem r_var : fVar i ρ = vk ρ[i]? ρ := rfl
theorem r_vk : vk (some (.d d)) ρ = some (d, ρ) := rfl
theorem r_bin {g : PyData → PyData → Option PyData} {fa fb : FE PyData} : fBin g fa fb ρ = tk (fa ρ) fun x => thnE fb fun y => liftO (g x y) := rfl
theorem r_un {g : PyData → Option PyData} {fa : FE PyData} : fUn g fa ρ = tk (fa ρ) fun x => liftO (g x) := rfl
theorem r_nil : fNil ρ = some ([], ρ) := rfl
theorem r_cons {f : FE PyData} {r : FE (List PyData)} : fCons f r ρ = tk (f ρ) fun x => thnE r fun xs => Tw.ret (x :: xs) := rfl
theorem r_tup {r : FE (List PyData)} : fTup r ρ = tk (r ρ) fun xs => liftO (if sizeOk xs.length then some (.tuple xs) else none) := rfl
theorem r_of {r : FE (List PyData)} : fOf r ρ = tk (r ρ) fun xs => Tw.ret (.list xs) := rfl
theorem r_call {g : List PyData → Option PyData} {r : FE (List PyData)} : fCall g r ρ = tk (r ρ) fun xs => liftO (g xs) := rfl
def kt (o : Option (PyData × Rho)) : Option (Bool × Rho) := tk o fun x => match x with
  | .bool b => Tw.ret b
  | _ => fun _ => none
theorem r_tst {f : FE PyData} : fTst f ρ = kt (f ρ) := rfl
theorem r_kt {b : Bool} : kt (some (.bool b, ρ)) = some (b, ρ) := rfl
def ik {γ : Type} (o : Option (Bool × Rho)) (f g : Rho → Option γ) : Option γ := o.bind fun p => if p.1 = true then f p.2 else g p.2
theorem r_ikT {γ : Type} {f g : Rho → Option γ} : ik (some (true, ρ)) f g = f ρ := rfl
theorem r_ikF {γ : Type} {f g : Rho → Option γ} : ik (some (false, ρ)) f g = g ρ := rfl
theorem r_ite {c : Bool} {γ : Type} {f g : Rho → Option γ} : (if c = true then f else g) ρ = ik (some (c, ρ)) f g := by cases c <;> rfl
theorem r_if {t : FE Bool} {f g : FS} : fIfS t f g ρ = ik (t ρ) f g := rfl
theorem tk_ite {t : Option (Bool × Rho)} {f g : FE α} : (tk t fun c => if c = true then f else g) = ik t f g := by
  unfold tk ik
  cases t with
  | none => rfl
  | some p => obtain ⟨c, r⟩ := p; cases c <;> rfl
theorem r_ife {t : FE Bool} {f g : FE PyData} : fIf t f g ρ = ik (t ρ) f g := tk_ite
theorem r_and {f g : FE Bool} : tdAnd f g ρ = ik (f ρ) g (Tw.ret false) := tk_ite
theorem r_or {f g : FE Bool} : tdOr f g ρ = ik (f ρ) (Tw.ret true) g := tk_ite
theorem r_not {f : FE Bool} : tdNot f ρ = tk (f ρ) fun c => Tw.ret (!c) := rfl
theorem r_vand {f g : FE PyData} : vAnd f g ρ = ik (kt (f ρ)) g (Tw.ret (.bool false)) := tk_ite
theorem r_vor {f g : FE PyData} : vOr f g ρ = ik (kt (f ρ)) (Tw.ret (.bool true)) g := tk_ite
theorem r_vnot {f : FE PyData} : vNot f ρ = tk (kt (f ρ)) fun c => Tw.ret (.bool (!c)) := rfl
def hk (y : PyData) (g' : PyData → PyData → Option PyData) (fc : FE PyData) (k : PyData) : FE PyData := match k with
  | .bool true => thnE fc fun z => liftO (g' y z)
  | .bool false => Tw.ret (.bool false)
  | _ => fun _ => none
theorem r_chain {g g' : PyData → PyData → Option PyData} {fa fb fc : FE PyData} : fChain g g' fa fb fc ρ = tk (fa ρ) fun x => thnE fb fun y => thnE (liftO (g x y)) (hk y g' fc) := rfl
theorem r_hkT {g' : PyData → PyData → Option PyData} {fc : FE PyData} : hk d g' fc (.bool true) ρ = tk (fc ρ) fun z => liftO (g' d z) := rfl
theorem r_hkF {g' : PyData → PyData → Option PyData} {fc : FE PyData} : hk d g' fc (.bool false) ρ = some (.bool false, ρ) := rfl
def ok (x : PyData) : FE (Option Int) := match x with
  | .int i => Tw.ret (some i)
  | _ => fun _ => none
theorem r_part {f : FE PyData} : fPart f ρ = tk (f ρ) ok := rfl
theorem r_ok {j : Int} : ok (.int j) ρ = some (some j, ρ) := rfl
theorem r_sl {f : FE PyData} {lo hi : FE (Option Int)} : fSl f lo hi ρ = tk (f ρ) fun x => thnE lo fun l => thnE hi fun h => liftO (slD x l h) := rfl
/-! rows -/
def sk (o : Option Out) (g : FS) : Option Out := o.bind fun o => match o with
  | .nx ρ' => g ρ'
  | o => some o
theorem r_seq {f g : FS} : fSeq f g ρ = sk (f ρ) g := rfl
theorem r_skN {g : FS} : sk (some (.nx ρ)) g = g ρ := rfl
theorem r_skR {g : FS} : sk (some (.rt d ρ)) g = some (.rt d ρ) := rfl
theorem r_skF {g : FS} : sk (some (.rf ds ρ)) g = some (.rf ds ρ) := rfl
theorem r_skB {g : FS} : sk (some (.bk ρ)) g = some (.bk ρ) := rfl
theorem r_skC {g : FS} : sk (some (.ct ρ)) g = some (.ct ρ) := rfl
theorem r_next : fNext ρ = some (.nx ρ) := rfl
def rk (o : Option (PyData × Rho)) : Option Out := o.map fun p => .rt p.1 p.2
theorem r_retS {f : FE PyData} : fRet f ρ = rk (f ρ) := rfl
theorem r_rk : rk (some (d, ρ)) = some (.rt d ρ) := rfl
def rfk (o : Option (List PyData × Rho)) : Option Out := o.map fun p => .rf p.1 p.2
theorem r_retF {f : FE (List PyData)} : fRetF f ρ = rfk (f ρ) := rfl
theorem r_rfk : rfk (some (ds, ρ)) = some (.rf ds ρ) := rfl
def dk (o : Option (PyData × Rho)) : Option Out := o.map fun p => .nx p.2
theorem r_drop {f : FE PyData} : fDrop f ρ = dk (f ρ) := rfl
theorem r_dk : dk (some (d, ρ)) = some (.nx ρ) := rfl
def gk2 (o : Option Rho) : Option Out := o.map .nx
def gk (o : Option (PyData × Rho)) (g : FG) : Option Out := o.bind fun p => (g p.1 p.2).map .nx
theorem r_asg {f : FE PyData} {g : FG} : fAsg f g ρ = gk (f ρ) g := rfl
theorem r_gk {g : FG} : gk (some (d, ρ)) g = gk2 (g d ρ) := rfl
theorem r_gk2 : gk2 (some ρ) = some (.nx ρ) := rfl
theorem r_nm (h : i < ρ.length) : gNm i d ρ = some (ρ.set i (.d d)) := if_pos h
theorem r_tp {fs : List FG} : gTp fs (.tuple ds) ρ = gSeq fs ds ρ := rfl
def qk (o : Option Rho) (fs : List FG) (ds : List PyData) : Option Rho := o.bind fun ρ1 => gSeq fs ds ρ1
theorem r_gs {f : FG} {fs : List FG} : gSeq (f :: fs) (d :: ds) ρ = qk (f d ρ) fs ds := rfl
theorem r_qk {fs : List FG} : qk (some ρ) fs ds = gSeq fs ds ρ := rfl
theorem r_gs0 : gSeq [] [] ρ = some ρ := rfl
/-! lists of one's own -/
def frk (o : Option Sl) (i : Nat) (ρ : Rho) : Option Rho := match o with
  | some (.m (.l ds)) => some (ρ.set i (.d (.list ds)))
  | some (.m (.k es)) => some (ρ.set i (.d (.dict es)))
  | _ => none
theorem r_froz : froz i ρ = frk ρ[i]? i ρ := rfl
theorem r_frk : frk (some (.m ms)) i ρ = some (ρ.set i (.d (.list ms))) := rfl
theorem r_frkK {es : List (PyData × PyData)} : frk (some (.m (.k es))) i ρ = some (ρ.set i (.d (.dict es))) := rfl
theorem r_ownK : fOwnK i ρ = if i < ρ.length then some (.nx (ρ.set i (.m (.k [])))) else none := rfl
theorem r_star {f : FE PyData} {g : FE (List PyData)} {ρ : Rho} : fStar f g ρ = tk (f ρ) fun d => thnE g fun xs => liftO (starN d xs) := rfl
theorem starL_ok {ds xs : List PyData} : starN (.list ds) xs = some (ds ++ xs) := rfl
theorem starT_ok {ds xs : List PyData} : starN (.tuple ds) xs = some (ds ++ xs) := rfl
theorem r_zipM {r : FE (List PyData)} {ρ : Rho} : fZipM r ρ = tk (r ρ) fun xs => liftO (zipMN xs) := rfl
theorem zipM_ok {ds es : List PyData} : zipMN [.tuple ds, .list es] = some (prs ds es) := rfl
theorem r_ixEd {es : List (PyData × PyData)} {j : Int} : ixE (.dict es) (.int j) = getE es (.inl j) := rfl
theorem r_ixEt {ds : List PyData} {x : PyData} : ixE (.tuple ds) x = ixD (.tuple ds) x := Option.or_none
theorem r_ixEl {ds : List PyData} {x : PyData} : ixE (.list ds) x = ixD (.list ds) x := Option.or_none
theorem r_inK {es : List (PyData × PyData)} {j : Int} : inK false (.int j) (.dict es) = some (.bool (hasE es (.inl j))) := rfl
theorem r_ninK {es : List (PyData × PyData)} {j : Int} : inK true (.int j) (.dict es) = some (.bool (!hasE es (.inl j))) := rfl
def pk2 (ρ : Rho) (o : Option (PyData × Rho)) : Option (PyData × Rho) := o.bind fun p => if atom p.1 = true then some (p.1, ρ) else none
def pk (o : Option Rho) (f : FE PyData) (ρ : Rho) : Option (PyData × Rho) := o.bind fun ρ1 => pk2 ρ (f ρ1)
theorem r_peek {f : FE PyData} : fPeek i f ρ = pk (froz i ρ) f ρ := rfl
theorem r_pk {f : FE PyData} : pk (some ρ1) f ρ = pk2 ρ (f ρ1) := rfl
theorem r_pkI {j : Int} : pk2 ρ (some (.int j, ρ1)) = some (.int j, ρ) := rfl
theorem r_pkB {j : Bool} : pk2 ρ (some (.bool j, ρ1)) = some (.bool j, ρ) := rfl
theorem r_pkS {j : Str} : pk2 ρ (some (.str j, ρ1)) = some (.str j, ρ) := rfl
theorem r_pkN : pk2 ρ (some (.none, ρ1)) = some (.none, ρ) := rfl
def bk2 (ρ : Rho) (o : Option (Bool × Rho)) : Option (Bool × Rho) := o.map fun p => (p.1, ρ)
def bk1 (o : Option Rho) (f : FE Bool) (ρ : Rho) : Option (Bool × Rho) := o.bind fun ρ1 => bk2 ρ (f ρ1)
theorem r_tpeek {f : FE Bool} : tPeek i f ρ = bk1 (froz i ρ) f ρ := rfl
theorem r_bk1 {f : FE Bool} : bk1 (some ρ1) f ρ = bk2 ρ (f ρ1) := rfl
theorem r_bk2 {c : Bool} : bk2 ρ (some (c, ρ1)) = some (c, ρ) := rfl
def fzk (o : Option Rho) (f : FS) : Option Out := o.bind f
theorem r_frz {f : FS} : fFrz i f ρ = fzk (froz i ρ) f := rfl
theorem r_fzk {f : FS} : fzk (some ρ) f = f ρ := rfl
def owk (o : Option (List PyData × Rho)) (i : Nat) : Option Out := o.bind fun p => if i < p.2.length then some (.nx (p.2.set i (.m p.1))) else none
theorem r_own {f : FE (List PyData)} : fOwn f i ρ = owk (f ρ) i := rfl
theorem r_owk (h : i < ρ.length) : owk (some (ds, ρ)) i = some (.nx (ρ.set i (.m ds))) := if_pos h
def mk4 (i : Nat) (ρ : Rho) (o : Option (PyData × List PyData)) : Option (PyData × Rho) := o.map fun p => (p.1, ρ.set i (.m p.2))
theorem r_mk4 : mk4 i ρ (some (d, ms)) = some (d, ρ.set i (.m ms)) := rfl
def mk3 (g : List PyData → List PyData → Option (PyData × List PyData)) (i : Nat) (ds : List PyData) (ρ : Rho) (o : Option Sl) : Option (PyData × Rho) := match o with
  | some (.m (.l ms)) => mk4 i ρ (g ms ds)
  | _ => none
theorem r_mk3 {g : List PyData → List PyData → Option (PyData × List PyData)} : mk3 g i ds ρ (some (.m ms)) = mk4 i ρ (g ms ds) := rfl
def cmk {γ : Type} (o : Option Sl) (x : Option γ) : Option γ := match o with
  | some (.m (.l _)) => x
  | _ => none
theorem r_cmk {γ : Type} {x : Option γ} : cmk (some (.m ms)) x = x := rfl
theorem r_met {g : GM} {ra : FE (List PyData)} : fMet i g ra ρ = cmk ρ[i]? (tk (ra ρ) fun ds ρ1 => mk3 g i ds ρ1 ρ1[i]?) := by
  unfold fMet cmk
  cases ρ[i]? with
  | none => rfl
  | some x => cases x <;> rfl
def mk2 (n : Nat) (g : List PyData → List PyData → Option (PyData × List PyData)) (i : Nat) (ds : List PyData) : FE PyData := fun ρ => if ds.length = n then mk3 g i ds ρ ρ[i]? else none
theorem r_mk2 {g : List PyData → List PyData → Option (PyData × List PyData)} : mk2 n g i ds ρ = if ds.length = n then mk3 g i ds ρ ρ[i]? else none := rfl
theorem r_callM {g : List PyData → List PyData → Option (PyData × List PyData)} {ra : FE (List PyData)} : fCallM n g i ra ρ = cmk ρ[i]? (tk (ra ρ) (mk2 n g i)) := by
  unfold fCallM cmk
  cases ρ[i]? with
  | none => rfl
  | some x => cases x <;> rfl
def mk2b (n : Nat) (g : List PyData → List PyData → Option (PyData × List PyData)) (i : Nat) (d0 : PyData) (ds : List PyData) : FE PyData := fun ρ => if ds.length + 1 = n then mk3 g i (d0 :: ds) ρ ρ[i]? else none
theorem r_mk2b {g : List PyData → List PyData → Option (PyData × List PyData)} : mk2b n g i d ds ρ = if ds.length + 1 = n then mk3 g i (d :: ds) ρ ρ[i]? else none := rfl
theorem r_callM1 {g : List PyData → List PyData → Option (PyData × List PyData)} {fa : FE PyData} {ra : FE (List PyData)} : fCallM1 n g i fa ra ρ = cmk ρ[i]? (tk (fa ρ) fun d0 => thnE ra (mk2b n g i d0)) := by
  unfold fCallM1 cmk
  cases ρ[i]? with
  | none => rfl
  | some x => cases x <;> rfl
theorem r_lenIs {g : List PyData → Option PyData} : lenIs n g ds = if ds.length = n then g ds else none := rfl
theorem r_callF {g : List PyData → Option (List PyData)} {r : FE (List PyData)} : fCallF n g r ρ = tk (r ρ) fun xs => liftO (if xs.length = n then g xs else none) := rfl
def stj (o : Option Nat) (i : Nat) (d : PyData) (ρ : Rho) (ms : List PyData) : Option Out := o.map fun j => .nx (ρ.set i (.m (ms.set j d)))
theorem r_stj {k : Nat} : stj (some k) i d ρ ms = some (.nx (ρ.set i (.m (ms.set k d)))) := rfl
def sti (i : Nat) (d : PyData) (x : PyData) (ρ : Rho) (o : Option Sl) : Option Out := match o with
  | some (.m (.l ms)) => stj (plI ms.length x) i d ρ ms
  | _ => none
theorem r_sti {x : PyData} : sti i d x ρ (some (.m ms)) = stj (plI ms.length x) i d ρ ms := rfl
theorem r_pl {n : Nat} {k : Int} : plI n (.int k) = ixN n k := rfl
def stk2 (o : Option (PyData × Rho)) (i : Nat) (d : PyData) : Option Out := o.bind fun q => sti i d q.1 q.2 q.2[i]?
theorem r_stk2 : stk2 (some (e, ρ)) i d = sti i d e ρ ρ[i]? := rfl
def stk (o : Option (PyData × Rho)) (i : Nat) (fi : FE PyData) : Option Out := o.bind fun p => cmk p.2[i]? (stk2 (fi p.2) i p.1)
theorem r_stk {fi : FE PyData} : stk (some (d, ρ)) i fi = cmk ρ[i]? (stk2 (fi ρ) i d) := rfl
theorem r_setI {fe fi : FE PyData} : fSetI i fe fi ρ = stk (fe ρ) i fi := by
  unfold fSetI stk
  cases fe ρ with
  | none => rfl
  | some p =>
    obtain ⟨d, r⟩ := p
    show (match r[i]? with
      | some (.m (.l _)) => _
      | _ => none) = cmk r[i]? (stk2 (fi r) i d)
    unfold cmk
    cases r[i]? with
    | none => rfl
    | some x =>
      cases x with
      | un => rfl
      | d _ => rfl
      | m xs =>
        unfold stk2
        dsimp only
        cases fi r with
        | none => rfl
        | some q =>
          obtain ⟨x, r2⟩ := q
          dsimp only [Option.bind_some]
          cases r2[i]? with
          | none => rfl
          | some y => cases y <;> rfl
theorem ixN0 {n : Nat} : ixN (n + 1) 0 = some 0 := Evl.ixN_nat (j := 0) (by omega)
theorem ixN1 {n : Nat} : ixN (n + 2) 1 = some 1 := Evl.ixN_nat (j := 1) (by omega)
theorem ixN2 {n : Nat} : ixN (n + 3) 2 = some 2 := Evl.ixN_nat (j := 2) (by omega)
def aug3 (i : Nat) (ρ : Rho) (o : Option PyData) : Option Out := o.bind fun z => if i < ρ.length then some (.nx (ρ.set i (.d z))) else none
def aug2 (i : Nat) (g : PyData → PyData → Option PyData) (x : PyData) (o : Option (PyData × Rho)) : Option Out := o.bind fun p => aug3 i p.2 (g x p.1)
def aug1 (o : Option Sl) (i : Nat) (g : PyData → PyData → Option PyData) (fe : FE PyData) (ρ : Rho) : Option Out := match o with
  | some (.d x) => aug2 i g x (fe ρ)
  | _ => none
theorem r_aug {g : PyData → PyData → Option PyData} {fe : FE PyData} : fAug i g fe ρ = aug1 ρ[i]? i g fe ρ := rfl
theorem r_aug1 {g : PyData → PyData → Option PyData} {fe : FE PyData} : aug1 (some (.d d)) i g fe ρ = aug2 i g d (fe ρ) := rfl
theorem r_aug2 {g : PyData → PyData → Option PyData} : aug2 i g d (some (e, ρ)) = aug3 i ρ (g d e) := rfl
theorem r_aug3 : aug3 i ρ (some d) = if i < ρ.length then some (.nx (ρ.set i (.d d))) else none := rfl
theorem r_opN {g : PyData → PyData → Option (List PyData)} {fa fb : FE PyData} : fOpN g fa fb ρ = tk (fa ρ) fun x => thnE fb fun y => liftO (g x y) := rfl
def prk2 (i j : Nat) (ds : List PyData) (ρ : Rho) : Option Out := match ds with
  | [x, y] => if i < ρ.length ∧ j < ρ.length then some (.nx ((ρ.set i (.d x)).set j (.d y))) else none
  | _ => none
def prk (i j : Nat) (o : Option (List PyData × Rho)) : Option Out := o.bind fun p => prk2 i j p.1 p.2
theorem r_par {j : Nat} {r : FE (List PyData)} : fPar i j r ρ = prk i j (r ρ) := rfl
theorem r_prk {j : Nat} : prk i j (some ([d, e], ρ)) = if i < ρ.length ∧ j < ρ.length then some (.nx ((ρ.set i (.d d)).set j (.d e))) else none := rfl
theorem r_callN {g : List PyData → List PyData → Option (PyData × List PyData)} {r0 ra : FE (List PyData)} : fCallN n g r0 ra ρ = tk (r0 ρ) fun ms => thnE ra fun ds => liftO (if ds.length = n then (g ms ds).map (·.1) else none) := rfl
theorem r_tupRg {f : FE PyData} : fTupRg f ρ = tk (f ρ) fun x => liftO ((rg1 x).map .tuple) := rfl
theorem r_isN : isNoneD d .none = some (.bool (match d with
  | .none => true
  | _ => false)) := rfl
theorem r_notN : notNoneD d .none = some (.bool (match d with
  | .none => false
  | _ => true)) := rfl
/-! loops -/
def lk (o : Option (List PyData × Rho)) (ft : FG) (fb : FS) : Option Out := o.bind fun p => forF ft fb p.1 p.2
theorem r_for {fi : FE (List PyData)} {ft : FG} {fb : FS} : fFor fi ft fb ρ = lk (fi ρ) ft fb := rfl
theorem r_lk {ft : FG} {fb : FS} : lk (some (ds, ρ)) ft fb = forF ft fb ds ρ := rfl
theorem r_items {f : FE PyData} : fItems f ρ = tk (f ρ) fun x => liftO (itemsOf x) := rfl
theorem r_itL : itemsOf (.list ds) = some ds := rfl
theorem r_itT : itemsOf (.tuple ds) = some ds := rfl
theorem r_enum {r : FE (List PyData)} : fEnum r ρ = tk (r ρ) fun xs => liftO (enumN xs) := rfl
theorem enumL_ok : enumN [.list ds] = some (enumD ds) := rfl
theorem enumT_ok : enumN [.tuple ds] = some (enumD ds) := rfl
theorem r_rng {g : List PyData → Option (List PyData)} {r : FE (List PyData)} : fRng g r ρ = tk (r ρ) fun xs => liftO (g xs) := rfl
theorem for_nx {ft : FG} {fb : FS} (h1 : ft d ρ = some ρ1) (h2 : fb ρ1 = some (.nx ρ2)) : forF ft fb (d :: ds) ρ = forF ft fb ds ρ2 := by
  show (ft d ρ).bind _ = _
  rw [h1]
  show (fb ρ1).bind _ = _
  rw [h2]
  rfl
theorem for_rt {ft : FG} {fb : FS} (h1 : ft d ρ = some ρ1) (h2 : fb ρ1 = some (.rt e ρ2)) : forF ft fb (d :: ds) ρ = some (.rt e ρ2) := by
  show (ft d ρ).bind _ = _
  rw [h1]
  show (fb ρ1).bind _ = _
  rw [h2]
  rfl
theorem for_nil {ft : FG} {fb : FS} : forF ft fb [] ρ = some (.nx ρ) := rfl
/-- a loop that goes through, its invariant told by how many items are done -/
theorem for_all {ft : FG} {fb : FS} (I : Nat → Rho → Prop) : ∀ (xs : List PyData) (k : Nat) (ρ : Rho), I k ρ → (∀ j d ρ, xs[j]? = some d → I (k + j) ρ → ∃ ρ1 ρ2, ft d ρ = some ρ1 ∧ fb ρ1 = some (.nx ρ2) ∧ I (k + j + 1) ρ2) →
    ∃ ρ', forF ft fb xs ρ = some (.nx ρ') ∧ I (k + xs.length) ρ'
  | [], k, ρ, h, _ => ⟨ρ, rfl, h⟩
  | d :: xs, k, ρ, h, step => by
    obtain ⟨ρ1, ρ2, h1, h2, h3⟩ := step 0 d ρ rfl h
    rw [for_nx h1 h2]
    obtain ⟨ρ', h4, h5⟩ := for_all I xs (k + 1) ρ2 h3 fun j e r hj hi => by
      obtain ⟨a, b, c1, c2, c3⟩ := step (j + 1) e r hj (by rw [show k + (j + 1) = k + 1 + j by omega]; exact hi)
      exact ⟨a, b, c1, c2, by rw [show k + 1 + j + 1 = k + (j + 1) + 1 by omega]; exact c3⟩
    exact ⟨ρ', h4, by rw [show k + (d :: xs).length = k + 1 + xs.length by rw [List.length_cons]; omega]; exact h5⟩
def lck2 (ρ : Rho) (vs : List Nat) (o : Option (List PyData × Rho)) : Option (List PyData × Rho) := o.map fun q => (q.1, backR ρ q.2 vs)
def lck (o : Option (List PyData × Rho)) (ft : FG) (tt : FE Bool) (fe : FE PyData) (vs : List Nat) : Option (List PyData × Rho) := o.bind fun p => if sizeOk p.1.length = true then lck2 p.2 vs (lcF ft tt fe vs p.1 (wipeR p.2 vs)) else none
theorem r_lc {fi : FE (List PyData)} {ft : FG} {tt : FE Bool} {fe : FE PyData} {vs : List Nat} : fLc fi ft tt fe vs ρ = lck (fi ρ) ft tt fe vs := rfl
theorem r_lck {ft : FG} {tt : FE Bool} {fe : FE PyData} {vs : List Nat} (h : sizeOk ds.length = true) : lck (some (ds, ρ)) ft tt fe vs = lck2 ρ vs (lcF ft tt fe vs ds (wipeR ρ vs)) := if_pos h
theorem r_lck2 {vs : List Nat} : lck2 ρ vs (some (ds, ρ1)) = some (ds, backR ρ ρ1 vs) := rfl
theorem lc_nil {ft : FG} {tt : FE Bool} {fe : FE PyData} {vs : List Nat} : lcF ft tt fe vs [] ρ = some ([], ρ) := rfl
/-- a comprehension whose turns all keep the slots r0 (those of its own wiped) and have an answer each -/
theorem lc_map {ft : FG} {tt : FE Bool} {fe : FE PyData} {vs : List Nat} {r0 : Rho} (g : PyData → Option PyData) : ∀ (xs : List PyData), (∀ d ∈ xs, ∃ ρ1 ρ2, ft d r0 = some ρ1 ∧ tt ρ1 = some ((g d).isSome, ρ2) ∧ (g d = none → wipeR ρ2 vs = r0) ∧ (∀ e, g d = some e → ∃ ρ3, fe ρ2 = some (e, ρ3) ∧ wipeR ρ3 vs = r0)) →
    lcF ft tt fe vs xs r0 = some (xs.filterMap g, r0)
  | [], _ => rfl
  | d :: xs, h => by
    obtain ⟨ρ1, ρ2, h1, h2, h3, h4⟩ := h d (List.mem_cons_self ..)
    have ih := lc_map g xs fun e he => h e (List.mem_cons_of_mem _ he)
    show (ft d r0).bind _ = _
    rw [h1]
    show (tt ρ1).bind _ = _
    rw [h2]
    cases hg : g d with
    | none =>
      rw [List.filterMap_cons_none hg, ← ih]
      show lcF ft tt fe vs xs (wipeR ρ2 vs) = _
      rw [h3 hg]
    | some e =>
      obtain ⟨ρ3, h5, h6⟩ := h4 e hg
      rw [List.filterMap_cons_some hg]
      show (fe ρ2).bind _ = _
      rw [h5]
      show (lcF ft tt fe vs xs (wipeR ρ3 vs)).map _ = _
      rw [h6, ih]
      rfl
theorem for_ct {ft : FG} {fb : FS} (h1 : ft d ρ = some ρ1) (h2 : fb ρ1 = some (.ct ρ2)) : forF ft fb (d :: ds) ρ = forF ft fb ds ρ2 := by
  show (ft d ρ).bind _ = _
  rw [h1]
  show (fb ρ1).bind _ = _
  rw [h2]
  rfl
/-! two clauses -/
theorem l2_step {ft ft1 : FG} {tt tt1 : FE Bool} {fi1 : FE (List PyData)} {fe : FE PyData} {vs vs1 : List Nat} {d : PyData} {ds es r z : List PyData} {ρ ρ1 ρ2 ρ3 ρ4 ρ5 : Rho} (h1 : ft d ρ = some ρ1) (h2 : tt ρ1 = some (true, ρ2)) (h3 : fi1 ρ2 = some (es, ρ3))
    (h4 : lcF ft1 tt1 fe vs1 es (wipeR ρ3 vs1) = some (r, ρ4)) (h5 : l2F ft tt fi1 ft1 tt1 fe vs vs1 ds (wipeR ρ4 vs) = some (z, ρ5)) : l2F ft tt fi1 ft1 tt1 fe vs vs1 (d :: ds) ρ = some (r ++ z, ρ5) := by
  unfold l2F
  rw [h1, Option.bind_some, h2, Option.bind_some]
  dsimp only
  rw [if_pos rfl, h3, Option.bind_some]
  dsimp only
  rw [h4, Option.bind_some]
  dsimp only
  rw [h5]
  rfl
/-! match -/
def mtk (o : Option (PyData × Rho)) (g : List PyData → FS) : Option Out := o.bind fun p => match p.1 with
  | .tuple ds => g ds p.2
  | _ => none
theorem r_mat {f : FE PyData} {g : List PyData → FS} : fMat f g ρ = mtk (f ρ) g := rfl
theorem r_mtk {g : List PyData → FS} : mtk (some (.tuple ds, ρ)) g = g ds ρ := rfl
theorem r_mEnd : mEnd ds ρ = some (.nx ρ) := rfl
theorem r_mCase {is : List Nat} {f : FS} {g : List PyData → FS} : mCase is f g ds ρ = if ds.length = is.length then (gSeq (is.map gNm) ds ρ).bind f else g ds ρ := rfl
/-! a def's run -/
theorem r_outM : outM (some (.rt d (.m ms :: ρ))) = some (d, ms) := rfl
theorem r_outMn : outM (some (.nx (.m ms :: ρ))) = some (.none, ms) := rfl
theorem r_outM1 {z : Sl} : outM1 (some (.rt d (z :: .m ms :: ρ))) = some (d, ms) := rfl
theorem r_outM1n {z : Sl} : outM1 (some (.nx (z :: .m ms :: ρ))) = some (.none, ms) := rfl
theorem r_outD : outD (some (.rt d ρ)) = some d := rfl
theorem r_outDf : outD (some (.rf ds ρ)) = some (.list ds) := rfl
theorem r_outDn : outD (some (.nx ρ)) = some .none := rfl
theorem r_outF : outF (some (.rf ds ρ)) = some ds := rfl
/-! operations at known values -/
section
variable {a b c : PyData} {l : List PyData}
theorem ixL0 : ixD (.list (a :: l)) (.int 0) = some a := atI_nat (j := 0) rfl
theorem ixL1 : ixD (.list (a :: b :: l)) (.int 1) = some b := atI_nat (j := 1) rfl
theorem ixL2 : ixD (.list (a :: b :: c :: l)) (.int 2) = some c := atI_nat (j := 2) rfl
theorem ixT0 : ixD (.tuple (a :: l)) (.int 0) = some a := atI_nat (j := 0) rfl
theorem ixT1 : ixD (.tuple (a :: b :: l)) (.int 1) = some b := atI_nat (j := 1) rfl
theorem ixT2 : ixD (.tuple (a :: b :: c :: l)) (.int 2) = some c := atI_nat (j := 2) rfl
theorem ixLn {k : Nat} (h : ds[k]? = some a) : ixD (.list ds) (.int (k : Int)) = some a := atI_nat h
theorem ixTn {k : Nat} (h : ds[k]? = some a) : ixD (.tuple ds) (.int (k : Int)) = some a := atI_nat h
theorem addI_ok {i j : Int} : addD (.int i) (.int j) = some (.int (i + j)) := rfl
theorem subI_ok {i j : Int} : subD (.int i) (.int j) = some (.int (i - j)) := rfl
theorem gtI_ok {i j : Int} : gtI (.int i) (.int j) = some (.bool (decide (j < i))) := rfl
theorem geI_ok {i j : Int} : geI (.int i) (.int j) = some (.bool (decide (j ≤ i))) := rfl
theorem leI_ok {i j : Int} : leI (.int i) (.int j) = some (.bool (decide (i ≤ j))) := rfl
theorem ltI_ok {i j : Int} : ltD (.int i) (.int j) = some (.bool (decide (i < j))) := rfl
theorem lenL_ok : lenD [.list ds] = some (.int ds.length) := rfl
theorem lenT_ok : lenD [.tuple ds] = some (.int ds.length) := rfl
theorem abs_ok {i : Int} : absD [.int i] = some (.int (if i < 0 then -i else i)) := rfl
theorem intB_ok {b : Bool} : intD [.bool b] = some (.int (if b then 1 else 0)) := rfl
theorem bits_le {i : Int} {k : Nat} (h0 : 0 ≤ i) (h : i < 2 ^ k) : Builtin.Int.intBits i ≤ k := by
  unfold Builtin.Int.intBits
  split
  · exact Nat.zero_le _
  · rename_i hi
    have hi : i ≠ 0 := by simpa using hi
    have h1 : i.natAbs ≠ 0 := by omega
    have h2 : i.natAbs < 2 ^ k := by
      have : ((2 ^ k : Nat) : Int) = (2 : Int) ^ k := by push_cast; rfl
      omega
    exact (Nat.log2_lt h1).mpr h2
theorem pow_ok {i : Int} {j : Int} (k : Nat) (h0 : 0 ≤ i) (h : i < 2 ^ k) (hj : 0 ≤ j) (hk : (k : Int) * j ≤ 2 ^ 27) : powD (.int i) (.int j) = some (.int (i ^ j.toNat)) := by
  unfold powD
  refine if_pos ⟨hj, Int.le_trans (Int.mul_le_mul_of_nonneg_right ?_ hj) hk⟩
  exact_mod_cast bits_le h0 h
theorem log_lt {i : Int} {k : Nat} (hk : 0 < k) (h0 : 0 ≤ i) (h : i < 2 ^ k) : i.natAbs.log2 < k := by
  by_cases hi : i.natAbs = 0
  · rw [hi]; exact hk
  · refine (Nat.log2_lt hi).mpr ?_
    have : ((2 ^ k : Nat) : Int) = (2 : Int) ^ k := by push_cast; rfl
    omega
theorem mul_ok {i j : Int} (k l : Nat) (hk : 0 < k) (hl : 0 < l) (h0 : 0 ≤ i) (h : i < 2 ^ k) (h0' : 0 ≤ j) (h' : j < 2 ^ l) (s : k + l ≤ 1000000) : mulI (.int i) (.int j) = some (.int (i * j)) := by
  unfold mulI
  have a := log_lt hk h0 h
  have b := log_lt hl h0' h'
  exact if_pos (by omega)
theorem mod_ok {i j : Int} (h : 0 < j) : modD (.int i) (.int j) = some (.int (i % j)) := if_pos h
theorem fdiv_ok {i j : Int} (k : Nat) (h : 0 < j) (hk : 0 < k) (h' : j < 2 ^ k) (s : k ≤ 9000) : fdivD (.int i) (.int j) = some (.int (i / j)) := by
  unfold fdivD
  have a := log_lt hk (Int.le_of_lt h) h'
  exact if_pos ⟨h, by omega⟩
end
end
end Tw

set_option Elab.async false
set_option linter.all false
set_option maxRecDepth 100000
set_option maxHeartbeats 2000000
/-! ### data of a told size: what repr shows -/
namespace Tw
open PySem PySem.Spec PyProof.Rows L2
/-- no longer than W, no deeper than D; lists lie in it only where l, dicts only where c -/
structure Fn (l c : Bool) (W D : Nat) (d : PyData) : Prop where
  ls : d.leavesShort 60 = true
  wt : d.weight ≤ W
  dp : d.depth ≤ D
  sh : d.showable = true
  nl : (noList d || l) = true
  nd : (!d.hasDict || c) = true
structure FnL (l c : Bool) (W D : Nat) (xs : List PyData) : Prop where
  ls : PyData.leavesShortAll 60 xs = true
  wt : PyData.weightAll xs ≤ W
  dp : PyData.depthAll xs ≤ D
  sh : PyData.showableAll xs = true
  nl : (noLists xs || l) = true
  nd : (!PyData.hasDictAll xs || c) = true
section
variable {l c : Bool} {W W1 W2 D D1 : Nat} {d : PyData} {xs ys : List PyData}
theorem or_bb {a b c : Bool} (h1 : (a || c) = true) (h2 : (b || c) = true) : (a && b || c) = true := by
  revert h1 h2; cases a <;> cases b <;> cases c <;> decide
theorem nor_bb {a b c : Bool} (h1 : (!a || c) = true) (h2 : (!b || c) = true) : (!(a || b) || c) = true := by
  revert h1 h2; cases a <;> cases b <;> cases c <;> decide
theorem bb_or {a b c : Bool} (h : (a && b || c) = true) : (a || c) = true ∧ (b || c) = true := by
  cases a <;> cases b <;> cases c <;> first | exact ⟨rfl, rfl⟩ | cases h
theorem bb_nor {a b c : Bool} (h : (!(a || b) || c) = true) : (!a || c) = true ∧ (!b || c) = true := by
  cases a <;> cases b <;> cases c <;> first | exact ⟨rfl, rfl⟩ | cases h
theorem FnL.nil : FnL l c W D [] := ⟨rfl, Nat.zero_le _, Nat.zero_le _, rfl, rfl, rfl⟩
theorem FnL.cons (h : Fn l c W1 D d) (t : FnL l c W2 D xs) : FnL l c (W1 + 1 + W2) D (d :: xs) where
  ls := Bool.and_eq_true_iff.mpr ⟨h.ls, t.ls⟩
  wt := by
    show d.weight + 1 + PyData.weightAll xs ≤ _
    have := h.wt
    have := t.wt
    omega
  dp := Nat.max_le.mpr ⟨h.dp, t.dp⟩
  sh := Bool.and_eq_true_iff.mpr ⟨h.sh, t.sh⟩
  nl := or_bb h.nl t.nl
  nd := nor_bb h.nd t.nd
theorem FnL.uncons (h : FnL l c W D (d :: xs)) : Fn l c W D d ∧ FnL l c W D xs ∧ d.weight + 1 + PyData.weightAll xs ≤ W := by
  have wt : d.weight + 1 + PyData.weightAll xs ≤ W := h.wt
  have l1 := Bool.and_eq_true_iff.mp h.ls
  have s1 := Bool.and_eq_true_iff.mp h.sh
  have d1 := Nat.max_le.mp h.dp
  have n1 := bb_or h.nl
  have n2 := bb_nor h.nd
  exact ⟨⟨l1.1, by omega, d1.1, s1.1, n1.1, n2.1⟩, ⟨l1.2, by omega, d1.2, s1.2, n1.2, n2.2⟩, wt⟩
theorem FnL.wide (h : FnL l c W D xs) (hW : W ≤ W1) (hD : D ≤ D1) : FnL l c W1 D1 xs := ⟨h.ls, Nat.le_trans h.wt hW, Nat.le_trans h.dp hD, h.sh, h.nl, h.nd⟩
theorem Fn.wide (h : Fn l c W D d) (hW : W ≤ W1) (hD : D ≤ D1) : Fn l c W1 D1 d := ⟨h.ls, Nat.le_trans h.wt hW, Nat.le_trans h.dp hD, h.sh, h.nl, h.nd⟩
theorem or_more {a b c : Bool} (h : (a || b) = true) (hi : b = true → c = true) : (a || c) = true := by
  revert h hi; cases a <;> cases b <;> cases c <;> decide
theorem Fn.more (h : Fn l c W D d) {l' c' : Bool} (hl : l = true → l' = true) (hc : c = true → c' = true) : Fn l' c' W D d := ⟨h.ls, h.wt, h.dp, h.sh, or_more h.nl hl, or_more h.nd hc⟩
theorem FnL.more (h : FnL l c W D xs) {l' c' : Bool} (hl : l = true → l' = true) (hc : c = true → c' = true) : FnL l' c' W D xs := ⟨h.ls, h.wt, h.dp, h.sh, or_more h.nl hl, or_more h.nd hc⟩
theorem FnL.app : ∀ {xs : List PyData} {W1 : Nat}, FnL l c W1 D xs → FnL l c W2 D ys → FnL l c (W1 + W2) D (xs ++ ys)
  | [], _, h, t => t.wide (Nat.le_add_left _ _) (Nat.le_refl _)
  | d :: xs, W1, h, t => by
    obtain ⟨h1, h2, h3⟩ := h.uncons
    have h2' : FnL l c (PyData.weightAll xs) D xs := ⟨h2.ls, Nat.le_refl _, h2.dp, h2.sh, h2.nl, h2.nd⟩
    have h1' : Fn l c d.weight D d := ⟨h1.ls, Nat.le_refl _, h1.dp, h1.sh, h1.nl, h1.nd⟩
    exact (FnL.cons h1' (FnL.app h2' t)).wide (by omega) (Nat.le_refl _)
theorem FnL.take : ∀ {xs : List PyData} {W : Nat} (n : Nat), FnL l c W D xs → FnL l c W D (xs.take n)
  | _, _, 0, _ => by rw [List.take_zero]; exact .nil
  | [], _, n + 1, _ => by rw [List.take_nil]; exact .nil
  | d :: xs, W, n + 1, h => by
    obtain ⟨h1, h2, h3⟩ := h.uncons
    have h2' : FnL l c (PyData.weightAll xs) D xs := ⟨h2.ls, Nat.le_refl _, h2.dp, h2.sh, h2.nl, h2.nd⟩
    have h1' : Fn l c d.weight D d := ⟨h1.ls, Nat.le_refl _, h1.dp, h1.sh, h1.nl, h1.nd⟩
    rw [List.take_succ_cons]
    exact (FnL.cons h1' (FnL.take n h2')).wide h3 (Nat.le_refl _)
theorem FnL.drop : ∀ {xs : List PyData} {W : Nat} (n : Nat), FnL l c W D xs → FnL l c W D (xs.drop n)
  | _, _, 0, h => h
  | [], _, n + 1, _ => by rw [List.drop_nil]; exact .nil
  | d :: xs, W, n + 1, h => by
    rw [List.drop_succ_cons]
    exact FnL.drop n h.uncons.2.1
theorem FnL.cut (lo hi : Option Int) (h : FnL l c W D xs) : FnL l c W D (cutD xs lo hi) := (h.drop _).take _
theorem FnL.rev : ∀ {xs : List PyData} {W : Nat}, FnL l c W D xs → FnL l c W D xs.reverse
  | [], _, h => .nil
  | d :: xs, W, h => by
    obtain ⟨h1, h2, h3⟩ := h.uncons
    have h2' : FnL l c (PyData.weightAll xs) D xs := ⟨h2.ls, Nat.le_refl _, h2.dp, h2.sh, h2.nl, h2.nd⟩
    have h1' : Fn l c d.weight D d := ⟨h1.ls, Nat.le_refl _, h1.dp, h1.sh, h1.nl, h1.nd⟩
    rw [List.reverse_cons]
    exact (FnL.app (FnL.rev h2') (FnL.cons (W2 := 0) h1' .nil)).wide (by omega) (Nat.le_refl _)
theorem FnL.get : ∀ {xs : List PyData} {W : Nat} {i : Nat} {d : PyData}, FnL l c W D xs → xs[i]? = some d → Fn l c W D d
  | [], _, _, _, _, e => by simp at e
  | x :: xs, W, 0, d, h, e => by
    simp at e
    subst e
    exact h.uncons.1
  | x :: xs, W, i + 1, d, h, e => FnL.get (i := i) h.uncons.2.1 (by simpa using e)
theorem FnL.all : ∀ {xs : List PyData} (n : Nat), xs.length ≤ n → (∀ d ∈ xs, Fn l c W1 D d) → FnL l c ((W1 + 1) * n) D xs
  | [], _, _, _ => .nil
  | d :: xs, 0, h, _ => absurd h (by simp)
  | d :: xs, n + 1, h, f => (FnL.cons (f d (List.mem_cons_self ..)) (FnL.all n (by simpa using h) fun e he => f e (List.mem_cons_of_mem _ he))).wide (by rw [Nat.mul_add]; omega) (Nat.le_refl _)
theorem Fn.tup (h : FnL l c W D xs) : Fn l c W (D + 1) (.tuple xs) := ⟨h.ls, h.wt, Nat.succ_le_succ h.dp, h.sh, h.nl, h.nd⟩
theorem Fn.lst (h : FnL true c W D xs) : Fn true c W (D + 1) (.list xs) := ⟨h.ls, h.wt, Nat.succ_le_succ h.dp, h.sh, rfl, h.nd⟩
theorem Fn.none : Fn l c W D .none := ⟨rfl, Nat.zero_le _, Nat.zero_le _, rfl, rfl, rfl⟩
theorem Fn.bool (b : Bool) : Fn l c W D (.bool b) := ⟨rfl, Nat.zero_le _, Nat.zero_le _, rfl, rfl, rfl⟩
theorem Fn.int {i : Int} (h : i.natAbs < 10 ^ 50) (hW : 170 ≤ W) : Fn l c W D (.int i) where
  ls := by
    refine decide_eq_true ?_
    have e := int_text_length_le10 (k := 50) (by decide) h
    show (Str.ofString (toString i)).length ≤ 60
    rw [PySem.ofString_length]
    omega
  wt := by
    show (if i == 0 then 0 else i.natAbs.log2 + 1) ≤ W
    split
    · omega
    · rename_i h0
      have h0 : i.natAbs ≠ 0 := by simpa using h0
      have : i.natAbs.log2 < 167 := (Nat.log2_lt h0).mpr (Nat.lt_of_lt_of_le h (by decide))
      omega
  dp := Nat.zero_le _
  sh := by
    refine decide_eq_true ?_
    by_cases h0 : i.natAbs = 0
    · rw [h0]; decide
    · exact Nat.lt_of_lt_of_le ((Nat.log2_lt (k := 167) h0).mpr (Nat.lt_of_lt_of_le h (by decide))) (by decide)
  nl := rfl
  nd := rfl
theorem Fn.sint {i : Int} (h : i.natAbs < 2 ^ 20) (hW : 20 ≤ W) : Fn l c W D (.int i) where
  ls := (Fn.int (l := l) (c := c) (W := 170) (D := 0) (i := i) (Nat.lt_of_lt_of_le h (by decide)) (Nat.le_refl _)).ls
  wt := by
    show (if i == 0 then 0 else i.natAbs.log2 + 1) ≤ W
    split
    · omega
    · rename_i h0
      have h0 : i.natAbs ≠ 0 := by simpa using h0
      have : i.natAbs.log2 < 20 := (Nat.log2_lt h0).mpr h
      omega
  dp := Nat.zero_le _
  sh := (Fn.int (l := l) (c := c) (W := 170) (D := 0) (i := i) (Nat.lt_of_lt_of_le h (by decide)) (Nat.le_refl _)).sh
  nl := rfl
  nd := rfl
theorem Fn.str {x : Str} (h : (x.cps.toList.all fun c => decide (c < 16 ^ 8)) = true) (hW : x.cps.size ≤ W) : Fn l c W D (.str x) := ⟨h, hW, Nat.zero_le _, rfl, rfl, rfl⟩
theorem Fn.dict0 : Fn l true W (D + 1) (.dict []) := ⟨rfl, Nat.zero_le _, Nat.le_add_left _ _, rfl, rfl, rfl⟩
theorem Fn.ok (h : Fn l c 60000 60 d) (hlc : (l && c) = false) : shownOk d = true := by
  have h1 := PyData.shown_le 60 (by decide) d h.ls
  have h2 := h.wt
  unfold shownOk
  rw [h.sh, Bool.true_and, Bool.and_eq_true, Bool.and_eq_true]
  refine ⟨⟨decide_eq_true ?_, decide_eq_true h.dp⟩, ?_⟩
  · rw [sizeLine_eq]
    omega
  · have a := h.nl
    have b := h.nd
    cases l <;> cases c <;> simp_all
end
end Tw

set_option Elab.async false
set_option linter.all false
set_option maxRecDepth 100000
set_option maxHeartbeats 4000000
namespace Lw
open PySem PySem.Spec PyProof.Rows L2 Tw
abbrev topS (i : Nat) : Stmt := PySem.Challenge.pw_tiewheel_k02_hands_and_ways.main.body.getD i (.Pass ⟨0, 0, 0, 0⟩)
structure Tops (K : PySem.W.Frag) (mg : Str → Option Value) : Prop where
  b_abs : mg "abs" = none
  b_all : mg "all" = none
  b_bool : mg "bool" = none
  b_enumerate : mg "enumerate" = none
  b_int : mg "int" = none
  b_isinstance : mg "isinstance" = none
  b_len : mg "len" = none
  b_max : mg "max" = none
  b_min : mg "min" = none
  b_range : mg "range" = none
  b_repr : mg "repr" = none
  b_sorted : mg "sorted" = none
  b_tuple : mg "tuple" = none
  c_HANDS : ∃ t, mg "HANDS" = some (.int 4 t)
  c_MOST_POSTS : ∃ t, mg "MOST_POSTS" = some (.int 60 t)
abbrev s__law_pot : Stmt := topS 22
theorem sc__law_pot : FnScope ["_law_script", "_law_k", "_law_cell", "_law_mixed"] ["_law_script", "_law_k"] (defScope s__law_pot) := ⟨rfl, rfl, rfl, by decide +kernel, rfl, by decide +kernel, by decide +kernel⟩
def f__law_pot : FS := (fSeq (fAsg (ret (.int 0)) (gNm 2))
    (fSeq (fIfS (fTst (fBin ltD (fVar 1) (fCall lenD (fCons (fVar 0) fNil)))) (fAsg (fBin modD (fCall absD (fCons (fBin ixD (fVar 0) (fVar 1)) fNil)) (fBin powD (fBin powD (ret (.int 10)) (ret (.int 60))) (ret (.int 14)))) (gNm 2)) fNext)
    (fSeq (fAsg (fBin modD (fBin powD (fBin addD (fBin addD (fBin modD (fVar 2) (ret (.int 2305843009213693921))) (fBin mulI (ret (.int 104729)) (fVar 1))) (ret (.int 1))) (ret (.int 3))) (ret (.int 2305843009213693951))) (gNm 3))
    (fRetF (thnE (fCons (fBin mulI (fVar 2) (fCall intD (fCons (fBin geI (fVar 2) (fBin powD (ret (.int 10)) (ret (.int 18)))) fNil))) (fCons (fVar 3) (fCons (ret (.int 0)) fNil))) fun xs => liftO (if sizeOk xs.length = true then some xs else none))))))
def g__law_pot : List PyData → Option (List PyData) := runF 4 f__law_pot
theorem mk__law_pot {Pr : Program} {w : World} {K : PySem.W.Frag} {mg : Str → Option Value} {base : Heap} (T : Tops K mg) {f : Addr} {fd : FuncData} (F : Fun K "_law_pot" "_law_pot" s__law_pot f fd) (gl : mg "_law_pot" = some (.ref f)) :
    Cal Pr w K mg base 1 "_law_pot" ["_law_script", "_law_k"] (spF K 2 g__law_pot) f fd := by
  refine ⟨fn_F F sc__law_pot fun cdv A outer s H hh => ?_, gl, F.kp, F.binds (ps := ["_law_script", "_law_k"]) fun _ _ _ _ _ _ us hl => match us, hl with | [_, _], _ => rfl⟩
  have nd := sc__law_pot.nd
  exact (s_cons (s_asg (bb := true) e_int (g_nm (P := []) (by decide) (pg_name (i := 2) nd rfl (by first | exact Or.inl rfl | exact Or.inr rfl))))
    (s_cons (s_if (bb := true) (t_cmp (op_ltD hh.u0) d_lt (nomark _) (e_var 1 (pv 1)) (e_callB call_lenD2 d_len (by rfl) T.b_len (by decide +kernel) (a_cons (e_var 0 (pv 0)) a_nil))) (s_one (s_asg (bb := true) (e_op op_mod d_mod (e_callB call_abs d_abs (by rfl) T.b_abs (by decide +kernel) (a_cons (e_ix ix_seqB d_ix (fun _ _ => rfl) (e_var 0 (pv 0)) (e_var 1 (pv 1))) a_nil)) (e_op op_powW d_pow (e_op op_powW d_pow e_int e_int) e_int)) (g_nm (P := []) (by decide) (pg_name (i := 2) nd rfl (by first | exact Or.inl rfl | exact Or.inr rfl))))) s_nil)
    (s_cons (s_asg (bb := true) (e_op op_mod d_mod (e_op op_powW d_pow (e_op op_addD d_add (e_op op_addD d_add (e_op op_mod d_mod (e_var 2 (pv 2)) e_int) (e_op op_mulW d_mulI e_int (e_var 1 (pv 1)))) e_int) e_int) e_int) (g_nm (P := []) (by decide) (pg_name (i := 3) nd rfl (by first | exact Or.inl rfl | exact Or.inr rfl))))
    (s_one (s_retF (bb := true) (l_lst (a_cons (e_op op_mulW d_mulI (e_var 2 (pv 2)) (e_callTy call_int1 d_int (by rfl) T.b_int (by decide +kernel) (a_cons (e_cmp op_geI d_geI (nomark _) (e_var 2 (pv 2)) (e_op op_powW d_pow e_int e_int)) a_nil))) (a_cons (e_var 3 (pv 3)) (a_cons e_int a_nil)))))))))
abbrev s__law_number : Stmt := topS 26
theorem sc__law_number : FnScope ["_law_web", "_law_hand", "_law_at", "_law_way"] ["_law_web", "_law_hand"] (defScope s__law_number) := ⟨rfl, rfl, rfl, by decide +kernel, rfl, by decide +kernel, by decide +kernel⟩
def f__law_number : FS := (fRet (fBin ixD (fOf (fLc (fEnum (fCons (fBin ixD (fVar 0) (ret (.int 1))) fNil)) (gTp [(gNm 2), (gNm 3)]) (fTst (fBin (inD false) (fVar 1) (fVar 3))) (fVar 2) [2, 3])) (ret (.int 0))))
def g__law_number : List PyData → Option PyData := runP 4 f__law_number
theorem mk__law_number {Pr : Program} {w : World} {K : PySem.W.Frag} {mg : Str → Option Value} {base : Heap} (T : Tops K mg) {f : Addr} {fd : FuncData} (F : Fun K "_law_number" "_law_number" s__law_number f fd) (gl : mg "_law_number" = some (.ref f)) :
    Cal Pr w K mg base 1 "_law_number" ["_law_web", "_law_hand"] (spP K 2 g__law_number) f fd := by
  refine ⟨fn_P F sc__law_number fun cdv A outer s H hh => ?_, gl, F.kp, F.binds (ps := ["_law_web", "_law_hand"]) fun _ _ _ _ _ _ us hl => match us, hl with | [_, _], _ => rfl⟩
  have nd := sc__law_number.nd
  exact (s_one (s_ret (bb := true) (e_ix ix_seqB d_ix (fun _ _ => rfl) (e_ofF (l_lc (own := [("_law_at", 2), ("_law_way", 3)]) 4 hh.c nd (i_enum (by rfl) T.b_enumerate (a_cons (e_ix ix_seqB d_ix (fun _ _ => rfl) (e_var 0 (pv 0)) e_int) a_nil)) (blkOk_by (by first | rfl | kernel_rfl)) (fun _ _ _ _ _ => (g_tp hh.blk.c (gs_cons (g_nm (P := compl 4 [2, 3]) (by decide) (pg_name (i := 2) nd rfl (by first | exact Or.inl rfl | exact Or.inr rfl))) (gs_cons (g_nm (P := compl 4 [2, 3]) (by decide) (pg_name (i := 3) nd rfl (by first | exact Or.inl rfl | exact Or.inr rfl))) gs_nil)))) (fun _ _ _ _ _ => (ts_one (t_cmp op_in_seq (d_in false) (by rfl) (e_var 1 (pv 1)) (e_var 3 (pv 3))))) (fun _ _ _ _ _ => (e_var 2 (pv 2))))) e_int)))
abbrev s_are_all_met : Stmt := topS 11
theorem sc_are_all_met : FnScope ["beyond", "ways", "behind", "other", "are_met"] ["beyond", "ways", "behind"] (defScope s_are_all_met) := ⟨rfl, rfl, rfl, by decide +kernel, rfl, by decide +kernel, by decide +kernel⟩
def f_are_all_met : FS := (fSeq (fAsg (fPeek 0 (fBin ixD (fVar 0) (ret (.int 0)))) (gNm 3))
    (fSeq (fIfS (tdOr (fTst (fBin isNoneD (fVar 3) (ret .none))) (tdOr (fTst (fUn (isiD "bool") (fVar 3))) (tdOr (fTst (fUn (isiD "bool") (fBin ixD (fBin ixD (fVar 1) (ret (.int 0))) (ret (.int 0))))) (fTst (fUn (isiD "bool") (fBin ixD (fBin ixD (fVar 1) (ret (.int 1))) (ret (.int 0)))))))) (fRet (ret (.bool false))) fNext)
    (fSeq (fSetI 0 (fPeek 0 (fCall lenD (fCons (fVar 0) fNil))) (fVar 3))
    (fSeq (fAsg (fIf (fTst (fBin eqD (fVar 2) (fCall lenD (fCons (fVar 1) fNil)))) (fPeek 0 (fCall allV (fCons (fSl (fVar 0) (fPart (fVar 2)) (ret none)) fNil))) (fPeek 0 (fCall allV (fCons (fVar 0) fNil)))) (gNm 4))
    (fSeq (fSetI 0 (ret (.int 0)) (fVar 3))
    (fRet (fVar 4)))))))
def g_are_all_met : List PyData → List PyData → Option (PyData × List PyData) := runM 5 f_are_all_met
theorem mk_are_all_met {Pr : Program} {w : World} {K : PySem.W.Frag} {mg : Str → Option Value} {base : Heap} (T : Tops K mg) {f : Addr} {fd : FuncData} (F : Fun K "are_all_met" "are_all_met" s_are_all_met f fd) (gl : mg "are_all_met" = some (.ref f)) :
    Cal Pr w K mg base 1 "are_all_met" ["beyond", "ways", "behind"] (spM K 2 g_are_all_met) f fd := by
  refine ⟨fn_M F sc_are_all_met (by decide) fun cdv A outer s H hh => ?_, gl, F.kp, F.binds (ps := ["beyond", "ways", "behind"]) fun _ _ _ _ _ _ us hl => match us, hl with | [_, _, _], _ => rfl⟩
  have nd := sc_are_all_met.nd
  exact (s_cons (s_asg (bb := true) (e_peek 0 (e_ix ix_seqB d_ix (fun _ _ => rfl) (e_var 0 (pv 0)) e_int)) (g_nm (P := [0]) (by decide) (pg_name (i := 3) nd rfl (by first | exact Or.inl rfl | exact Or.inr rfl))))
    (s_cons (s_if (bb := true) (PW.pt (w_or (t_cmp op_isN d_isN (nomark _) (e_var 3 (pv 3)) e_non) (w_or (t_val (e_isi (T := "bool") (by rfl) T.b_isinstance (by decide +kernel) (by rfl) T.b_bool (by decide +kernel) (e_var 3 (pv 3)))) (w_or (t_val (e_isi (T := "bool") (by rfl) T.b_isinstance (by decide +kernel) (by rfl) T.b_bool (by decide +kernel) (e_ix ix_seqB d_ix (fun _ _ => rfl) (e_ix ix_seqB d_ix (fun _ _ => rfl) (e_var 1 (pv 1)) e_int) e_int))) (w_or1 (t_val (e_isi (T := "bool") (by rfl) T.b_isinstance (by decide +kernel) (by rfl) T.b_bool (by decide +kernel) (e_ix ix_seqB d_ix (fun _ _ => rfl) (e_ix ix_seqB d_ix (fun _ _ => rfl) (e_var 1 (pv 1)) e_int) e_int)))))))) (s_one (s_ret (bb := true) e_bl)) s_nil)
    (s_cons (s_setI 0 (pg_sub (pv 0) (e_var 3 (pv 3)) set_list2) (e_peek 0 (e_callB call_lenD2 d_len (by rfl) T.b_len (by decide +kernel) (a_cons (e_var 0 (pv 0)) a_nil))))
    (s_cons (s_asg (bb := true) (e_if (t_cmp (op_eq2 hh.u) d_eq (nomark _) (e_var 2 (pv 2)) (e_callB call_lenD2 d_len (by rfl) T.b_len (by decide +kernel) (a_cons (e_var 1 (pv 1)) a_nil))) (e_peek 0 (e_callB (call_allV hh.c) d_allV (by rfl) T.b_all (by decide +kernel) (a_cons (e_sl (e_var 0 (pv 0)) (o_some (e_var 2 (pv 2))) o_none) a_nil))) (e_peek 0 (e_callB (call_allV hh.c) d_allV (by rfl) T.b_all (by decide +kernel) (a_cons (e_var 0 (pv 0)) a_nil)))) (g_nm (P := [0]) (by decide) (pg_name (i := 4) nd rfl (by first | exact Or.inl rfl | exact Or.inr rfl))))
    (s_cons (s_setI 0 (pg_sub (pv 0) (e_var 3 (pv 3)) set_list2) e_int)
    (s_one (s_ret (bb := true) (e_var 4 (pv 4)))))))))
abbrev s_hands_across : Stmt := topS 10
theorem sc_hands_across : FnScope ["thing", "many", "beyond", "ends", "least", "way", "end", "posts", "ways", "low", "high"] ["thing"] (defScope s_hands_across) := ⟨rfl, rfl, rfl, by decide +kernel, rfl, by decide +kernel, by decide +kernel⟩
def b1_hands_across : FS := (fSeq (fIfS (fTst (fUn (isiD "tuple") (fVar 5))) (fMat (fVar 5) (mCase [9, 10] (fIfS (tdAnd (tdOr (fTst (fBin eqD (fVar 9) (fVar 4))) (tdAnd (fTst (fUn (isiD "int") (fVar 9))) (fTst (fBin gtI (fVar 9) (fVar 4))))) (tdAnd (fTst (fUn (isiD "int") (fVar 10))) (tdAnd (fTst (fBin ltD (fVar 9) (fVar 10))) (fTst (fBin ltD (fVar 10) (fVar 1)))))) (fSeq (fSetI 2 (fVar 10) (fVar 9))
    (fSeq (fSetI 2 (fVar 9) (fVar 10))
    (fSeq (fAsg (fBin addD (fVar 9) (ret (.int 1))) (gNm 4))
    (fun ρ => some (.ct ρ))))) fNext) (mCase [9] (fIfS (tdAnd (fTst (fUn (isiD "int") (fVar 9))) (tdAnd (fTst (fBin geI (fVar 9) (fVar 4))) (fTst (fBin ltD (fVar 9) (fVar 1))))) (fSeq (fSetI 2 (fVar 9) (fVar 9))
    (fSeq (fDrop (fMet 3 appG (fCons (fVar 9) fNil)))
    (fSeq (fAsg (fBin addD (fVar 9) (ret (.int 1))) (gNm 4))
    (fun ρ => some (.ct ρ))))) fNext) mEnd))) fNext)
    (fRet (ret .none)))
def b2_hands_across : FS := (fSetI 2 (ret .none) (fVar 6))
def f_hands_across : FS := (fSeq (fIfS (tdOr (tdNot (fTst (fUn (isiD "tuple") (fVar 0)))) (fTst (fBin neD (fCall lenD (fCons (fVar 0) fNil)) (ret (.int 2))))) (fRet (ret .none)) fNext)
    (fSeq (fAsg (fVar 0) (gTp [(gNm 7), (gNm 8)]))
    (fSeq (fIfS (tdOr (tdNot (fTst (fUn (isiD "int") (fVar 7)))) (tdOr (fTst (fUn (isiD "bool") (fVar 7))) (tdNot (fTst (fChain leI leI (ret (.int 0)) (fVar 7) (ret (.int 60))))))) (fRet (ret .none)) fNext)
    (fSeq (fIfS (tdNot (fTst (fUn (isiD "tuple") (fVar 8)))) (fRet (ret .none)) fNext)
    (fSeq (fAsg (fBin mulI (ret (.int 4)) (fVar 7)) (gNm 1))
    (fSeq (fOwn (fOpN repN (fOf (thnE (fCons (ret .none) fNil) fun xs => liftO (if sizeOk xs.length = true then some xs else none))) (fVar 1)) 2)
    (fSeq (fOwn (thnE fNil fun xs => liftO (if sizeOk xs.length = true then some xs else none)) 3)
    (fSeq (fAsg (ret (.int 0)) (gNm 4))
    (fSeq (fFor (fItems (fVar 8)) (gNm 5) b1_hands_across)
    (fFrz 3 (fSeq (fIfS (tdOr (fTst (fBin neD (fCall lenD (fCons (fVar 3) fNil)) (fBin subD (fBin mulI (ret (.int 2)) (fCall lenD (fCons (fVar 8) fNil))) (fVar 1)))) (tdAnd (fTst (fBin gtI (fVar 7) (ret (.int 0)))) (tdNot (fTst (fCallM 2 g_are_all_met 2 (fCons (fVar 8) (fCons (fVar 4) fNil))))))) (fRet (ret .none)) fNext)
    (fSeq (fFor (fItems (fVar 3)) (gNm 6) b2_hands_across)
    (fFrz 2 (fRet (fVar 2)))))))))))))))
def g_hands_across : List PyData → Option PyData := runP 11 f_hands_across
theorem mk_hands_across {Pr : Program} {w : World} {K : PySem.W.Frag} {mg : Str → Option Value} {base : Heap} (T : Tops K mg) {a_are_all_met : Addr} {d_are_all_met : FuncData} (c_are_all_met : Cal Pr w K mg base 1 "are_all_met" ["beyond", "ways", "behind"] (spM K 2 g_are_all_met) a_are_all_met d_are_all_met) {f : Addr} {fd : FuncData} (F : Fun K "hands_across" "hands_across" s_hands_across f fd) (gl : mg "hands_across" = some (.ref f)) :
    Cal Pr w K mg base 2 "hands_across" ["thing"] (spP K 1 g_hands_across) f fd := by
  refine ⟨fn_P F sc_hands_across fun cdv A outer s H hh => ?_, gl, F.kp, F.binds (ps := ["thing"]) fun _ _ _ _ _ _ us hl => match us, hl with | [_], _ => rfl⟩
  have nd := sc_hands_across.nd
  exact (s_cons (s_if (bb := true) (PW.pt (w_or (t_not (t_val (e_isi (T := "tuple") (by rfl) T.b_isinstance (by decide +kernel) (by rfl) T.b_tuple (by decide +kernel) (e_var 0 (pv 0))))) (w_or1 (t_cmp (op_ne2 hh.u) d_ne (nomark _) (e_callB call_lenD2 d_len (by rfl) T.b_len (by decide +kernel) (a_cons (e_var 0 (pv 0)) a_nil)) e_int)))) (s_one (s_ret (bb := true) e_non)) s_nil)
    (s_cons (s_asg (bb := true) (e_var 0 (pv 0)) (g_tp hh.c (gs_cons (g_nm (P := []) (by decide) (pg_name (i := 7) nd rfl (by first | exact Or.inl rfl | exact Or.inr rfl))) (gs_cons (g_nm (P := []) (by decide) (pg_name (i := 8) nd rfl (by first | exact Or.inl rfl | exact Or.inr rfl))) gs_nil))))
    (s_cons (s_if (bb := true) (PW.pt (w_or (t_not (t_val (e_isi (T := "int") (by rfl) T.b_isinstance (by decide +kernel) (by rfl) T.b_int (by decide +kernel) (e_var 7 (pv 7))))) (w_or (t_val (e_isi (T := "bool") (by rfl) T.b_isinstance (by decide +kernel) (by rfl) T.b_bool (by decide +kernel) (e_var 7 (pv 7)))) (w_or1 (t_not (t_chain op_leI op_leI d_leI d_leI e_int (e_var 7 (pv 7)) (e_globE (by rfl) T.c_MOST_POSTS))))))) (s_one (s_ret (bb := true) e_non)) s_nil)
    (s_cons (s_if (bb := true) (t_not (t_val (e_isi (T := "tuple") (by rfl) T.b_isinstance (by decide +kernel) (by rfl) T.b_tuple (by decide +kernel) (e_var 8 (pv 8))))) (s_one (s_ret (bb := true) e_non)) s_nil)
    (s_cons (s_asg (bb := true) (e_op op_mulW d_mulI (e_globE (by rfl) T.c_HANDS) (e_var 7 (pv 7))) (g_nm (P := []) (by decide) (pg_name (i := 1) nd rfl (by first | exact Or.inl rfl | exact Or.inr rfl))))
    (s_cons (s_own (bb := true) 2 (P := []) (by decide) (l_op op_repR n_rep (e_ofF (l_lst (a_cons e_non a_nil))) (e_var 1 (pv 1))) (pg_name (i := 2) nd rfl (by first | exact Or.inl rfl | exact Or.inr rfl)))
    (s_cons (s_own (bb := true) 3 (P := []) (by decide) (l_lst a_nil) (pg_name (i := 3) nd rfl (by first | exact Or.inl rfl | exact Or.inr rfl)))
    (s_cons (s_asg (bb := true) e_int (g_nm (P := []) (by decide) (pg_name (i := 4) nd rfl (by first | exact Or.inl rfl | exact Or.inr rfl))))
    (s_cons (s_for (bb := true) PassesOwn.never hh.c (i_seq (e_var 8 (pv 8))) (g_nm (P := []) (by decide) (pg_name (i := 5) nd rfl (by first | exact Or.inl rfl | exact Or.inr rfl))) (s_cons (s_if (bb := true) (t_val (e_isi (T := "tuple") (by rfl) T.b_isinstance (by decide +kernel) (by rfl) T.b_tuple (by decide +kernel) (e_var 5 (pv 5)))) (s_one (s_match (bb := true) (e_var 5 (pv 5)) (m_two (P := []) (i := 9) (j := 10) (by decide) (by decide) hh.c nd rfl rfl (by first | exact Or.inl rfl | exact Or.inr rfl) (by first | exact Or.inl rfl | exact Or.inr rfl) (s_one (s_if (bb := true) (PW.pt (w_and (PW.pt (w_or (t_cmp (op_eq2 hh.u) d_eq (nomark _) (e_var 9 (pv 9)) (e_var 4 (pv 4))) (w_or1 (PW.pt (w_and (t_val (e_isi (T := "int") (by rfl) T.b_isinstance (by decide +kernel) (by rfl) T.b_int (by decide +kernel) (e_var 9 (pv 9)))) (w_and1 (t_cmp op_gtI d_gtI (nomark _) (e_var 9 (pv 9)) (e_var 4 (pv 4))))))))) (w_and1 (PW.pt (w_and (t_val (e_isi (T := "int") (by rfl) T.b_isinstance (by decide +kernel) (by rfl) T.b_int (by decide +kernel) (e_var 10 (pv 10)))) (w_and (t_cmp (op_ltD hh.u0) d_lt (nomark _) (e_var 9 (pv 9)) (e_var 10 (pv 10))) (w_and1 (t_cmp (op_ltD hh.u0) d_lt (nomark _) (e_var 10 (pv 10)) (e_var 1 (pv 1)))))))))) (s_cons (s_setI 2 (pg_sub (pv 2) (e_var 9 (pv 9)) set_list2) (e_var 10 (pv 10)))
    (s_cons (s_setI 2 (pg_sub (pv 2) (e_var 10 (pv 10)) set_list2) (e_var 9 (pv 9)))
    (s_cons (s_asg (bb := true) (e_op op_addD d_add (e_var 9 (pv 9)) e_int) (g_nm (P := []) (by decide) (pg_name (i := 4) nd rfl (by first | exact Or.inl rfl | exact Or.inr rfl))))
    (s_one s_continue)))) s_nil)) (m_one (P := []) (i := 9) (by decide) hh.c nd rfl (by first | exact Or.inl rfl | exact Or.inr rfl) (s_one (s_if (bb := true) (PW.pt (w_and (t_val (e_isi (T := "int") (by rfl) T.b_isinstance (by decide +kernel) (by rfl) T.b_int (by decide +kernel) (e_var 9 (pv 9)))) (w_and (t_cmp op_geI d_geI (nomark _) (e_var 9 (pv 9)) (e_var 4 (pv 4))) (w_and1 (t_cmp (op_ltD hh.u0) d_lt (nomark _) (e_var 9 (pv 9)) (e_var 1 (pv 1))))))) (s_cons (s_setI 2 (pg_sub (pv 2) (e_var 9 (pv 9)) set_list2) (e_var 9 (pv 9)))
    (s_cons (s_drop (bb := true) (e_met 3 m_app (pe_bm PySem.F.plainAttrs_list PySem.F.slot_list_append PySem.F.type_list_append mt_append (pv 3) (a_cons (e_var 9 (pv 9)) a_nil))))
    (s_cons (s_asg (bb := true) (e_op op_addD d_add (e_var 9 (pv 9)) e_int) (g_nm (P := []) (by decide) (pg_name (i := 4) nd rfl (by first | exact Or.inl rfl | exact Or.inr rfl))))
    (s_one s_continue)))) s_nil)) m_nil)))) s_nil)
    (s_one (s_ret (bb := true) e_non))))
    (ss_frz 3 (s_cons (s_if (bb := true) (PW.pt (w_or (t_cmp (op_ne2 hh.u) d_ne (nomark _) (e_callB call_lenD2 d_len (by rfl) T.b_len (by decide +kernel) (a_cons (e_var 3 (pv 3)) a_nil)) (e_op op_sub d_sub (e_op op_mulW d_mulI e_int (e_callB call_lenD2 d_len (by rfl) T.b_len (by decide +kernel) (a_cons (e_var 8 (pv 8)) a_nil))) (e_var 1 (pv 1)))) (w_or1 (PW.pt (w_and (t_cmp op_gtI d_gtI (nomark _) (e_var 7 (pv 7)) e_int) (w_and1 (t_not (t_val (e_callM 2 c_are_all_met.ok (hh.mono (by decide)) (by rfl) c_are_all_met.gl c_are_all_met.kp c_are_all_met.bd (pv 2) (a_cons (e_var 8 (pv 8)) (a_cons (e_var 4 (pv 4)) a_nil))))))))))) (s_one (s_ret (bb := true) e_non)) s_nil)
    (s_cons (s_for (bb := true) PassesOwn.never hh.c (i_seq (e_var 3 (pv 3))) (g_nm (P := []) (by decide) (pg_name (i := 6) nd rfl (by first | exact Or.inl rfl | exact Or.inr rfl))) (s_one (s_setI 2 (pg_sub (pv 2) (e_var 6 (pv 6)) set_list2) e_non)))
    (ss_frz 2 (s_one (s_ret (bb := true) (e_var 2 (pv 2)))))))))))))))))
abbrev s_need_web : Stmt := topS 12
theorem sc_need_web : FnScope ["web", "beyond"] ["web"] (defScope s_need_web) := ⟨rfl, rfl, rfl, by decide +kernel, rfl, by decide +kernel, by decide +kernel⟩
def f_need_web : FS := (fSeq (fAsg (fCall (lenIs 1 g_hands_across) (fCons (fVar 0) fNil)) (gNm 1))
    (fSeq (fIfS (fTst (fBin isNoneD (fVar 1) (ret .none))) fNever fNext)
    (fRet (fVar 1))))
def g_need_web : List PyData → Option PyData := runP 2 f_need_web
theorem mk_need_web {Pr : Program} {w : World} {K : PySem.W.Frag} {mg : Str → Option Value} {base : Heap} (T : Tops K mg) {a_hands_across : Addr} {d_hands_across : FuncData} (c_hands_across : Cal Pr w K mg base 2 "hands_across" ["thing"] (spP K 1 g_hands_across) a_hands_across d_hands_across) {f : Addr} {fd : FuncData} (F : Fun K "need_web" "need_web" s_need_web f fd) (gl : mg "need_web" = some (.ref f)) :
    Cal Pr w K mg base 3 "need_web" ["web"] (spP K 1 g_need_web) f fd := by
  refine ⟨fn_P F sc_need_web fun cdv A outer s H hh => ?_, gl, F.kp, F.binds (ps := ["web"]) fun _ _ _ _ _ _ us hl => match us, hl with | [_], _ => rfl⟩
  have nd := sc_need_web.nd
  exact (s_cons (s_asg (bb := true) (e_callP c_hands_across.ok (hh.mono (by decide)) (by rfl) c_hands_across.gl c_hands_across.kp c_hands_across.bd (a_cons (e_var 0 (pv 0)) a_nil)) (g_nm (P := []) (by decide) (pg_name (i := 1) nd rfl (by first | exact Or.inl rfl | exact Or.inr rfl))))
    (s_cons (s_if (bb := true) (t_cmp op_isN d_isN (nomark _) (e_var 1 (pv 1)) e_non) (s_one s_never) s_nil)
    (s_one (s_ret (bb := true) (e_var 1 (pv 1))))))
abbrev s_is_below : Stmt := topS 6
theorem sc_is_below : FnScope ["thing", "many"] ["thing", "many"] (defScope s_is_below) := ⟨rfl, rfl, rfl, by decide +kernel, rfl, by decide +kernel, by decide +kernel⟩
def f_is_below : FS := (fRet (vAnd (fUn (isiD "int") (fVar 0)) (vAnd (vNot (fUn (isiD "bool") (fVar 0))) (fChain leI ltD (ret (.int 0)) (fVar 0) (fVar 1)))))
def g_is_below : List PyData → Option PyData := runP 2 f_is_below
theorem mk_is_below {Pr : Program} {w : World} {K : PySem.W.Frag} {mg : Str → Option Value} {base : Heap} (T : Tops K mg) {f : Addr} {fd : FuncData} (F : Fun K "is_below" "is_below" s_is_below f fd) (gl : mg "is_below" = some (.ref f)) :
    Cal Pr w K mg base 1 "is_below" ["thing", "many"] (spP K 2 g_is_below) f fd := by
  refine ⟨fn_P F sc_is_below fun cdv A outer s H hh => ?_, gl, F.kp, F.binds (ps := ["thing", "many"]) fun _ _ _ _ _ _ us hl => match us, hl with | [_, _], _ => rfl⟩
  have nd := sc_is_below.nd
  exact (s_one (s_ret (bb := true) (e_and (e_isi (T := "int") (by rfl) T.b_isinstance (by decide +kernel) (by rfl) T.b_int (by decide +kernel) (e_var 0 (pv 0))) (e_and (e_not (e_isi (T := "bool") (by rfl) T.b_isinstance (by decide +kernel) (by rfl) T.b_bool (by decide +kernel) (e_var 0 (pv 0)))) (e_one (e_chain op_leI (op_ltD hh.u0) d_leI d_lt e_int (e_var 0 (pv 0)) (e_var 1 (pv 1))))))))
abbrev s_across : Stmt := topS 17
theorem sc_across : FnScope ["web", "hand", "beyond"] ["web", "hand"] (defScope s_across) := ⟨rfl, rfl, rfl, by decide +kernel, rfl, by decide +kernel, by decide +kernel⟩
def f_across : FS := (fSeq (fAsg (fCall (lenIs 1 g_need_web) (fCons (fVar 0) fNil)) (gNm 2))
    (fSeq (fIfS (tdNot (fTst (fCall (lenIs 2 g_is_below) (fCons (fVar 1) (fCons (fCall lenD (fCons (fVar 2) fNil)) fNil))))) fNever fNext)
    (fRet (fBin ixD (fVar 2) (fVar 1)))))
def g_across : List PyData → Option PyData := runP 3 f_across
theorem mk_across {Pr : Program} {w : World} {K : PySem.W.Frag} {mg : Str → Option Value} {base : Heap} (T : Tops K mg) {a_need_web : Addr} {d_need_web : FuncData} (c_need_web : Cal Pr w K mg base 3 "need_web" ["web"] (spP K 1 g_need_web) a_need_web d_need_web) {a_is_below : Addr} {d_is_below : FuncData} (c_is_below : Cal Pr w K mg base 1 "is_below" ["thing", "many"] (spP K 2 g_is_below) a_is_below d_is_below) {f : Addr} {fd : FuncData} (F : Fun K "across" "across" s_across f fd) (gl : mg "across" = some (.ref f)) :
    Cal Pr w K mg base 4 "across" ["web", "hand"] (spP K 2 g_across) f fd := by
  refine ⟨fn_P F sc_across fun cdv A outer s H hh => ?_, gl, F.kp, F.binds (ps := ["web", "hand"]) fun _ _ _ _ _ _ us hl => match us, hl with | [_, _], _ => rfl⟩
  have nd := sc_across.nd
  exact (s_cons (s_asg (bb := true) (e_callP c_need_web.ok (hh.mono (by decide)) (by rfl) c_need_web.gl c_need_web.kp c_need_web.bd (a_cons (e_var 0 (pv 0)) a_nil)) (g_nm (P := []) (by decide) (pg_name (i := 2) nd rfl (by first | exact Or.inl rfl | exact Or.inr rfl))))
    (s_cons (s_if (bb := true) (t_not (t_val (e_callP c_is_below.ok (hh.mono (by decide)) (by rfl) c_is_below.gl c_is_below.kp c_is_below.bd (a_cons (e_var 1 (pv 1)) (a_cons (e_callB call_lenD2 d_len (by rfl) T.b_len (by decide +kernel) (a_cons (e_var 2 (pv 2)) a_nil)) a_nil))))) (s_one s_never) s_nil)
    (s_one (s_ret (bb := true) (e_ix ix_seqB d_ix (fun _ _ => rfl) (e_var 2 (pv 2)) (e_var 1 (pv 1)))))))
abbrev s_need_hand : Stmt := topS 14
theorem sc_need_hand : FnScope ["beyond", "hand"] ["beyond", "hand"] (defScope s_need_hand) := ⟨rfl, rfl, rfl, by decide +kernel, rfl, by decide +kernel, by decide +kernel⟩
def f_need_hand : FS := (fIfS (tdNot (fTst (fCall (lenIs 2 g_is_below) (fCons (fVar 1) (fCons (fCall lenD (fCons (fVar 0) fNil)) fNil))))) fNever fNext)
def g_need_hand : List PyData → Option PyData := runP 2 f_need_hand
theorem mk_need_hand {Pr : Program} {w : World} {K : PySem.W.Frag} {mg : Str → Option Value} {base : Heap} (T : Tops K mg) {a_is_below : Addr} {d_is_below : FuncData} (c_is_below : Cal Pr w K mg base 1 "is_below" ["thing", "many"] (spP K 2 g_is_below) a_is_below d_is_below) {f : Addr} {fd : FuncData} (F : Fun K "need_hand" "need_hand" s_need_hand f fd) (gl : mg "need_hand" = some (.ref f)) :
    Cal Pr w K mg base 2 "need_hand" ["beyond", "hand"] (spP K 2 g_need_hand) f fd := by
  refine ⟨fn_P F sc_need_hand fun cdv A outer s H hh => ?_, gl, F.kp, F.binds (ps := ["beyond", "hand"]) fun _ _ _ _ _ _ us hl => match us, hl with | [_, _], _ => rfl⟩
  have nd := sc_need_hand.nd
  exact (s_one (s_if (bb := true) (t_not (t_val (e_callP c_is_below.ok (hh.mono (by decide)) (by rfl) c_is_below.gl c_is_below.kp c_is_below.bd (a_cons (e_var 1 (pv 1)) (a_cons (e_callB call_lenD2 d_len (by rfl) T.b_len (by decide +kernel) (a_cons (e_var 0 (pv 0)) a_nil)) a_nil))))) (s_one s_never) s_nil))
abbrev s_way_number : Stmt := topS 15
theorem sc_way_number : FnScope ["web", "beyond", "hand", "ways", "other", "first"] ["web", "beyond", "hand"] (defScope s_way_number) := ⟨rfl, rfl, rfl, by decide +kernel, rfl, by decide +kernel, by decide +kernel⟩
def f_way_number : FS := (fSeq (fAsg (fBin ixD (fVar 0) (ret (.int 1))) (gNm 3))
    (fSeq (fAsg (fBin ixD (fVar 1) (fVar 2)) (gNm 4))
    (fSeq (fAsg (fIf (tdOr (fTst (fBin isNoneD (fVar 4) (ret .none))) (fTst (fBin ltD (fVar 2) (fVar 4)))) (fVar 2) (fVar 4)) (gNm 5))
    (fSeq (fIfS (tdAnd (fTst (fBin ltD (fVar 5) (fCall lenD (fCons (fVar 3) fNil)))) (fTst (fBin eqD (fBin ixD (fBin ixD (fVar 3) (fVar 5)) (ret (.int 0))) (fVar 5)))) (fRet (fVar 5)) fNext)
    (fRet (fCall tixC (fCons (fVar 3) (fCons (fIf (fTst (fBin isNoneD (fVar 4) (ret .none))) (fTup (fCons (fVar 5) fNil)) (fTup (fCons (fVar 5) (fCons (fBin ixD (fVar 1) (fVar 5)) fNil)))) (fCons (fBin fdivD (fBin addD (fVar 5) (ret (.int 1))) (ret (.int 2))) fNil)))))))))
def g_way_number : List PyData → Option PyData := runP 6 f_way_number
theorem mk_way_number {Pr : Program} {w : World} {K : PySem.W.Frag} {mg : Str → Option Value} {base : Heap} (T : Tops K mg) {f : Addr} {fd : FuncData} (F : Fun K "way_number" "way_number" s_way_number f fd) (gl : mg "way_number" = some (.ref f)) :
    Cal Pr w K mg base 1 "way_number" ["web", "beyond", "hand"] (spP K 3 g_way_number) f fd := by
  refine ⟨fn_P F sc_way_number fun cdv A outer s H hh => ?_, gl, F.kp, F.binds (ps := ["web", "beyond", "hand"]) fun _ _ _ _ _ _ us hl => match us, hl with | [_, _, _], _ => rfl⟩
  have nd := sc_way_number.nd
  exact (s_cons (s_asg (bb := true) (e_ix ix_seqB d_ix (fun _ _ => rfl) (e_var 0 (pv 0)) e_int) (g_nm (P := []) (by decide) (pg_name (i := 3) nd rfl (by first | exact Or.inl rfl | exact Or.inr rfl))))
    (s_cons (s_asg (bb := true) (e_ix ix_seqB d_ix (fun _ _ => rfl) (e_var 1 (pv 1)) (e_var 2 (pv 2))) (g_nm (P := []) (by decide) (pg_name (i := 4) nd rfl (by first | exact Or.inl rfl | exact Or.inr rfl))))
    (s_cons (s_asg (bb := true) (e_if (PW.pt (w_or (t_cmp op_isN d_isN (nomark _) (e_var 4 (pv 4)) e_non) (w_or1 (t_cmp (op_ltD hh.u0) d_lt (nomark _) (e_var 2 (pv 2)) (e_var 4 (pv 4)))))) (e_var 2 (pv 2)) (e_var 4 (pv 4))) (g_nm (P := []) (by decide) (pg_name (i := 5) nd rfl (by first | exact Or.inl rfl | exact Or.inr rfl))))
    (s_cons (s_if (bb := true) (PW.pt (w_and (t_cmp (op_ltD hh.u0) d_lt (nomark _) (e_var 5 (pv 5)) (e_callB call_lenD2 d_len (by rfl) T.b_len (by decide +kernel) (a_cons (e_var 3 (pv 3)) a_nil))) (w_and1 (t_cmp (op_eq2 hh.u) d_eq (nomark _) (e_ix ix_seqB d_ix (fun _ _ => rfl) (e_ix ix_seqB d_ix (fun _ _ => rfl) (e_var 3 (pv 3)) (e_var 5 (pv 5))) e_int) (e_var 5 (pv 5)))))) (s_one (s_ret (bb := true) (e_var 5 (pv 5)))) s_nil)
    (s_one (s_ret (bb := true) (e_tix hh.u (e_var 3 (pv 3)) (a_cons (e_if (t_cmp op_isN d_isN (nomark _) (e_var 4 (pv 4)) e_non) (e_tup (a_cons (e_var 5 (pv 5)) a_nil)) (e_tup (a_cons (e_var 5 (pv 5)) (a_cons (e_ix ix_seqB d_ix (fun _ _ => rfl) (e_var 1 (pv 1)) (e_var 5 (pv 5))) a_nil)))) (a_cons (e_op op_fdivW d_fdiv (e_op op_addD d_add (e_var 5 (pv 5)) e_int) e_int) a_nil)))))))))
abbrev s_way_of : Stmt := topS 18
theorem sc_way_of : FnScope ["web", "hand", "beyond"] ["web", "hand"] (defScope s_way_of) := ⟨rfl, rfl, rfl, by decide +kernel, rfl, by decide +kernel, by decide +kernel⟩
def f_way_of : FS := (fSeq (fAsg (fCall (lenIs 1 g_need_web) (fCons (fVar 0) fNil)) (gNm 2))
    (fSeq (fDrop (fCall (lenIs 2 g_need_hand) (fCons (fVar 2) (fCons (fVar 1) fNil))))
    (fRet (fCall (lenIs 3 g_way_number) (fCons (fVar 0) (fCons (fVar 2) (fCons (fVar 1) fNil)))))))
def g_way_of : List PyData → Option PyData := runP 3 f_way_of
theorem mk_way_of {Pr : Program} {w : World} {K : PySem.W.Frag} {mg : Str → Option Value} {base : Heap} (T : Tops K mg) {a_need_web : Addr} {d_need_web : FuncData} (c_need_web : Cal Pr w K mg base 3 "need_web" ["web"] (spP K 1 g_need_web) a_need_web d_need_web) {a_need_hand : Addr} {d_need_hand : FuncData} (c_need_hand : Cal Pr w K mg base 2 "need_hand" ["beyond", "hand"] (spP K 2 g_need_hand) a_need_hand d_need_hand) {a_way_number : Addr} {d_way_number : FuncData} (c_way_number : Cal Pr w K mg base 1 "way_number" ["web", "beyond", "hand"] (spP K 3 g_way_number) a_way_number d_way_number) {f : Addr} {fd : FuncData} (F : Fun K "way_of" "way_of" s_way_of f fd) (gl : mg "way_of" = some (.ref f)) :
    Cal Pr w K mg base 4 "way_of" ["web", "hand"] (spP K 2 g_way_of) f fd := by
  refine ⟨fn_P F sc_way_of fun cdv A outer s H hh => ?_, gl, F.kp, F.binds (ps := ["web", "hand"]) fun _ _ _ _ _ _ us hl => match us, hl with | [_, _], _ => rfl⟩
  have nd := sc_way_of.nd
  exact (s_cons (s_asg (bb := true) (e_callP c_need_web.ok (hh.mono (by decide)) (by rfl) c_need_web.gl c_need_web.kp c_need_web.bd (a_cons (e_var 0 (pv 0)) a_nil)) (g_nm (P := []) (by decide) (pg_name (i := 2) nd rfl (by first | exact Or.inl rfl | exact Or.inr rfl))))
    (s_cons (s_drop (bb := true) (e_callP c_need_hand.ok (hh.mono (by decide)) (by rfl) c_need_hand.gl c_need_hand.kp c_need_hand.bd (a_cons (e_var 2 (pv 2)) (a_cons (e_var 1 (pv 1)) a_nil))))
    (s_one (s_ret (bb := true) (e_callP c_way_number.ok (hh.mono (by decide)) (by rfl) c_way_number.gl c_way_number.kp c_way_number.bd (a_cons (e_var 0 (pv 0)) (a_cons (e_var 2 (pv 2)) (a_cons (e_var 1 (pv 1)) a_nil))))))))
abbrev s__law_hand_right : Stmt := topS 27
theorem sc__law_hand_right : FnScope ["_law_web", "_law_hand", "_law_number_here", "_law_way", "_law_due"] ["_law_web", "_law_hand"] (defScope s__law_hand_right) := ⟨rfl, rfl, rfl, by decide +kernel, rfl, by decide +kernel, by decide +kernel⟩
def f__law_hand_right : FS := (fSeq (fAsg (fCall (lenIs 2 g__law_number) (fCons (fVar 0) (fCons (fVar 1) fNil))) (gNm 2))
    (fSeq (fAsg (fBin ixD (fBin ixD (fVar 0) (ret (.int 1))) (fVar 2)) (gNm 3))
    (fSeq (fAsg (ret .none) (gNm 4))
    (fSeq (fIfS (fTst (fBin eqD (fCall lenD (fCons (fVar 3) fNil)) (ret (.int 2)))) (fAsg (fBin ixD (fVar 3) (fCall intD (fCons (fBin eqD (fBin ixD (fVar 3) (ret (.int 0))) (fVar 1)) fNil))) (gNm 4)) fNext)
    (fRet (vAnd (fBin eqD (fCall reprD (fCons (fCall (lenIs 2 g_across) (fCons (fVar 0) (fCons (fVar 1) fNil))) fNil)) (fCall reprD (fCons (fVar 4) fNil))) (fBin eqD (fCall reprD (fCons (fCall (lenIs 2 g_way_of) (fCons (fVar 0) (fCons (fVar 1) fNil))) fNil)) (fCall reprD (fCons (fVar 2) fNil)))))))))
def g__law_hand_right : List PyData → Option PyData := runP 5 f__law_hand_right
theorem mk__law_hand_right {Pr : Program} {w : World} {K : PySem.W.Frag} {mg : Str → Option Value} {base : Heap} (T : Tops K mg) {a__law_number : Addr} {d__law_number : FuncData} (c__law_number : Cal Pr w K mg base 1 "_law_number" ["_law_web", "_law_hand"] (spP K 2 g__law_number) a__law_number d__law_number) {a_across : Addr} {d_across : FuncData} (c_across : Cal Pr w K mg base 4 "across" ["web", "hand"] (spP K 2 g_across) a_across d_across) {a_way_of : Addr} {d_way_of : FuncData} (c_way_of : Cal Pr w K mg base 4 "way_of" ["web", "hand"] (spP K 2 g_way_of) a_way_of d_way_of) {f : Addr} {fd : FuncData} (F : Fun K "_law_hand_right" "_law_hand_right" s__law_hand_right f fd) (gl : mg "_law_hand_right" = some (.ref f)) :
    Cal Pr w K mg base 5 "_law_hand_right" ["_law_web", "_law_hand"] (spP K 2 g__law_hand_right) f fd := by
  refine ⟨fn_P F sc__law_hand_right fun cdv A outer s H hh => ?_, gl, F.kp, F.binds (ps := ["_law_web", "_law_hand"]) fun _ _ _ _ _ _ us hl => match us, hl with | [_, _], _ => rfl⟩
  have nd := sc__law_hand_right.nd
  exact (s_cons (s_asg (bb := true) (e_callP c__law_number.ok (hh.mono (by decide)) (by rfl) c__law_number.gl c__law_number.kp c__law_number.bd (a_cons (e_var 0 (pv 0)) (a_cons (e_var 1 (pv 1)) a_nil))) (g_nm (P := []) (by decide) (pg_name (i := 2) nd rfl (by first | exact Or.inl rfl | exact Or.inr rfl))))
    (s_cons (s_asg (bb := true) (e_ix ix_seqB d_ix (fun _ _ => rfl) (e_ix ix_seqB d_ix (fun _ _ => rfl) (e_var 0 (pv 0)) e_int) (e_var 2 (pv 2))) (g_nm (P := []) (by decide) (pg_name (i := 3) nd rfl (by first | exact Or.inl rfl | exact Or.inr rfl))))
    (s_cons (s_asg (bb := true) e_non (g_nm (P := []) (by decide) (pg_name (i := 4) nd rfl (by first | exact Or.inl rfl | exact Or.inr rfl))))
    (s_cons (s_if (bb := true) (t_cmp (op_eq2 hh.u) d_eq (nomark _) (e_callB call_lenD2 d_len (by rfl) T.b_len (by decide +kernel) (a_cons (e_var 3 (pv 3)) a_nil)) e_int) (s_one (s_asg (bb := true) (e_ix ix_seqB d_ix (fun _ _ => rfl) (e_var 3 (pv 3)) (e_callTy call_int1 d_int (by rfl) T.b_int (by decide +kernel) (a_cons (e_cmp (op_eq2 hh.u) d_eq (nomark _) (e_ix ix_seqB d_ix (fun _ _ => rfl) (e_var 3 (pv 3)) e_int) (e_var 1 (pv 1))) a_nil))) (g_nm (P := []) (by decide) (pg_name (i := 4) nd rfl (by first | exact Or.inl rfl | exact Or.inr rfl))))) s_nil)
    (s_one (s_ret (bb := true) (e_and (e_cmp (op_eq2 hh.u) d_eq (nomark _) (e_callB (call_reprD hh.g hh.u) d_repr (by rfl) T.b_repr (by decide +kernel) (a_cons (e_callP c_across.ok (hh.mono (by decide)) (by rfl) c_across.gl c_across.kp c_across.bd (a_cons (e_var 0 (pv 0)) (a_cons (e_var 1 (pv 1)) a_nil))) a_nil)) (e_callB (call_reprD hh.g hh.u) d_repr (by rfl) T.b_repr (by decide +kernel) (a_cons (e_var 4 (pv 4)) a_nil))) (e_one (e_cmp (op_eq2 hh.u) d_eq (nomark _) (e_callB (call_reprD hh.g hh.u) d_repr (by rfl) T.b_repr (by decide +kernel) (a_cons (e_callP c_way_of.ok (hh.mono (by decide)) (by rfl) c_way_of.gl c_way_of.kp c_way_of.bd (a_cons (e_var 0 (pv 0)) (a_cons (e_var 1 (pv 1)) a_nil))) a_nil)) (e_callB (call_reprD hh.g hh.u) d_repr (by rfl) T.b_repr (by decide +kernel) (a_cons (e_var 2 (pv 2)) a_nil)))))))))))
abbrev s_end_hands : Stmt := topS 16
theorem sc_end_hands : FnScope ["web", "way"] ["web"] (defScope s_end_hands) := ⟨rfl, rfl, rfl, by decide +kernel, rfl, by decide +kernel, by decide +kernel⟩
def f_end_hands : FS := (fRet (fCall tupleD (fCons (fOf (fLc (fItems (fBin ixD (fVar 0) (ret (.int 1)))) (gNm 1) (fTst (fBin eqD (fCall lenD (fCons (fVar 1) fNil)) (ret (.int 1)))) (fBin ixD (fVar 1) (ret (.int 0))) [1])) fNil)))
def g_end_hands : List PyData → Option PyData := runP 2 f_end_hands
theorem mk_end_hands {Pr : Program} {w : World} {K : PySem.W.Frag} {mg : Str → Option Value} {base : Heap} (T : Tops K mg) {f : Addr} {fd : FuncData} (F : Fun K "end_hands" "end_hands" s_end_hands f fd) (gl : mg "end_hands" = some (.ref f)) :
    Cal Pr w K mg base 1 "end_hands" ["web"] (spP K 1 g_end_hands) f fd := by
  refine ⟨fn_P F sc_end_hands fun cdv A outer s H hh => ?_, gl, F.kp, F.binds (ps := ["web"]) fun _ _ _ _ _ _ us hl => match us, hl with | [_], _ => rfl⟩
  have nd := sc_end_hands.nd
  exact (s_one (s_ret (bb := true) (e_callTy call_tupleP d_tuple (by rfl) T.b_tuple (by decide +kernel) (a_cons (e_ofF (l_lc (own := [("way", 1)]) 2 hh.c nd (i_seq (e_ix ix_seqB d_ix (fun _ _ => rfl) (e_var 0 (pv 0)) e_int)) (blkOk_by (by first | rfl | kernel_rfl)) (fun _ _ _ _ _ => (g_nm (P := compl 2 [1]) (by decide) (pg_name (i := 1) nd rfl (by first | exact Or.inl rfl | exact Or.inr rfl)))) (fun _ _ _ _ _ => (ts_one (t_cmp (op_eq2 hh.blk.u) d_eq (nomark _) (e_callB call_lenD2 d_len (by rfl) T.b_len (by decide +kernel) (a_cons (e_var 1 (pv 1)) a_nil)) e_int))) (fun _ _ _ _ _ => (e_ix ix_seqB d_ix (fun _ _ => rfl) (e_var 1 (pv 1)) e_int)))) a_nil))))
abbrev s_ends_of : Stmt := topS 19
theorem sc_ends_of : FnScope ["web"] ["web"] (defScope s_ends_of) := ⟨rfl, rfl, rfl, by decide +kernel, rfl, by decide +kernel, by decide +kernel⟩
def f_ends_of : FS := (fSeq (fDrop (fCall (lenIs 1 g_need_web) (fCons (fVar 0) fNil)))
    (fRet (fCall (lenIs 1 g_end_hands) (fCons (fVar 0) fNil))))
def g_ends_of : List PyData → Option PyData := runP 1 f_ends_of
theorem mk_ends_of {Pr : Program} {w : World} {K : PySem.W.Frag} {mg : Str → Option Value} {base : Heap} (T : Tops K mg) {a_need_web : Addr} {d_need_web : FuncData} (c_need_web : Cal Pr w K mg base 3 "need_web" ["web"] (spP K 1 g_need_web) a_need_web d_need_web) {a_end_hands : Addr} {d_end_hands : FuncData} (c_end_hands : Cal Pr w K mg base 1 "end_hands" ["web"] (spP K 1 g_end_hands) a_end_hands d_end_hands) {f : Addr} {fd : FuncData} (F : Fun K "ends_of" "ends_of" s_ends_of f fd) (gl : mg "ends_of" = some (.ref f)) :
    Cal Pr w K mg base 4 "ends_of" ["web"] (spP K 1 g_ends_of) f fd := by
  refine ⟨fn_P F sc_ends_of fun cdv A outer s H hh => ?_, gl, F.kp, F.binds (ps := ["web"]) fun _ _ _ _ _ _ us hl => match us, hl with | [_], _ => rfl⟩
  have nd := sc_ends_of.nd
  exact (s_cons (s_drop (bb := true) (e_callP c_need_web.ok (hh.mono (by decide)) (by rfl) c_need_web.gl c_need_web.kp c_need_web.bd (a_cons (e_var 0 (pv 0)) a_nil)))
    (s_one (s_ret (bb := true) (e_callP c_end_hands.ok (hh.mono (by decide)) (by rfl) c_end_hands.gl c_end_hands.kp c_end_hands.bd (a_cons (e_var 0 (pv 0)) a_nil)))))
abbrev s_need_number : Stmt := topS 13
theorem sc_need_number : FnScope ["number", "many"] ["number", "many"] (defScope s_need_number) := ⟨rfl, rfl, rfl, by decide +kernel, rfl, by decide +kernel, by decide +kernel⟩
def f_need_number : FS := (fIfS (tdNot (fTst (fCall (lenIs 2 g_is_below) (fCons (fVar 0) (fCons (fVar 1) fNil))))) fNever fNext)
def g_need_number : List PyData → Option PyData := runP 2 f_need_number
theorem mk_need_number {Pr : Program} {w : World} {K : PySem.W.Frag} {mg : Str → Option Value} {base : Heap} (T : Tops K mg) {a_is_below : Addr} {d_is_below : FuncData} (c_is_below : Cal Pr w K mg base 1 "is_below" ["thing", "many"] (spP K 2 g_is_below) a_is_below d_is_below) {f : Addr} {fd : FuncData} (F : Fun K "need_number" "need_number" s_need_number f fd) (gl : mg "need_number" = some (.ref f)) :
    Cal Pr w K mg base 2 "need_number" ["number", "many"] (spP K 2 g_need_number) f fd := by
  refine ⟨fn_P F sc_need_number fun cdv A outer s H hh => ?_, gl, F.kp, F.binds (ps := ["number", "many"]) fun _ _ _ _ _ _ us hl => match us, hl with | [_, _], _ => rfl⟩
  have nd := sc_need_number.nd
  exact (s_one (s_if (bb := true) (t_not (t_val (e_callP c_is_below.ok (hh.mono (by decide)) (by rfl) c_is_below.gl c_is_below.kp c_is_below.bd (a_cons (e_var 0 (pv 0)) (a_cons (e_var 1 (pv 1)) a_nil))))) (s_one s_never) s_nil))
abbrev s_ways_at : Stmt := topS 20
theorem sc_ways_at : FnScope ["web", "post", "beyond", "at"] ["web", "post"] (defScope s_ways_at) := ⟨rfl, rfl, rfl, by decide +kernel, rfl, by decide +kernel, by decide +kernel⟩
def f_ways_at : FS := (fSeq (fAsg (fCall (lenIs 1 g_need_web) (fCons (fVar 0) fNil)) (gNm 2))
    (fSeq (fDrop (fCall (lenIs 2 g_need_number) (fCons (fVar 1) (fCons (fBin ixD (fVar 0) (ret (.int 0))) fNil))))
    (fRet (fCall tupleD (fCons (fOf (fLc (fRng rng1 (fCons (ret (.int 4)) fNil)) (gNm 3) (ret true) (fCall (lenIs 3 g_way_number) (fCons (fVar 0) (fCons (fVar 2) (fCons (fBin addD (fBin mulI (ret (.int 4)) (fVar 1)) (fVar 3)) fNil)))) [3])) fNil)))))
def g_ways_at : List PyData → Option PyData := runP 4 f_ways_at
theorem mk_ways_at {Pr : Program} {w : World} {K : PySem.W.Frag} {mg : Str → Option Value} {base : Heap} (T : Tops K mg) {a_need_web : Addr} {d_need_web : FuncData} (c_need_web : Cal Pr w K mg base 3 "need_web" ["web"] (spP K 1 g_need_web) a_need_web d_need_web) {a_need_number : Addr} {d_need_number : FuncData} (c_need_number : Cal Pr w K mg base 2 "need_number" ["number", "many"] (spP K 2 g_need_number) a_need_number d_need_number) {a_way_number : Addr} {d_way_number : FuncData} (c_way_number : Cal Pr w K mg base 1 "way_number" ["web", "beyond", "hand"] (spP K 3 g_way_number) a_way_number d_way_number) {f : Addr} {fd : FuncData} (F : Fun K "ways_at" "ways_at" s_ways_at f fd) (gl : mg "ways_at" = some (.ref f)) :
    Cal Pr w K mg base 4 "ways_at" ["web", "post"] (spP K 2 g_ways_at) f fd := by
  refine ⟨fn_P F sc_ways_at fun cdv A outer s H hh => ?_, gl, F.kp, F.binds (ps := ["web", "post"]) fun _ _ _ _ _ _ us hl => match us, hl with | [_, _], _ => rfl⟩
  have nd := sc_ways_at.nd
  exact (s_cons (s_asg (bb := true) (e_callP c_need_web.ok (hh.mono (by decide)) (by rfl) c_need_web.gl c_need_web.kp c_need_web.bd (a_cons (e_var 0 (pv 0)) a_nil)) (g_nm (P := []) (by decide) (pg_name (i := 2) nd rfl (by first | exact Or.inl rfl | exact Or.inr rfl))))
    (s_cons (s_drop (bb := true) (e_callP c_need_number.ok (hh.mono (by decide)) (by rfl) c_need_number.gl c_need_number.kp c_need_number.bd (a_cons (e_var 1 (pv 1)) (a_cons (e_ix ix_seqB d_ix (fun _ _ => rfl) (e_var 0 (pv 0)) e_int) a_nil))))
    (s_one (s_ret (bb := true) (e_callTy call_tupleP d_tuple (by rfl) T.b_tuple (by decide +kernel) (a_cons (e_ofF (l_lc (own := [("at", 3)]) 4 hh.c nd (i_rng1 (by rfl) T.b_range (a_cons (e_globE (by rfl) T.c_HANDS) a_nil)) (blkOk_by (by first | rfl | kernel_rfl)) (fun _ _ _ _ _ => (g_nm (P := compl 4 [3]) (by decide) (pg_name (i := 3) nd rfl (by first | exact Or.inl rfl | exact Or.inr rfl)))) (fun _ _ _ _ _ => ts_nil) (fun _ _ _ _ _ => (e_callP c_way_number.ok (hh.blk.mono (by decide)) (by rfl) c_way_number.gl c_way_number.kp c_way_number.bd (a_cons (e_var 0 (pv 0)) (a_cons (e_var 2 (pv 2)) (a_cons (e_op op_addD d_add (e_op op_mulW d_mulI (e_globE (by rfl) T.c_HANDS) (e_var 1 (pv 1))) (e_var 3 (pv 3))) a_nil))))))) a_nil))))))
abbrev s__law_right : Stmt := topS 28
theorem sc__law_right : FnScope ["_law_web", "_law_held", "_law_ends", "_law_turn", "_law_hand", "_law_post", "_law_due", "_law_way", "_law_at"] ["_law_web"] (defScope s__law_right) := ⟨rfl, rfl, rfl, by decide +kernel, rfl, by decide +kernel, by decide +kernel⟩
def b1__law_right : FS := (fSeq (fAsg (fCall tupleD (fCons (fOf (fLc (fRng rng1 (fCons (ret (.int 4)) fNil)) (gNm 8) (ret true) (fCall (lenIs 2 g__law_number) (fCons (fVar 0) (fCons (fBin addD (fBin mulI (ret (.int 4)) (fVar 5)) (fVar 8)) fNil))) [8])) fNil)) (gNm 6))
    (fIfS (fTst (fBin neD (fCall reprD (fCons (fCall (lenIs 2 g_ways_at) (fCons (fVar 0) (fCons (fVar 5) fNil))) fNil)) (fCall reprD (fCons (fVar 6) fNil)))) (fRet (ret (.bool false))) fNext))
def b2__law_right : FS := (fSeq (fIfS (fTst (fBin neD (fCall reprD (fCons (fCall (lenIs 1 g_ends_of) (fCons (fVar 0) fNil)) fNil)) (fCall reprD (fCons (fVar 2) fNil)))) (fRet (ret (.bool false))) fNext)
    (fFor (fRng rng1 (fCons (fBin ixD (fVar 0) (ret (.int 0))) fNil)) (gNm 5) b1__law_right))
def b3__law_right : FS := (fIfS (tdNot (fTst (fCall (lenIs 2 g__law_hand_right) (fCons (fVar 0) (fCons (fVar 4) fNil))))) (fRet (ret (.bool false))) fNext)
def f__law_right : FS := (fSeq (fAsg (fCall reprD (fCons (fVar 0) fNil)) (gNm 1))
    (fSeq (fAsg (fCall tupleD (fCons (fCall sortedD (fCons (fOf (fLc (fItems (fBin ixD (fVar 0) (ret (.int 1)))) (gNm 7) (fTst (fBin eqD (fCall lenD (fCons (fVar 7) fNil)) (ret (.int 1)))) (fBin ixD (fVar 7) (ret (.int 0))) [7])) fNil)) fNil)) (gNm 2))
    (fSeq (fFor (fRng rng1 (fCons (ret (.int 2)) fNil)) (gNm 3) b2__law_right)
    (fSeq (fFor (fRng rng1 (fCons (fBin mulI (ret (.int 4)) (fBin ixD (fVar 0) (ret (.int 0)))) fNil)) (gNm 4) b3__law_right)
    (fRet (fBin eqD (fCall reprD (fCons (fVar 0) fNil)) (fVar 1)))))))
def g__law_right : List PyData → Option PyData := runP 9 f__law_right
theorem mk__law_right {Pr : Program} {w : World} {K : PySem.W.Frag} {mg : Str → Option Value} {base : Heap} (T : Tops K mg) {a__law_hand_right : Addr} {d__law_hand_right : FuncData} (c__law_hand_right : Cal Pr w K mg base 5 "_law_hand_right" ["_law_web", "_law_hand"] (spP K 2 g__law_hand_right) a__law_hand_right d__law_hand_right) {a_ends_of : Addr} {d_ends_of : FuncData} (c_ends_of : Cal Pr w K mg base 4 "ends_of" ["web"] (spP K 1 g_ends_of) a_ends_of d_ends_of) {a__law_number : Addr} {d__law_number : FuncData} (c__law_number : Cal Pr w K mg base 1 "_law_number" ["_law_web", "_law_hand"] (spP K 2 g__law_number) a__law_number d__law_number) {a_ways_at : Addr} {d_ways_at : FuncData} (c_ways_at : Cal Pr w K mg base 4 "ways_at" ["web", "post"] (spP K 2 g_ways_at) a_ways_at d_ways_at) {f : Addr} {fd : FuncData} (F : Fun K "_law_right" "_law_right" s__law_right f fd) (gl : mg "_law_right" = some (.ref f)) :
    Cal Pr w K mg base 6 "_law_right" ["_law_web"] (spP K 1 g__law_right) f fd := by
  refine ⟨fn_P F sc__law_right fun cdv A outer s H hh => ?_, gl, F.kp, F.binds (ps := ["_law_web"]) fun _ _ _ _ _ _ us hl => match us, hl with | [_], _ => rfl⟩
  have nd := sc__law_right.nd
  exact (s_cons (s_asg (bb := true) (e_callB (call_reprD hh.g hh.u) d_repr (by rfl) T.b_repr (by decide +kernel) (a_cons (e_var 0 (pv 0)) a_nil)) (g_nm (P := []) (by decide) (pg_name (i := 1) nd rfl (by first | exact Or.inl rfl | exact Or.inr rfl))))
    (s_cons (s_asg (bb := true) (e_callTy call_tupleP d_tuple (by rfl) T.b_tuple (by decide +kernel) (a_cons (e_callB (call_sortD hh.u) d_sorted (by rfl) T.b_sorted (by decide +kernel) (a_cons (e_ofF (l_lc (own := [("_law_way", 7)]) 9 hh.c nd (i_seq (e_ix ix_seqB d_ix (fun _ _ => rfl) (e_var 0 (pv 0)) e_int)) (blkOk_by (by first | rfl | kernel_rfl)) (fun _ _ _ _ _ => (g_nm (P := compl 9 [7]) (by decide) (pg_name (i := 7) nd rfl (by first | exact Or.inl rfl | exact Or.inr rfl)))) (fun _ _ _ _ _ => (ts_one (t_cmp (op_eq2 hh.blk.u) d_eq (nomark _) (e_callB call_lenD2 d_len (by rfl) T.b_len (by decide +kernel) (a_cons (e_var 7 (pv 7)) a_nil)) e_int))) (fun _ _ _ _ _ => (e_ix ix_seqB d_ix (fun _ _ => rfl) (e_var 7 (pv 7)) e_int)))) a_nil)) a_nil)) (g_nm (P := []) (by decide) (pg_name (i := 2) nd rfl (by first | exact Or.inl rfl | exact Or.inr rfl))))
    (s_cons (s_for (bb := true) PassesOwn.never hh.c (i_rng1 (by rfl) T.b_range (a_cons e_int a_nil)) (g_nm (P := []) (by decide) (pg_name (i := 3) nd rfl (by first | exact Or.inl rfl | exact Or.inr rfl))) (s_cons (s_if (bb := true) (t_cmp (op_ne2 hh.u) d_ne (nomark _) (e_callB (call_reprD hh.g hh.u) d_repr (by rfl) T.b_repr (by decide +kernel) (a_cons (e_callP c_ends_of.ok (hh.mono (by decide)) (by rfl) c_ends_of.gl c_ends_of.kp c_ends_of.bd (a_cons (e_var 0 (pv 0)) a_nil)) a_nil)) (e_callB (call_reprD hh.g hh.u) d_repr (by rfl) T.b_repr (by decide +kernel) (a_cons (e_var 2 (pv 2)) a_nil))) (s_one (s_ret (bb := true) e_bl)) s_nil)
    (s_one (s_for (bb := true) PassesOwn.never hh.c (i_rng1 (by rfl) T.b_range (a_cons (e_ix ix_seqB d_ix (fun _ _ => rfl) (e_var 0 (pv 0)) e_int) a_nil)) (g_nm (P := []) (by decide) (pg_name (i := 5) nd rfl (by first | exact Or.inl rfl | exact Or.inr rfl))) (s_cons (s_asg (bb := true) (e_callTy call_tupleP d_tuple (by rfl) T.b_tuple (by decide +kernel) (a_cons (e_ofF (l_lc (own := [("_law_at", 8)]) 9 hh.c nd (i_rng1 (by rfl) T.b_range (a_cons e_int a_nil)) (blkOk_by (by first | rfl | kernel_rfl)) (fun _ _ _ _ _ => (g_nm (P := compl 9 [8]) (by decide) (pg_name (i := 8) nd rfl (by first | exact Or.inl rfl | exact Or.inr rfl)))) (fun _ _ _ _ _ => ts_nil) (fun _ _ _ _ _ => (e_callP c__law_number.ok (hh.blk.mono (by decide)) (by rfl) c__law_number.gl c__law_number.kp c__law_number.bd (a_cons (e_var 0 (pv 0)) (a_cons (e_op op_addD d_add (e_op op_mulW d_mulI e_int (e_var 5 (pv 5))) (e_var 8 (pv 8))) a_nil)))))) a_nil)) (g_nm (P := []) (by decide) (pg_name (i := 6) nd rfl (by first | exact Or.inl rfl | exact Or.inr rfl))))
    (s_one (s_if (bb := true) (t_cmp (op_ne2 hh.u) d_ne (nomark _) (e_callB (call_reprD hh.g hh.u) d_repr (by rfl) T.b_repr (by decide +kernel) (a_cons (e_callP c_ways_at.ok (hh.mono (by decide)) (by rfl) c_ways_at.gl c_ways_at.kp c_ways_at.bd (a_cons (e_var 0 (pv 0)) (a_cons (e_var 5 (pv 5)) a_nil))) a_nil)) (e_callB (call_reprD hh.g hh.u) d_repr (by rfl) T.b_repr (by decide +kernel) (a_cons (e_var 6 (pv 6)) a_nil))) (s_one (s_ret (bb := true) e_bl)) s_nil)))))))
    (s_cons (s_for (bb := true) PassesOwn.never hh.c (i_rng1 (by rfl) T.b_range (a_cons (e_op op_mulW d_mulI e_int (e_ix ix_seqB d_ix (fun _ _ => rfl) (e_var 0 (pv 0)) e_int)) a_nil)) (g_nm (P := []) (by decide) (pg_name (i := 4) nd rfl (by first | exact Or.inl rfl | exact Or.inr rfl))) (s_one (s_if (bb := true) (t_not (t_val (e_callP c__law_hand_right.ok (hh.mono (by decide)) (by rfl) c__law_hand_right.gl c__law_hand_right.kp c__law_hand_right.bd (a_cons (e_var 0 (pv 0)) (a_cons (e_var 4 (pv 4)) a_nil))))) (s_one (s_ret (bb := true) e_bl)) s_nil)))
    (s_one (s_ret (bb := true) (e_cmp (op_eq2 hh.u) d_eq (nomark _) (e_callB (call_reprD hh.g hh.u) d_repr (by rfl) T.b_repr (by decide +kernel) (a_cons (e_var 0 (pv 0)) a_nil)) (e_var 1 (pv 1)))))))))
abbrev s__law_great : Stmt := topS 25
theorem sc__law_great : FnScope ["_law_many", "_law_ways", "_law_hand"] ["_law_many"] (defScope s__law_great) := ⟨rfl, rfl, rfl, by decide +kernel, rfl, by decide +kernel, by decide +kernel⟩
def f__law_great : FS := (fSeq (fAsg (fOf (fLc (fRng rng2 (fCons (ret (.int 2)) (fCons (fBin mulI (ret (.int 2)) (fVar 0)) fNil))) (gNm 2) (ret true) (fTup (fCons (fVar 2) (fCons (fBin addD (fVar 2) (fBin mulI (ret (.int 2)) (fVar 0))) fNil))) [2])) (gNm 1))
    (fRet (fTup (fCons (fVar 0) (fCons (fCall tupleD (fCons (fCall sortedD (fCons (fBin addD (fVar 1) (fOf (thnE (fCons (fTup (fCons (ret (.int 0)) fNil)) (fCons (fTup (fCons (ret (.int 1)) fNil)) (fCons (fTup (fCons (fBin mulI (ret (.int 2)) (fVar 0)) fNil)) (fCons (fTup (fCons (fBin addD (fBin mulI (ret (.int 2)) (fVar 0)) (ret (.int 1))) fNil)) fNil)))) fun xs => liftO (if sizeOk xs.length = true then some xs else none)))) fNil)) fNil)) fNil)))))
def g__law_great : List PyData → Option PyData := runP 3 f__law_great
theorem mk__law_great {Pr : Program} {w : World} {K : PySem.W.Frag} {mg : Str → Option Value} {base : Heap} (T : Tops K mg) {f : Addr} {fd : FuncData} (F : Fun K "_law_great" "_law_great" s__law_great f fd) (gl : mg "_law_great" = some (.ref f)) :
    Cal Pr w K mg base 1 "_law_great" ["_law_many"] (spP K 1 g__law_great) f fd := by
  refine ⟨fn_P F sc__law_great fun cdv A outer s H hh => ?_, gl, F.kp, F.binds (ps := ["_law_many"]) fun _ _ _ _ _ _ us hl => match us, hl with | [_], _ => rfl⟩
  have nd := sc__law_great.nd
  exact (s_cons (s_setLc (bb := true) (i := 1) (P := []) (own := [("_law_hand", 2)]) 3 (by decide) hh.c nd rfl rfl (sw_true rfl rfl rfl (by decide +kernel)) (i_rng2 (by rfl) T.b_range (a_cons e_int (a_cons (e_op op_mulW d_mulI e_int (e_var 0 (pv 0))) a_nil))) (blkOk_by (by first | rfl | kernel_rfl)) (fun _ _ _ _ _ => (g_nm (P := compl 3 [2]) (by decide) (pg_name (i := 2) nd rfl (by first | exact Or.inl rfl | exact Or.inr rfl)))) (fun _ _ _ _ _ => ts_nil) (fun _ _ _ _ _ => (e_tup (a_cons (e_var 2 (pv 2)) (a_cons (e_op op_addD d_add (e_var 2 (pv 2)) (e_op op_mulW d_mulI e_int (e_var 0 (pv 0)))) a_nil)))))
    (s_one (s_ret (bb := true) (e_tup (a_cons (e_var 0 (pv 0)) (a_cons (e_callTy call_tupleP d_tuple (by rfl) T.b_tuple (by decide +kernel) (a_cons (e_callB (call_sortD hh.u) d_sorted (by rfl) T.b_sorted (by decide +kernel) (a_cons (e_op op_addD d_add (e_var 1 (pv 1)) (e_ofF (l_lst (a_cons (e_tup (a_cons e_int a_nil)) (a_cons (e_tup (a_cons e_int a_nil)) (a_cons (e_tup (a_cons (e_op op_mulW d_mulI e_int (e_var 0 (pv 0))) a_nil)) (a_cons (e_tup (a_cons (e_op op_addD d_add (e_op op_mulW d_mulI e_int (e_var 0 (pv 0))) e_int) a_nil)) a_nil))))))) a_nil)) a_nil)) a_nil))))))
abbrev s__law_take : Stmt := topS 23
theorem sc__law_take : FnScope ["_law_pot_here", "_law_many", "_law_one", "_law_other", "_law_found"] ["_law_pot_here", "_law_many"] (defScope s__law_take) := ⟨rfl, rfl, rfl, by decide +kernel, rfl, by decide +kernel, by decide +kernel⟩
def f__law_take : FS := (fSeq (fIfS (fTst (fBin gtI (fPeek 0 (fBin ixD (fVar 0) (ret (.int 0)))) (ret (.int 0)))) (fSeq (fAsg (fBin modD (fPeek 0 (fBin ixD (fVar 0) (ret (.int 0)))) (fVar 1)) (gNm 4))
    (fSeq (fSetI 0 (fBin fdivD (fPeek 0 (fBin ixD (fVar 0) (ret (.int 0)))) (fVar 1)) (ret (.int 0)))
    (fRet (fVar 4)))) fNext)
    (fSeq (fSetI 0 (fBin addD (fPeek 0 (fBin ixD (fVar 0) (ret (.int 2)))) (ret (.int 1))) (ret (.int 2)))
    (fSeq (fAsg (fBin modD (fBin powD (fBin addD (fPeek 0 (fBin ixD (fVar 0) (ret (.int 1)))) (fBin mulI (ret (.int 86028157)) (fPeek 0 (fBin ixD (fVar 0) (ret (.int 2)))))) (ret (.int 3))) (ret (.int 2305843009213693907))) (gNm 2))
    (fSeq (fAsg (fBin modD (fBin powD (fBin addD (fBin addD (fVar 2) (fBin modD (fPeek 0 (fBin ixD (fVar 0) (ret (.int 1)))) (ret (.int 1000003)))) (fBin mulI (ret (.int 31)) (fPeek 0 (fBin ixD (fVar 0) (ret (.int 2)))))) (ret (.int 5))) (ret (.int 2305843009213693921))) (gNm 3))
    (fRet (fBin modD (fBin fdivD (fVar 3) (ret (.int 4096))) (fVar 1)))))))
def g__law_take : List PyData → List PyData → Option (PyData × List PyData) := runM 5 f__law_take
theorem mk__law_take {Pr : Program} {w : World} {K : PySem.W.Frag} {mg : Str → Option Value} {base : Heap} (T : Tops K mg) {f : Addr} {fd : FuncData} (F : Fun K "_law_take" "_law_take" s__law_take f fd) (gl : mg "_law_take" = some (.ref f)) :
    Cal Pr w K mg base 1 "_law_take" ["_law_pot_here", "_law_many"] (spM K 1 g__law_take) f fd := by
  refine ⟨fn_M F sc__law_take (by decide) fun cdv A outer s H hh => ?_, gl, F.kp, F.binds (ps := ["_law_pot_here", "_law_many"]) fun _ _ _ _ _ _ us hl => match us, hl with | [_, _], _ => rfl⟩
  have nd := sc__law_take.nd
  exact (s_cons (s_if (bb := true) (t_cmp op_gtI d_gtI (nomark _) (e_peek 0 (e_ix ix_seqB d_ix (fun _ _ => rfl) (e_var 0 (pv 0)) e_int)) e_int) (s_cons (s_asg (bb := true) (e_op op_mod d_mod (e_peek 0 (e_ix ix_seqB d_ix (fun _ _ => rfl) (e_var 0 (pv 0)) e_int)) (e_var 1 (pv 1))) (g_nm (P := [0]) (by decide) (pg_name (i := 4) nd rfl (by first | exact Or.inl rfl | exact Or.inr rfl))))
    (s_cons (s_setI 0 (pg_sub (pv 0) e_int set_list2) (e_op op_fdivW d_fdiv (e_peek 0 (e_ix ix_seqB d_ix (fun _ _ => rfl) (e_var 0 (pv 0)) e_int)) (e_var 1 (pv 1))))
    (s_one (s_ret (bb := true) (e_var 4 (pv 4)))))) s_nil)
    (s_cons (s_setI 0 (pg_sub (pv 0) e_int set_list2) (e_op op_addD d_add (e_peek 0 (e_ix ix_seqB d_ix (fun _ _ => rfl) (e_var 0 (pv 0)) e_int)) e_int))
    (s_cons (s_asg (bb := true) (e_op op_mod d_mod (e_op op_powW d_pow (e_op op_addD d_add (e_peek 0 (e_ix ix_seqB d_ix (fun _ _ => rfl) (e_var 0 (pv 0)) e_int)) (e_op op_mulW d_mulI e_int (e_peek 0 (e_ix ix_seqB d_ix (fun _ _ => rfl) (e_var 0 (pv 0)) e_int)))) e_int) e_int) (g_nm (P := [0]) (by decide) (pg_name (i := 2) nd rfl (by first | exact Or.inl rfl | exact Or.inr rfl))))
    (s_cons (s_asg (bb := true) (e_op op_mod d_mod (e_op op_powW d_pow (e_op op_addD d_add (e_op op_addD d_add (e_var 2 (pv 2)) (e_op op_mod d_mod (e_peek 0 (e_ix ix_seqB d_ix (fun _ _ => rfl) (e_var 0 (pv 0)) e_int)) e_int)) (e_op op_mulW d_mulI e_int (e_peek 0 (e_ix ix_seqB d_ix (fun _ _ => rfl) (e_var 0 (pv 0)) e_int)))) e_int) e_int) (g_nm (P := [0]) (by decide) (pg_name (i := 3) nd rfl (by first | exact Or.inl rfl | exact Or.inr rfl))))
    (s_one (s_ret (bb := true) (e_op op_mod d_mod (e_op op_fdivW d_fdiv (e_var 3 (pv 3)) e_int) (e_var 1 (pv 1)))))))))
abbrev s__law_world : Stmt := topS 24
theorem sc__law_world : FnScope ["_law_pot_here", "_law_most", "_law_many", "_law_often", "_law_pairs", "_law_kinds", "_law_post", "_law_ways", "_law_kind", "_law_pair", "_law_left", "_law_hand", "_law_turn", "_law_at", "_law_way"] ["_law_pot_here", "_law_most"] (defScope s__law_world) := ⟨rfl, rfl, rfl, by decide +kernel, rfl, by decide +kernel, by decide +kernel⟩
def b1__law_world : FS := (fSeq (fAsg (fBin ixD (fVar 4) (fCallM 1 g__law_take 0 (fCons (ret (.int 6)) fNil))) (gNm 9))
    (fDrop (fMet 5 extG (fCons (fOf (fLc (fRng rng1 (fCons (ret (.int 4)) fNil)) (gNm 12) (ret true) (fBin (inD false) (fVar 12) (fVar 9)) [12])) fNil))))
def b2__law_world : FS := (fSeq (fAsg (fMet 10 popG (fCons (ret (.int 0)) fNil)) (gNm 11))
    (fIfS (tdOr (tPeek 10 (fTst (fBin eqD (fVar 10) (fOf (thnE fNil fun xs => liftO (if sizeOk xs.length = true then some xs else none)))))) (tdAnd (fTst (fBin gtI (fVar 3) (ret (.int 0)))) (fTst (fBin eqD (fCallM 1 g__law_take 0 (fCons (fVar 3) fNil)) (ret (.int 0)))))) (fDrop (fMet 7 appG (fCons (fTup (fCons (fVar 11) fNil)) fNil))) (fDrop (fMet 7 appG (fCons (fTup (fCons (fVar 11) (fCons (fMet 10 popG (fCons (fCallM 1 g__law_take 0 (fCons (fPeek 10 (fCall lenD (fCons (fVar 10) fNil))) fNil)) fNil)) fNil))) fNil)))))
def b3__law_world : FS := (fSeq (fOwn (fLc (fRng rng1 (fCons (fBin mulI (ret (.int 4)) (fVar 2)) fNil)) (gNm 11) (fTst (fBin eqD (fBin ixD (fVar 5) (fVar 11)) (fVar 8))) (fVar 11) [11]) 10)
    (whF (tPeek 10 (fTst (fBin neD (fVar 10) (fOf (thnE fNil fun xs => liftO (if sizeOk xs.length = true then some xs else none)))))) b2__law_world 1000))
def f__law_world : FS := (fSeq (fAsg (fCallM 1 g__law_take 0 (fCons (fBin addD (fVar 1) (ret (.int 1))) fNil)) (gNm 2))
    (fSeq (fAsg (fBin ixD (fOf (thnE (fCons (ret (.int 0)) (fCons (ret (.int 2)) (fCons (ret (.int 4)) (fCons (ret (.int 9)) fNil)))) fun xs => liftO (if sizeOk xs.length = true then some xs else none))) (fCallM 1 g__law_take 0 (fCons (ret (.int 4)) fNil))) (gNm 3))
    (fSeq (fAsg (fOf (thnE (fCons (fTup (fCons (ret (.int 0)) (fCons (ret (.int 1)) fNil))) (fCons (fTup (fCons (ret (.int 0)) (fCons (ret (.int 2)) fNil))) (fCons (fTup (fCons (ret (.int 0)) (fCons (ret (.int 3)) fNil))) (fCons (fTup (fCons (ret (.int 1)) (fCons (ret (.int 2)) fNil))) (fCons (fTup (fCons (ret (.int 1)) (fCons (ret (.int 3)) fNil))) (fCons (fTup (fCons (ret (.int 2)) (fCons (ret (.int 3)) fNil))) fNil)))))) fun xs => liftO (if sizeOk xs.length = true then some xs else none))) (gNm 4))
    (fSeq (fOwn (thnE fNil fun xs => liftO (if sizeOk xs.length = true then some xs else none)) 5)
    (fSeq (fFor (fRng rng1 (fCons (fVar 2) fNil)) (gNm 6) b1__law_world)
    (fFrz 5 (fSeq (fOwn (thnE fNil fun xs => liftO (if sizeOk xs.length = true then some xs else none)) 7)
    (fSeq (fFor (fItems (fOf (thnE (fCons (ret (.bool true)) (fCons (ret (.bool false)) fNil)) fun xs => liftO (if sizeOk xs.length = true then some xs else none)))) (gNm 8) b3__law_world)
    (fFrz 7 (fSeq (fAsg (fCall sortedD (fCons (fVar 7) fNil)) (gNm 7))
    (fRet (fTup (fCons (fTup (fCons (fVar 2) (fCons (fCall tupleD (fCons (fVar 7) fNil)) fNil))) (fCons (fCall tupleD (fCons (fOf (fLc (fEnum (fCons (fVar 7) fNil)) (gTp [(gNm 13), (gNm 14)]) (fTst (fBin ixD (fVar 5) (fBin ixD (fVar 14) (ret (.int 0))))) (fVar 13) [13, 14])) fNil)) fNil))))))))))))))
def g__law_world : List PyData → List PyData → Option (PyData × List PyData) := runM 15 f__law_world
theorem mk__law_world {Pr : Program} {w : World} {K : PySem.W.Frag} {mg : Str → Option Value} {base : Heap} (T : Tops K mg) {a__law_take : Addr} {d__law_take : FuncData} (c__law_take : Cal Pr w K mg base 1 "_law_take" ["_law_pot_here", "_law_many"] (spM K 1 g__law_take) a__law_take d__law_take) {f : Addr} {fd : FuncData} (F : Fun K "_law_world" "_law_world" s__law_world f fd) (gl : mg "_law_world" = some (.ref f)) :
    Cal Pr w K mg base 2 "_law_world" ["_law_pot_here", "_law_most"] (spM K 1 g__law_world) f fd := by
  refine ⟨fn_M F sc__law_world (by decide) fun cdv A outer s H hh => ?_, gl, F.kp, F.binds (ps := ["_law_pot_here", "_law_most"]) fun _ _ _ _ _ _ us hl => match us, hl with | [_, _], _ => rfl⟩
  have nd := sc__law_world.nd
  exact (s_cons (s_asg (bb := true) (e_callM 0 c__law_take.ok (hh.mono (by decide)) (by rfl) c__law_take.gl c__law_take.kp c__law_take.bd (pv 0) (a_cons (e_op op_addD d_add (e_var 1 (pv 1)) e_int) a_nil)) (g_nm (P := [0]) (by decide) (pg_name (i := 2) nd rfl (by first | exact Or.inl rfl | exact Or.inr rfl))))
    (s_cons (s_asg (bb := true) (e_ix ix_seqB d_ix (fun _ _ => rfl) (e_ofF (l_lst (a_cons e_int (a_cons e_int (a_cons e_int (a_cons e_int a_nil)))))) (e_callM 0 c__law_take.ok (hh.mono (by decide)) (by rfl) c__law_take.gl c__law_take.kp c__law_take.bd (pv 0) (a_cons e_int a_nil))) (g_nm (P := [0]) (by decide) (pg_name (i := 3) nd rfl (by first | exact Or.inl rfl | exact Or.inr rfl))))
    (s_cons (s_asg (bb := true) (e_ofF (l_lst (a_cons (e_tup (a_cons e_int (a_cons e_int a_nil))) (a_cons (e_tup (a_cons e_int (a_cons e_int a_nil))) (a_cons (e_tup (a_cons e_int (a_cons e_int a_nil))) (a_cons (e_tup (a_cons e_int (a_cons e_int a_nil))) (a_cons (e_tup (a_cons e_int (a_cons e_int a_nil))) (a_cons (e_tup (a_cons e_int (a_cons e_int a_nil))) a_nil)))))))) (g_nm (P := [0]) (by decide) (pg_name (i := 4) nd rfl (by first | exact Or.inl rfl | exact Or.inr rfl))))
    (s_cons (s_own (bb := true) 5 (P := [0]) (by decide) (l_lst a_nil) (pg_name (i := 5) nd rfl (by first | exact Or.inl rfl | exact Or.inr rfl)))
    (s_cons (s_for (bb := true) PassesOwn.never hh.c (i_rng1 (by rfl) T.b_range (a_cons (e_var 2 (pv 2)) a_nil)) (g_nm (P := [0]) (by decide) (pg_name (i := 6) nd rfl (by first | exact Or.inl rfl | exact Or.inr rfl))) (s_cons (s_asg (bb := true) (e_ix ix_seqB d_ix (fun _ _ => rfl) (e_var 4 (pv 4)) (e_callM 0 c__law_take.ok (hh.mono (by decide)) (by rfl) c__law_take.gl c__law_take.kp c__law_take.bd (pv 0) (a_cons e_int a_nil))) (g_nm (P := [0]) (by decide) (pg_name (i := 9) nd rfl (by first | exact Or.inl rfl | exact Or.inr rfl))))
    (s_one (s_drop (bb := true) (e_met 5 m_ext (pe_bm PySem.F.plainAttrs_list PySem.F.slot_list_extend PySem.F.type_list_extend mt_ext (pv 5) (a_cons (e_ofF (l_lc (own := [("_law_turn", 12)]) 15 hh.c nd (i_rng1 (by rfl) T.b_range (a_cons e_int a_nil)) (blkOk_by (by first | rfl | kernel_rfl)) (fun _ _ _ _ _ => (g_nm (P := compl 15 [12]) (by decide) (pg_name (i := 12) nd rfl (by first | exact Or.inl rfl | exact Or.inr rfl)))) (fun _ _ _ _ _ => ts_nil) (fun _ _ _ _ _ => (e_cmp op_in_seq (d_in false) (by rfl) (e_var 12 (pv 12)) (e_var 9 (pv 9)))))) a_nil)))))))
    (ss_frz 5 (s_cons (s_own (bb := true) 7 (P := [0]) (by decide) (l_lst a_nil) (pg_name (i := 7) nd rfl (by first | exact Or.inl rfl | exact Or.inr rfl)))
    (s_cons (s_for (bb := true) PassesOwn.never hh.c (i_seq (e_ofF (l_lst (a_cons e_bl (a_cons e_bl a_nil))))) (g_nm (P := [0]) (by decide) (pg_name (i := 8) nd rfl (by first | exact Or.inl rfl | exact Or.inr rfl))) (s_cons (s_ownLc (bb := true) (i := 10) (P := [0]) (own := [("_law_hand", 11)]) 15 (by decide) hh.c nd rfl rfl (sw_true rfl rfl rfl (by decide +kernel)) (i_rng1 (by rfl) T.b_range (a_cons (e_op op_mulW d_mulI e_int (e_var 2 (pv 2))) a_nil)) (blkOk_by (by first | rfl | kernel_rfl)) (fun _ _ _ _ _ => (g_nm (P := compl 15 [11]) (by decide) (pg_name (i := 11) nd rfl (by first | exact Or.inl rfl | exact Or.inr rfl)))) (fun _ _ _ _ _ => (ts_one (t_cmp (op_eq2 hh.blk.u) d_eq (nomark _) (e_ix ix_seqB d_ix (fun _ _ => rfl) (e_var 5 (pv 5)) (e_var 11 (pv 11))) (e_var 8 (pv 8))))) (fun _ _ _ _ _ => (e_var 11 (pv 11))))
    (s_one (s_while (bb := true) 1000 PassesOwn.never (t_peek 10 (t_cmp (op_ne2 hh.u) d_ne (nomark _) (e_var 10 (pv 10)) (e_ofF (l_lst a_nil)))) (s_cons (s_asg (bb := true) (e_met 10 m_pop (pe_bm PySem.F.plainAttrs_list PySem.F.slot_list_pop PySem.F.type_list_pop mt_popAt (pv 10) (a_cons e_int a_nil))) (g_nm (P := [0]) (by decide) (pg_name (i := 11) nd rfl (by first | exact Or.inl rfl | exact Or.inr rfl))))
    (s_one (s_if (bb := true) (PW.pt (w_or (t_peek 10 (t_cmp (op_eq2 hh.u) d_eq (nomark _) (e_var 10 (pv 10)) (e_ofF (l_lst a_nil)))) (w_or1 (PW.pt (w_and (t_cmp op_gtI d_gtI (nomark _) (e_var 3 (pv 3)) e_int) (w_and1 (t_cmp (op_eq2 hh.u) d_eq (nomark _) (e_callM 0 c__law_take.ok (hh.mono (by decide)) (by rfl) c__law_take.gl c__law_take.kp c__law_take.bd (pv 0) (a_cons (e_var 3 (pv 3)) a_nil)) e_int))))))) (s_one (s_drop (bb := true) (e_met 7 m_app (pe_bm PySem.F.plainAttrs_list PySem.F.slot_list_append PySem.F.type_list_append mt_append (pv 7) (a_cons (e_tup (a_cons (e_var 11 (pv 11)) a_nil)) a_nil))))) (s_one (s_drop (bb := true) (e_met 7 m_app (pe_bm PySem.F.plainAttrs_list PySem.F.slot_list_append PySem.F.type_list_append mt_append (pv 7) (a_cons (e_tup (a_cons (e_var 11 (pv 11)) (a_cons (e_met 10 m_pop (pe_bm PySem.F.plainAttrs_list PySem.F.slot_list_pop PySem.F.type_list_pop mt_popAt (pv 10) (a_cons (e_callM 0 c__law_take.ok (hh.mono (by decide)) (by rfl) c__law_take.gl c__law_take.kp c__law_take.bd (pv 0) (a_cons (e_peek 10 (e_callB call_lenD2 d_len (by rfl) T.b_len (by decide +kernel) (a_cons (e_var 10 (pv 10)) a_nil))) a_nil)) a_nil))) a_nil))) a_nil))))))))))))
    (ss_frz 7 (s_cons (s_asg (bb := true) (e_callB (call_sortD hh.u) d_sorted (by rfl) T.b_sorted (by decide +kernel) (a_cons (e_var 7 (pv 7)) a_nil)) (g_nm (P := [0]) (by decide) (pg_name (i := 7) nd rfl (by first | exact Or.inl rfl | exact Or.inr rfl))))
    (s_one (s_ret (bb := true) (e_tup (a_cons (e_tup (a_cons (e_var 2 (pv 2)) (a_cons (e_callTy call_tupleP d_tuple (by rfl) T.b_tuple (by decide +kernel) (a_cons (e_var 7 (pv 7)) a_nil)) a_nil))) (a_cons (e_callTy call_tupleP d_tuple (by rfl) T.b_tuple (by decide +kernel) (a_cons (e_ofF (l_lc (own := [("_law_at", 13), ("_law_way", 14)]) 15 hh.c nd (i_enum (by rfl) T.b_enumerate (a_cons (e_var 7 (pv 7)) a_nil)) (blkOk_by (by first | rfl | kernel_rfl)) (fun _ _ _ _ _ => (g_tp hh.blk.c (gs_cons (g_nm (P := compl 15 [13, 14]) (by decide) (pg_name (i := 13) nd rfl (by first | exact Or.inl rfl | exact Or.inr rfl))) (gs_cons (g_nm (P := compl 15 [13, 14]) (by decide) (pg_name (i := 14) nd rfl (by first | exact Or.inl rfl | exact Or.inr rfl))) gs_nil)))) (fun _ _ _ _ _ => (ts_one (t_val (e_ix ix_seqB d_ix (fun _ _ => rfl) (e_var 5 (pv 5)) (e_ix ix_seqB d_ix (fun _ _ => rfl) (e_var 14 (pv 14)) e_int))))) (fun _ _ _ _ _ => (e_var 13 (pv 13))))) a_nil)) a_nil)))))))))))))))
abbrev s_law : Stmt := topS 29
theorem sc_law : FnScope ["_law_script", "_law_k", "_law_pot_here"] ["_law_script"] (defScope s_law) := ⟨rfl, rfl, rfl, by decide +kernel, rfl, by decide +kernel, by decide +kernel⟩
def b1_law : FS := (fSeq (fOwn (fCallF 2 g__law_pot (fCons (fVar 0) (fCons (fVar 1) fNil))) 2)
    (fIfS (tdNot (fTst (fCall (lenIs 1 g__law_right) (fCons (fBin ixD (fCallM 1 g__law_world 2 (fCons (ret (.int 8)) fNil)) (ret (.int 0))) fNil)))) (fRet (ret (.bool false))) fNext))
def f_law : FS := (fSeq (fFor (fRng rng1 (fCons (fCall maxD (fCons (ret (.int 2)) (fCons (fCall minD (fCons (fCall lenD (fCons (fVar 0) fNil)) (fCons (ret (.int 63)) fNil))) fNil))) fNil)) (gNm 1) b1_law)
    (fRet (vAnd (fCall (lenIs 1 g__law_right) (fCons (fCall (lenIs 1 g__law_great) (fCons (ret (.int 60)) fNil)) fNil)) (fCall (lenIs 1 g__law_right) (fCons (fTup (fCons (ret (.int 0)) (fCons (fTup fNil) fNil))) fNil)))))
def g_law : List PyData → Option PyData := runP 3 f_law
theorem mk_law {Pr : Program} {w : World} {K : PySem.W.Frag} {mg : Str → Option Value} {base : Heap} (T : Tops K mg) {a__law_pot : Addr} {d__law_pot : FuncData} (c__law_pot : Cal Pr w K mg base 1 "_law_pot" ["_law_script", "_law_k"] (spF K 2 g__law_pot) a__law_pot d__law_pot) {a__law_right : Addr} {d__law_right : FuncData} (c__law_right : Cal Pr w K mg base 6 "_law_right" ["_law_web"] (spP K 1 g__law_right) a__law_right d__law_right) {a__law_great : Addr} {d__law_great : FuncData} (c__law_great : Cal Pr w K mg base 1 "_law_great" ["_law_many"] (spP K 1 g__law_great) a__law_great d__law_great) {a__law_world : Addr} {d__law_world : FuncData} (c__law_world : Cal Pr w K mg base 2 "_law_world" ["_law_pot_here", "_law_most"] (spM K 1 g__law_world) a__law_world d__law_world) {f : Addr} {fd : FuncData} (F : Fun K "law" "law" s_law f fd) (gl : mg "law" = some (.ref f)) :
    Cal Pr w K mg base 7 "law" ["_law_script"] (spP K 1 g_law) f fd := by
  refine ⟨fn_P F sc_law fun cdv A outer s H hh => ?_, gl, F.kp, F.binds (ps := ["_law_script"]) fun _ _ _ _ _ _ us hl => match us, hl with | [_], _ => rfl⟩
  have nd := sc_law.nd
  exact (s_cons (s_for (bb := true) PassesOwn.never hh.c (i_rng1 (by rfl) T.b_range (a_cons (e_callB (call_max2 hh.c) d_max (by rfl) T.b_max (by decide +kernel) (a_cons e_int (a_cons (e_callB (call_min2 hh.c) d_min (by rfl) T.b_min (by decide +kernel) (a_cons (e_callB call_lenD2 d_len (by rfl) T.b_len (by decide +kernel) (a_cons (e_var 0 (pv 0)) a_nil)) (a_cons e_int a_nil))) a_nil))) a_nil)) (g_nm (P := []) (by decide) (pg_name (i := 1) nd rfl (by first | exact Or.inl rfl | exact Or.inr rfl))) (s_cons (s_own (bb := true) 2 (P := []) (by decide) (l_callF c__law_pot.ok (hh.mono (by decide)) (by rfl) c__law_pot.gl c__law_pot.kp c__law_pot.bd (a_cons (e_var 0 (pv 0)) (a_cons (e_var 1 (pv 1)) a_nil))) (pg_name (i := 2) nd rfl (by first | exact Or.inl rfl | exact Or.inr rfl)))
    (s_one (s_if (bb := true) (t_not (t_val (e_callP c__law_right.ok (hh.mono (by decide)) (by rfl) c__law_right.gl c__law_right.kp c__law_right.bd (a_cons (e_ix ix_seqB d_ix (fun _ _ => rfl) (e_callM 2 c__law_world.ok (hh.mono (by decide)) (by rfl) c__law_world.gl c__law_world.kp c__law_world.bd (pv 2) (a_cons e_int a_nil)) e_int) a_nil)))) (s_one (s_ret (bb := true) e_bl)) s_nil))))
    (s_one (s_ret (bb := true) (e_and (e_callP c__law_right.ok (hh.mono (by decide)) (by rfl) c__law_right.gl c__law_right.kp c__law_right.bd (a_cons (e_callP c__law_great.ok (hh.mono (by decide)) (by rfl) c__law_great.gl c__law_great.kp c__law_great.bd (a_cons e_int a_nil)) a_nil)) (e_one (e_callP c__law_right.ok (hh.mono (by decide)) (by rfl) c__law_right.gl c__law_right.kp c__law_right.bd (a_cons (e_tup (a_cons e_int (a_cons (e_tup a_nil) a_nil))) a_nil)))))))
end Lw

set_option Elab.async false
set_option linter.all false
set_option maxRecDepth 100000
set_option maxHeartbeats 4000000
namespace Lw
open PySem PySem.Spec PyProof.Rows L2 Tw
theorem take_a {a b c n : Int} (ha : 0 < a) (hn : 0 < n) (hn2 : n < 2 ^ 60) : g__law_take [.int a, .int b, .int c] [.int n] = some (.int (a % n), [.int (a / n), .int b, .int c]) := by
  have t : decide (0 < a) = true := decide_eq_true ha
  have h1 := mod_ok (i := a) hn
  have h2 := fdiv_ok (i := a) 60 hn (by decide) hn2 (by decide)
  unfold g__law_take runM f__law_take
  simp -implicitDefEqProofs only [eq_self, r_thn, r_tk, r_tk0, r_ret, r_lift, r_lift0, r_var, r_vk, r_bin, r_un, r_nil, r_cons, r_tup, r_of, r_call, r_tst, r_kt, r_ikT, r_ikF, r_ite, r_if, r_ife, r_and, r_or, r_not, r_vand, r_vor, r_vnot, r_chain, r_hkT, r_hkF, r_part, r_ok, r_sl, r_seq, r_skN, r_skR, r_skF, r_skB, r_skC, r_next, r_retS, r_rk, r_retF, r_rfk, r_drop, r_dk, r_asg, r_gk, r_gk2, gNm, r_tp, r_gs, r_qk, r_gs0, r_froz, r_frk, r_cmk, r_setI, r_stk, r_stk2, r_sti, r_pl, r_stj, r_aug, r_aug1, r_aug2, r_aug3, r_opN, r_par, r_prk, r_callN, r_tupRg, and_self, ixN0, ixN1, ixN2, r_peek, r_pk, r_pkI, r_pkB, r_pkS, r_pkN, r_tpeek, r_bk1, r_bk2, r_frz, r_fzk, r_own, owk, r_frkK, r_ownK, r_ixEd, r_ixEt, r_ixEl, r_inK, r_ninK, r_mk4, r_mk3, r_met, r_mk2, r_callM, r_mk2b, r_callM1, r_lenIs, r_callF, r_mat, r_mtk, r_mEnd, r_mCase, r_for, r_lk, r_items, r_itL, r_itT, r_rng, r_enum, r_zipM, zipM_ok, r_star, starL_ok, starT_ok, enumL_ok, enumT_ok, for_nil, r_lc, r_lck2, lc_nil, r_outM, r_outMn, r_outM1, r_outM1n, r_outD, r_outDf, r_outDn, r_outF, ixL0, ixL1, ixL2, ixT0, ixT1, ixT2, addI_ok, subI_ok, gtI_ok, geI_ok, leI_ok, ltI_ok, lenL_ok, lenT_ok, abs_ok, intB_ok, List.getElem?_cons_zero, List.getElem?_cons_succ, List.length_cons, List.length_nil, List.set_cons_zero, List.set_cons_succ, List.map_cons, List.map_nil, List.cons_append, List.nil_append, List.replicate_succ, List.replicate_zero, Nat.reduceAdd, Nat.reduceSub, Nat.reduceLT, Nat.reduceEqDiff, Option.bind_some, Option.bind_none, Option.map_some, Option.map_none, if_true, if_false, ite_true, ite_false, ↓reduceIte, Bool.not_true, Bool.not_false, t, h1, h2]
theorem take_b {a b c n : Int} (ha : ¬ 0 < a) (hb : 0 ≤ b) (hb2 : b < 2 ^ 62) (hc : 0 ≤ c) (hc2 : c < 2 ^ 100) (hn : 0 < n) : ∃ r, g__law_take [.int a, .int b, .int c] [.int n] = some (.int r, [.int a, .int b, .int (c + 1)]) ∧ 0 ≤ r ∧ r < n := by
  have t : decide (0 < a) = false := decide_eq_false ha
  have m1 := mul_ok (i := 86028157) (j := c + 1) 27 101 (by decide) (by decide) (by decide) (by decide) (by omega) (by omega) (by decide)
  have m2 := mul_ok (i := 31) (j := c + 1) 5 101 (by decide) (by decide) (by decide) (by decide) (by omega) (by omega) (by decide)
  have p1 := pow_ok (i := b + 86028157 * (c + 1)) (j := 3) 130 (by omega) (by omega) (by decide) (by decide)
  generalize e1 : (b + 86028157 * (c + 1)) ^ (3 : Int).toNat = X1 at p1
  have q1 := mod_ok (i := X1) (j := 2305843009213693907) (by decide)
  have l1 := Int.emod_nonneg X1 (b := 2305843009213693907) (by decide)
  have l2 := Int.emod_lt_of_pos X1 (b := 2305843009213693907) (by decide)
  generalize X1 % 2305843009213693907 = X2 at q1 l1 l2
  have q2 := mod_ok (i := b) (j := 1000003) (by decide)
  have l3 := Int.emod_nonneg b (b := 1000003) (by decide)
  have l4 := Int.emod_lt_of_pos b (b := 1000003) (by decide)
  generalize b % 1000003 = X3 at q2 l3 l4
  have p2 := pow_ok (i := X2 + X3 + 31 * (c + 1)) (j := 5) 130 (by omega) (by omega) (by decide) (by decide)
  generalize e2 : (X2 + X3 + 31 * (c + 1)) ^ (5 : Int).toNat = X4 at p2
  have q3 := mod_ok (i := X4) (j := 2305843009213693921) (by decide)
  generalize X4 % 2305843009213693921 = X5 at q3
  have q4 := fdiv_ok (i := X5) (j := 4096) 13 (by decide) (by decide) (by decide) (by decide)
  have q5 := mod_ok (i := X5 / 4096) hn
  refine ⟨X5 / 4096 % n, ?_, Int.emod_nonneg _ (by omega), Int.emod_lt_of_pos _ hn⟩
  unfold g__law_take runM f__law_take
  simp -implicitDefEqProofs only [eq_self, r_thn, r_tk, r_tk0, r_ret, r_lift, r_lift0, r_var, r_vk, r_bin, r_un, r_nil, r_cons, r_tup, r_of, r_call, r_tst, r_kt, r_ikT, r_ikF, r_ite, r_if, r_ife, r_and, r_or, r_not, r_vand, r_vor, r_vnot, r_chain, r_hkT, r_hkF, r_part, r_ok, r_sl, r_seq, r_skN, r_skR, r_skF, r_skB, r_skC, r_next, r_retS, r_rk, r_retF, r_rfk, r_drop, r_dk, r_asg, r_gk, r_gk2, gNm, r_tp, r_gs, r_qk, r_gs0, r_froz, r_frk, r_cmk, r_setI, r_stk, r_stk2, r_sti, r_pl, r_stj, r_aug, r_aug1, r_aug2, r_aug3, r_opN, r_par, r_prk, r_callN, r_tupRg, and_self, ixN0, ixN1, ixN2, r_peek, r_pk, r_pkI, r_pkB, r_pkS, r_pkN, r_tpeek, r_bk1, r_bk2, r_frz, r_fzk, r_own, owk, r_frkK, r_ownK, r_ixEd, r_ixEt, r_ixEl, r_inK, r_ninK, r_mk4, r_mk3, r_met, r_mk2, r_callM, r_mk2b, r_callM1, r_lenIs, r_callF, r_mat, r_mtk, r_mEnd, r_mCase, r_for, r_lk, r_items, r_itL, r_itT, r_rng, r_enum, r_zipM, zipM_ok, r_star, starL_ok, starT_ok, enumL_ok, enumT_ok, for_nil, r_lc, r_lck2, lc_nil, r_outM, r_outMn, r_outM1, r_outM1n, r_outD, r_outDf, r_outDn, r_outF, ixL0, ixL1, ixL2, ixT0, ixT1, ixT2, addI_ok, subI_ok, gtI_ok, geI_ok, leI_ok, ltI_ok, lenL_ok, lenT_ok, abs_ok, intB_ok, List.getElem?_cons_zero, List.getElem?_cons_succ, List.length_cons, List.length_nil, List.set_cons_zero, List.set_cons_succ, List.map_cons, List.map_nil, List.cons_append, List.nil_append, List.replicate_succ, List.replicate_zero, Nat.reduceAdd, Nat.reduceSub, Nat.reduceLT, Nat.reduceEqDiff, Option.bind_some, Option.bind_none, Option.map_some, Option.map_none, if_true, if_false, ite_true, ite_false, ↓reduceIte, Bool.not_true, Bool.not_false, t, m1, m2, p1, q1, q2, p2, q3, q4, q5]
/-- a pot of draws: how often it has been drawn from is at most n -/
structure Pot (n : Nat) (ms : List PyData) : Prop where
  ex : ∃ a b c : Int, ms = [.int a, .int b, .int c] ∧ 0 ≤ b ∧ b < 2 ^ 62 ∧ 0 ≤ c ∧ c ≤ n
theorem Pot.wide {n m : Nat} {ms : List PyData} (P : Pot n ms) (h : n ≤ m) : Pot m ms := by
  obtain ⟨a, b, c, e, h1, h2, h3, h4⟩ := P.ex
  exact ⟨a, b, c, e, h1, h2, h3, by omega⟩
theorem take_ok {k : Nat} {ms : List PyData} {n : Int} (P : Pot k ms) (hk : k < 2 ^ 90) (hn : 0 < n) (hn2 : n < 2 ^ 60) : ∃ r ms', g__law_take ms [.int n] = some (.int r, ms') ∧ 0 ≤ r ∧ r < n ∧ Pot (k + 1) ms' := by
  obtain ⟨a, b, c, rfl, h1, h2, h3, h4⟩ := P.ex
  by_cases ha : 0 < a
  · exact ⟨_, _, take_a ha hn hn2, Int.emod_nonneg _ (by omega), Int.emod_lt_of_pos _ hn, ⟨_, _, _, rfl, h1, h2, h3, by omega⟩⟩
  · obtain ⟨r, e, r1, r2⟩ := take_b ha h1 h2 h3 (by omega) hn
    exact ⟨r, _, e, r1, r2, ⟨_, _, _, rfl, h1, h2, by omega, by omega⟩⟩
theorem pot_ok {ns : List Int} {k : Nat} (hk : k < 2 ^ 60) : ∃ ms, g__law_pot [.list (ns.map .int), .int k] = some ms ∧ Pot 0 ms := by
  have e10 : powD (.int 10) (.int 60) = some (.int (10 ^ 60)) := pow_ok 4 (by decide) (by decide) (by decide) (by decide)
  have e14 : powD (.int (10 ^ 60)) (.int 14) = some (.int ((10 ^ 60) ^ 14)) := pow_ok 200 (by decide) (by decide) (by decide) (by decide)
  have e18 : powD (.int 10) (.int 18) = some (.int (10 ^ 18)) := pow_ok 4 (by decide) (by decide) (by decide) (by decide)
  have m1 := mul_ok (i := 104729) (j := (k : Int)) 17 61 (by decide) (by decide) (by decide) (by decide) (by omega) (by omega) (by decide)
  have rest : ∀ z : Int, ∃ z1 X1 b : Int, modD (.int z) (.int 2305843009213693921) = some (.int z1) ∧ powD (.int (z1 + 104729 * (k : Int) + 1)) (.int 3) = some (.int X1) ∧ modD (.int X1) (.int 2305843009213693951) = some (.int b) ∧ 0 ≤ b ∧ b < 2 ^ 62 := by
    intro z
    have m0 := mod_ok (i := z) (j := 2305843009213693921) (by decide)
    have l1 := Int.emod_nonneg z (b := 2305843009213693921) (by decide)
    have l2 := Int.emod_lt_of_pos z (b := 2305843009213693921) (by decide)
    generalize z % 2305843009213693921 = z1 at m0 l1 l2
    have p1 := pow_ok (i := z1 + 104729 * (k : Int) + 1) (j := 3) 100 (by omega) (by omega) (by decide) (by decide)
    generalize (z1 + 104729 * (k : Int) + 1) ^ (3 : Int).toNat = X1 at p1
    have q1 := mod_ok (i := X1) (j := 2305843009213693951) (by decide)
    have l3 := Int.emod_nonneg X1 (b := 2305843009213693951) (by decide)
    have l4 := Int.emod_lt_of_pos X1 (b := 2305843009213693951) (by decide)
    exact ⟨z1, X1, _, m0, p1, q1, l3, by omega⟩
  have big : ((10 : Int) ^ 60) ^ 14 < 2 ^ 3000 := by decide +kernel
  have m2 : ∀ (z : Int) (b : Bool), 0 ≤ z → z < (10 ^ 60) ^ 14 → mulI (.int z) (.int (if b = true then 1 else 0)) = some (.int (z * (if b = true then 1 else 0))) := fun z b h0 hz => mul_ok 3000 1 (by decide) (by decide) h0 (Int.lt_trans hz big) (by cases b <;> decide) (by cases b <;> decide) (by decide)
  have sz : Tw.sizeOk 3 = true := rfl
  unfold g__law_pot runF f__law_pot
  by_cases hlt : k < ns.length
  · have t : decide ((k : Int) < ((ns.map PyData.int).length : Int)) = true := decide_eq_true (by rw [List.length_map]; omega)
    have ix : ixD (.list (ns.map .int)) (.int (k : Int)) = some (.int ns[k]) := ixLn (by rw [List.getElem?_map, List.getElem?_eq_getElem hlt]; rfl)
    have m := mod_ok (i := if ns[k] < 0 then -ns[k] else ns[k]) (j := (10 ^ 60) ^ 14) (by decide)
    have z0 := Int.emod_nonneg (if ns[k] < 0 then -ns[k] else ns[k]) (b := (10 ^ 60) ^ 14) (by decide)
    have z1 := Int.emod_lt_of_pos (if ns[k] < 0 then -ns[k] else ns[k]) (b := (10 ^ 60) ^ 14) (by decide)
    generalize (if ns[k] < 0 then -ns[k] else ns[k]) % ((10 ^ 60) ^ 14) = z at m z0 z1
    obtain ⟨z1', X1, b, q1, q2, q3, b1, b2⟩ := rest z
    have m3 := m2 z (decide ((10 : Int) ^ 18 ≤ z)) z0 z1
    refine ⟨[.int (z * (if decide ((10 : Int) ^ 18 ≤ z) = true then 1 else 0)), .int b, .int 0], ?_, ⟨_, b, 0, rfl, b1, b2, by omega, by omega⟩⟩
    simp -implicitDefEqProofs only [eq_self, r_thn, r_tk, r_tk0, r_ret, r_lift, r_lift0, r_var, r_vk, r_bin, r_un, r_nil, r_cons, r_tup, r_of, r_call, r_tst, r_kt, r_ikT, r_ikF, r_ite, r_if, r_ife, r_and, r_or, r_not, r_vand, r_vor, r_vnot, r_chain, r_hkT, r_hkF, r_part, r_ok, r_sl, r_seq, r_skN, r_skR, r_skF, r_skB, r_skC, r_next, r_retS, r_rk, r_retF, r_rfk, r_drop, r_dk, r_asg, r_gk, r_gk2, gNm, r_tp, r_gs, r_qk, r_gs0, r_froz, r_frk, r_cmk, r_setI, r_stk, r_stk2, r_sti, r_pl, r_stj, r_aug, r_aug1, r_aug2, r_aug3, r_opN, r_par, r_prk, r_callN, r_tupRg, and_self, ixN0, ixN1, ixN2, r_peek, r_pk, r_pkI, r_pkB, r_pkS, r_pkN, r_tpeek, r_bk1, r_bk2, r_frz, r_fzk, r_own, owk, r_frkK, r_ownK, r_ixEd, r_ixEt, r_ixEl, r_inK, r_ninK, r_mk4, r_mk3, r_met, r_mk2, r_callM, r_mk2b, r_callM1, r_lenIs, r_callF, r_mat, r_mtk, r_mEnd, r_mCase, r_for, r_lk, r_items, r_itL, r_itT, r_rng, r_enum, r_zipM, zipM_ok, r_star, starL_ok, starT_ok, enumL_ok, enumT_ok, for_nil, r_lc, r_lck2, lc_nil, r_outM, r_outMn, r_outM1, r_outM1n, r_outD, r_outDf, r_outDn, r_outF, ixL0, ixL1, ixL2, ixT0, ixT1, ixT2, addI_ok, subI_ok, gtI_ok, geI_ok, leI_ok, ltI_ok, lenL_ok, lenT_ok, abs_ok, intB_ok, List.getElem?_cons_zero, List.getElem?_cons_succ, List.length_cons, List.length_nil, List.set_cons_zero, List.set_cons_succ, List.map_cons, List.map_nil, List.cons_append, List.nil_append, List.replicate_succ, List.replicate_zero, Nat.reduceAdd, Nat.reduceSub, Nat.reduceLT, Nat.reduceEqDiff, Option.bind_some, Option.bind_none, Option.map_some, Option.map_none, if_true, if_false, ite_true, ite_false, ↓reduceIte, Bool.not_true, Bool.not_false, t, ix, e10, e14, m, q1, m1, q2, q3, e18, m3, sz]
  · have t : decide ((k : Int) < ((ns.map PyData.int).length : Int)) = false := decide_eq_false (by rw [List.length_map]; omega)
    obtain ⟨z1', X1, b, q1, q2, q3, b1, b2⟩ := rest 0
    have m3 := m2 0 (decide ((10 : Int) ^ 18 ≤ 0)) (by decide) (by decide)
    refine ⟨[.int (0 * (if decide ((10 : Int) ^ 18 ≤ 0) = true then 1 else 0)), .int b, .int 0], ?_, ⟨_, b, 0, rfl, b1, b2, by omega, by omega⟩⟩
    simp -implicitDefEqProofs only [eq_self, r_thn, r_tk, r_tk0, r_ret, r_lift, r_lift0, r_var, r_vk, r_bin, r_un, r_nil, r_cons, r_tup, r_of, r_call, r_tst, r_kt, r_ikT, r_ikF, r_ite, r_if, r_ife, r_and, r_or, r_not, r_vand, r_vor, r_vnot, r_chain, r_hkT, r_hkF, r_part, r_ok, r_sl, r_seq, r_skN, r_skR, r_skF, r_skB, r_skC, r_next, r_retS, r_rk, r_retF, r_rfk, r_drop, r_dk, r_asg, r_gk, r_gk2, gNm, r_tp, r_gs, r_qk, r_gs0, r_froz, r_frk, r_cmk, r_setI, r_stk, r_stk2, r_sti, r_pl, r_stj, r_aug, r_aug1, r_aug2, r_aug3, r_opN, r_par, r_prk, r_callN, r_tupRg, and_self, ixN0, ixN1, ixN2, r_peek, r_pk, r_pkI, r_pkB, r_pkS, r_pkN, r_tpeek, r_bk1, r_bk2, r_frz, r_fzk, r_own, owk, r_frkK, r_ownK, r_ixEd, r_ixEt, r_ixEl, r_inK, r_ninK, r_mk4, r_mk3, r_met, r_mk2, r_callM, r_mk2b, r_callM1, r_lenIs, r_callF, r_mat, r_mtk, r_mEnd, r_mCase, r_for, r_lk, r_items, r_itL, r_itT, r_rng, r_enum, r_zipM, zipM_ok, r_star, starL_ok, starT_ok, enumL_ok, enumT_ok, for_nil, r_lc, r_lck2, lc_nil, r_outM, r_outMn, r_outM1, r_outM1n, r_outD, r_outDf, r_outDn, r_outF, ixL0, ixL1, ixL2, ixT0, ixT1, ixT2, addI_ok, subI_ok, gtI_ok, geI_ok, leI_ok, ltI_ok, lenL_ok, lenT_ok, abs_ok, intB_ok, List.getElem?_cons_zero, List.getElem?_cons_succ, List.length_cons, List.length_nil, List.set_cons_zero, List.set_cons_succ, List.map_cons, List.map_nil, List.cons_append, List.nil_append, List.replicate_succ, List.replicate_zero, Nat.reduceAdd, Nat.reduceSub, Nat.reduceLT, Nat.reduceEqDiff, Option.bind_some, Option.bind_none, Option.map_some, Option.map_none, if_true, if_false, ite_true, ite_false, ↓reduceIte, Bool.not_true, Bool.not_false, t, q1, m1, q2, q3, e18, m3, sz]
end Lw

set_option Elab.async false
set_option linter.all false
set_option maxRecDepth 100000
set_option maxHeartbeats 4000000
namespace Lw
open PySem PySem.Spec PyProof.Rows L2 Tw
/-! ### operations at known values, more -/
theorem eq_nilL {L : List PyData} : eqD (.list L) (.list []) = some (.bool L.isEmpty) := by
  cases L with
  | nil => rfl
  | cons x r => rfl
theorem ne_nilL {L : List PyData} : neD (.list L) (.list []) = some (.bool (!L.isEmpty)) := by
  cases L with
  | nil => rfl
  | cons x r => rfl
theorem eqI_ok {i j : Int} : eqD (.int i) (.int j) = some (.bool (i == j)) := rfl
theorem neI_ok {i j : Int} : neD (.int i) (.int j) = some (.bool (!(i == j))) := rfl
theorem eraseMap {α β : Type} (f : α → β) : ∀ (L : List α) (j : Nat), (L.map f).eraseIdx j = (L.eraseIdx j).map f
  | [], _ => rfl
  | x :: L, 0 => rfl
  | x :: L, j + 1 => congrArg (f x :: ·) (eraseMap f L j)
theorem pop_ok {L : List PyData} {j : Nat} {d : PyData} (h : L[j]? = some d) (hz : L.length < 2 ^ 60) : popG L [.int (j : Int)] = some (d, L.eraseIdx j) := by
  have hj : j < L.length := (List.getElem?_eq_some_iff.mp h).1
  have e : seqIndex? (j : Int) L.length = some j := by
    simp [seqIndex?]
    omega
  unfold popG
  dsimp only
  rw [if_pos (by omega), e]
  dsimp only [Option.bind_some]
  rw [h]
  rfl
theorem pop_0 {L : List PyData} {d : PyData} (hz : L.length < 2 ^ 59) : popG (d :: L) [.int 0] = some (d, L) := pop_ok (L := d :: L) (j := 0) rfl (by rw [List.length_cons]; omega)
theorem app_ok {L : List PyData} {d : PyData} (hz : L.length < 100000) : appG L [d] = some (.none, L ++ [d]) := if_pos hz
def wayD : Int × Option Int → PyData
  | (h, none) => .tuple [.int h]
  | (h, some g) => .tuple [.int h, .int g]
def intsD (L : List Int) : List PyData := L.map PyData.int
theorem intsD_len (L : List Int) : (intsD L).length = L.length := List.length_map _
theorem intsD_get {L : List Int} {j : Nat} (h : j < L.length) : (intsD L)[j]? = some (.int L[j]) := by
  unfold intsD
  rw [List.getElem?_map, List.getElem?_eq_getElem h]
  rfl
theorem intsD_erase (L : List Int) (j : Nat) : (intsD L).eraseIdx j = intsD (L.eraseIdx j) := eraseMap _ _ _
/-- one hand taken off, a way made of it -/
theorem world_turn {k : Nat} {ms : List PyData} {most many kd pairs kinds : PyData} {o : Int} {s6 s9 s11 s12 s13 s14 : Sl} {W : List PyData} {h : Int} {R : List Int} (P : Pot k ms) (hk : k < 2 ^ 80) (ho : o < 100) (hW : W.length < 90000) (hR : R.length < 90000) :
    ∃ ms' : List PyData, ∃ w R', b2__law_world [.m ms, .d most, .d many, .d (.int o), .d pairs, .d kinds, s6, .m W, .d kd, s9, .m (intsD (h :: R)), s11, s12, s13, s14] =
        some (.nx [.m ms', .d most, .d many, .d (.int o), .d pairs, .d kinds, s6, .m (.l (W ++ [wayD w])), .d kd, s9, .m (intsD R'), .d (.int h), s12, s13, s14]) ∧ Pot (k + 2) ms' ∧
      ((w = (h, none) ∧ R' = R) ∨ ∃ (j : Nat) (hj : j < R.length), w = (h, some R[j]) ∧ R' = R.eraseIdx j) := by
  have hp : popG (intsD (h :: R)) [.int 0] = some (.int h, intsD R) := pop_0 (L := intsD R) (by rw [intsD_len]; omega)
  have ha : ∀ w, appG W [w] = some (.none, W ++ [w]) := fun w => app_ok (by omega)
  have s0 : Tw.sizeOk 0 = true := rfl
  have s1 : Tw.sizeOk 1 = true := rfl
  have s2 : Tw.sizeOk 2 = true := rfl
  have l1 : [PyData.int 0].length = 1 := rfl
  -- the two ways out
  have outA : ∀ ms1 : List PyData, (fDrop (fMet 7 appG (fCons (fTup (fCons (fVar 11) fNil)) fNil))) [.m ms1, .d most, .d many, .d (.int o), .d pairs, .d kinds, s6, .m W, .d kd, s9, .m (intsD R), .d (.int h), s12, s13, s14] =
      some (.nx [.m ms1, .d most, .d many, .d (.int o), .d pairs, .d kinds, s6, .m (.l (W ++ [wayD (h, none)])), .d kd, s9, .m (intsD R), .d (.int h), s12, s13, s14]) := fun ms1 => by
    simp -implicitDefEqProofs only [eq_self, r_thn, r_tk, r_tk0, r_ret, r_lift, r_lift0, r_var, r_vk, r_bin, r_un, r_nil, r_cons, r_tup, r_of, r_call, r_tst, r_kt, r_ikT, r_ikF, r_ite, r_if, r_ife, r_and, r_or, r_not, r_vand, r_vor, r_vnot, r_chain, r_hkT, r_hkF, r_part, r_ok, r_sl, r_seq, r_skN, r_skR, r_skF, r_skB, r_skC, r_next, r_retS, r_rk, r_retF, r_rfk, r_drop, r_dk, r_asg, r_gk, r_gk2, gNm, r_tp, r_gs, r_qk, r_gs0, r_froz, r_frk, r_cmk, r_setI, r_stk, r_stk2, r_sti, r_pl, r_stj, r_aug, r_aug1, r_aug2, r_aug3, r_opN, r_par, r_prk, r_callN, r_tupRg, and_self, ixN0, ixN1, ixN2, r_peek, r_pk, r_pkI, r_pkB, r_pkS, r_pkN, r_tpeek, r_bk1, r_bk2, r_frz, r_fzk, r_own, owk, r_frkK, r_ownK, r_ixEd, r_ixEt, r_ixEl, r_inK, r_ninK, r_mk4, r_mk3, r_met, r_mk2, r_callM, r_mk2b, r_callM1, r_lenIs, r_callF, r_mat, r_mtk, r_mEnd, r_mCase, r_for, r_lk, r_items, r_itL, r_itT, r_rng, r_enum, r_zipM, zipM_ok, r_star, starL_ok, starT_ok, enumL_ok, enumT_ok, for_nil, r_lc, r_lck2, lc_nil, r_outM, r_outMn, r_outM1, r_outM1n, r_outD, r_outDf, r_outDn, r_outF, ixL0, ixL1, ixL2, ixT0, ixT1, ixT2, addI_ok, subI_ok, gtI_ok, geI_ok, leI_ok, ltI_ok, lenL_ok, lenT_ok, abs_ok, intB_ok, List.getElem?_cons_zero, List.getElem?_cons_succ, List.length_cons, List.length_nil, List.set_cons_zero, List.set_cons_succ, List.map_cons, List.map_nil, List.cons_append, List.nil_append, List.replicate_succ, List.replicate_zero, Nat.reduceAdd, Nat.reduceSub, Nat.reduceLT, Nat.reduceEqDiff, Option.bind_some, Option.bind_none, Option.map_some, Option.map_none, if_true, if_false, ite_true, ite_false, ↓reduceIte, Bool.not_true, Bool.not_false, ha, s1]
    rfl
  have outB : ∀ (k1 : Nat) (ms1 : List PyData), Pot k1 ms1 → k1 < 2 ^ 81 → 0 < R.length → ∃ (ms2 : List PyData) (j : Nat) (hj : j < R.length), (fDrop (fMet 7 appG (fCons (fTup (fCons (fVar 11) (fCons (fMet 10 popG (fCons (fCallM 1 g__law_take 0 (fCons (fPeek 10 (fCall lenD (fCons (fVar 10) fNil))) fNil)) fNil)) fNil))) fNil)))
      [.m ms1, .d most, .d many, .d (.int o), .d pairs, .d kinds, s6, .m W, .d kd, s9, .m (intsD R), .d (.int h), s12, s13, s14] =
      some (.nx [.m ms2, .d most, .d many, .d (.int o), .d pairs, .d kinds, s6, .m (.l (W ++ [wayD (h, some R[j])])), .d kd, s9, .m (intsD (R.eraseIdx j)), .d (.int h), s12, s13, s14]) ∧ Pot (k1 + 1) ms2 := fun k1 ms1 P1 hk1 h0 => by
    obtain ⟨r, ms2, e, r0, r1, P2⟩ := take_ok (n := ((intsD R).length : Int)) P1 (by omega) (by rw [intsD_len]; omega) (by rw [intsD_len]; omega)
    obtain ⟨j, rfl⟩ : ∃ j : Nat, r = (j : Int) := ⟨r.toNat, by omega⟩
    rw [intsD_len] at r1
    have hj : j < R.length := by omega
    have hpop : popG (intsD R) [.int (j : Int)] = some (.int R[j], intsD (R.eraseIdx j)) := by
      rw [pop_ok (d := .int R[j]) (intsD_get hj) (by rw [intsD_len]; omega), intsD_erase]
    refine ⟨ms2, j, hj, ?_, P2⟩
    simp -implicitDefEqProofs only [eq_self, r_thn, r_tk, r_tk0, r_ret, r_lift, r_lift0, r_var, r_vk, r_bin, r_un, r_nil, r_cons, r_tup, r_of, r_call, r_tst, r_kt, r_ikT, r_ikF, r_ite, r_if, r_ife, r_and, r_or, r_not, r_vand, r_vor, r_vnot, r_chain, r_hkT, r_hkF, r_part, r_ok, r_sl, r_seq, r_skN, r_skR, r_skF, r_skB, r_skC, r_next, r_retS, r_rk, r_retF, r_rfk, r_drop, r_dk, r_asg, r_gk, r_gk2, gNm, r_tp, r_gs, r_qk, r_gs0, r_froz, r_frk, r_cmk, r_setI, r_stk, r_stk2, r_sti, r_pl, r_stj, r_aug, r_aug1, r_aug2, r_aug3, r_opN, r_par, r_prk, r_callN, r_tupRg, and_self, ixN0, ixN1, ixN2, r_peek, r_pk, r_pkI, r_pkB, r_pkS, r_pkN, r_tpeek, r_bk1, r_bk2, r_frz, r_fzk, r_own, owk, r_frkK, r_ownK, r_ixEd, r_ixEt, r_ixEl, r_inK, r_ninK, r_mk4, r_mk3, r_met, r_mk2, r_callM, r_mk2b, r_callM1, r_lenIs, r_callF, r_mat, r_mtk, r_mEnd, r_mCase, r_for, r_lk, r_items, r_itL, r_itT, r_rng, r_enum, r_zipM, zipM_ok, r_star, starL_ok, starT_ok, enumL_ok, enumT_ok, for_nil, r_lc, r_lck2, lc_nil, r_outM, r_outMn, r_outM1, r_outM1n, r_outD, r_outDf, r_outDn, r_outF, ixL0, ixL1, ixL2, ixT0, ixT1, ixT2, addI_ok, subI_ok, gtI_ok, geI_ok, leI_ok, ltI_ok, lenL_ok, lenT_ok, abs_ok, intB_ok, List.getElem?_cons_zero, List.getElem?_cons_succ, List.length_cons, List.length_nil, List.set_cons_zero, List.set_cons_succ, List.map_cons, List.map_nil, List.cons_append, List.nil_append, List.replicate_succ, List.replicate_zero, Nat.reduceAdd, Nat.reduceSub, Nat.reduceLT, Nat.reduceEqDiff, Option.bind_some, Option.bind_none, Option.map_some, Option.map_none, if_true, if_false, ite_true, ite_false, ↓reduceIte, Bool.not_true, Bool.not_false, e, hpop, ha, s2]
    rfl
  cases R with
  | nil =>
    refine ⟨ms, (h, none), [], ?_, P.wide (by omega), .inl ⟨rfl, rfl⟩⟩
    have e := outA ms
    unfold b2__law_world
    simp -implicitDefEqProofs only [eq_self, r_thn, r_tk, r_tk0, r_ret, r_lift, r_lift0, r_var, r_vk, r_bin, r_un, r_nil, r_cons, r_tup, r_of, r_call, r_tst, r_kt, r_ikT, r_ikF, r_ite, r_if, r_ife, r_and, r_or, r_not, r_vand, r_vor, r_vnot, r_chain, r_hkT, r_hkF, r_part, r_ok, r_sl, r_seq, r_skN, r_skR, r_skF, r_skB, r_skC, r_next, r_retS, r_rk, r_retF, r_rfk, r_drop, r_dk, r_asg, r_gk, r_gk2, gNm, r_tp, r_gs, r_qk, r_gs0, r_froz, r_frk, r_cmk, r_setI, r_stk, r_stk2, r_sti, r_pl, r_stj, r_aug, r_aug1, r_aug2, r_aug3, r_opN, r_par, r_prk, r_callN, r_tupRg, and_self, ixN0, ixN1, ixN2, r_peek, r_pk, r_pkI, r_pkB, r_pkS, r_pkN, r_tpeek, r_bk1, r_bk2, r_frz, r_fzk, r_own, owk, r_frkK, r_ownK, r_ixEd, r_ixEt, r_ixEl, r_inK, r_ninK, r_mk4, r_mk3, r_met, r_mk2, r_callM, r_mk2b, r_callM1, r_lenIs, r_callF, r_mat, r_mtk, r_mEnd, r_mCase, r_for, r_lk, r_items, r_itL, r_itT, r_rng, r_enum, r_zipM, zipM_ok, r_star, starL_ok, starT_ok, enumL_ok, enumT_ok, for_nil, r_lc, r_lck2, lc_nil, r_outM, r_outMn, r_outM1, r_outM1n, r_outD, r_outDf, r_outDn, r_outF, ixL0, ixL1, ixL2, ixT0, ixT1, ixT2, addI_ok, subI_ok, gtI_ok, geI_ok, leI_ok, ltI_ok, lenL_ok, lenT_ok, abs_ok, intB_ok, List.getElem?_cons_zero, List.getElem?_cons_succ, List.length_cons, List.length_nil, List.set_cons_zero, List.set_cons_succ, List.map_cons, List.map_nil, List.cons_append, List.nil_append, List.replicate_succ, List.replicate_zero, Nat.reduceAdd, Nat.reduceSub, Nat.reduceLT, Nat.reduceEqDiff, Option.bind_some, Option.bind_none, Option.map_some, Option.map_none, if_true, if_false, ite_true, ite_false, ↓reduceIte, Bool.not_true, Bool.not_false, hp, s0, eq_nilL, show (intsD []).isEmpty = true from rfl, ha, s1]
    rfl
  | cons x R =>
    have he : (intsD (x :: R)).isEmpty = false := rfl
    by_cases ho0 : 0 < o
    · have t : decide (0 < o) = true := decide_eq_true ho0
      obtain ⟨r, ms1, e1, r0, r1, P1⟩ := take_ok (n := o) P (by omega) ho0 (by omega)
      by_cases hr : r = 0
      · subst hr
        have hA := outA ms1
        refine ⟨ms1, (h, none), x :: R, ?_, P1.wide (by omega), .inl ⟨rfl, rfl⟩⟩
        unfold b2__law_world
        simp -implicitDefEqProofs only [eq_self, r_thn, r_tk, r_tk0, r_ret, r_lift, r_lift0, r_var, r_vk, r_bin, r_un, r_nil, r_cons, r_tup, r_of, r_call, r_tst, r_kt, r_ikT, r_ikF, r_ite, r_if, r_ife, r_and, r_or, r_not, r_vand, r_vor, r_vnot, r_chain, r_hkT, r_hkF, r_part, r_ok, r_sl, r_seq, r_skN, r_skR, r_skF, r_skB, r_skC, r_next, r_retS, r_rk, r_retF, r_rfk, r_drop, r_dk, r_asg, r_gk, r_gk2, gNm, r_tp, r_gs, r_qk, r_gs0, r_froz, r_frk, r_cmk, r_setI, r_stk, r_stk2, r_sti, r_pl, r_stj, r_aug, r_aug1, r_aug2, r_aug3, r_opN, r_par, r_prk, r_callN, r_tupRg, and_self, ixN0, ixN1, ixN2, r_peek, r_pk, r_pkI, r_pkB, r_pkS, r_pkN, r_tpeek, r_bk1, r_bk2, r_frz, r_fzk, r_own, owk, r_frkK, r_ownK, r_ixEd, r_ixEt, r_ixEl, r_inK, r_ninK, r_mk4, r_mk3, r_met, r_mk2, r_callM, r_mk2b, r_callM1, r_lenIs, r_callF, r_mat, r_mtk, r_mEnd, r_mCase, r_for, r_lk, r_items, r_itL, r_itT, r_rng, r_enum, r_zipM, zipM_ok, r_star, starL_ok, starT_ok, enumL_ok, enumT_ok, for_nil, r_lc, r_lck2, lc_nil, r_outM, r_outMn, r_outM1, r_outM1n, r_outD, r_outDf, r_outDn, r_outF, ixL0, ixL1, ixL2, ixT0, ixT1, ixT2, addI_ok, subI_ok, gtI_ok, geI_ok, leI_ok, ltI_ok, lenL_ok, lenT_ok, abs_ok, intB_ok, List.getElem?_cons_zero, List.getElem?_cons_succ, List.length_cons, List.length_nil, List.set_cons_zero, List.set_cons_succ, List.map_cons, List.map_nil, List.cons_append, List.nil_append, List.replicate_succ, List.replicate_zero, Nat.reduceAdd, Nat.reduceSub, Nat.reduceLT, Nat.reduceEqDiff, Option.bind_some, Option.bind_none, Option.map_some, Option.map_none, if_true, if_false, ite_true, ite_false, ↓reduceIte, Bool.not_true, Bool.not_false, hp, s0, eq_nilL, he, t, e1, eqI_ok, show ((0 : Int) == 0) = true from rfl, ha, s1]
        rfl
      · have hr' : (r == 0) = false := by simpa using hr
        obtain ⟨ms2, j, hj, e2, P2⟩ := outB (k + 1) ms1 P1 (by omega) (by simp)
        refine ⟨ms2, _, _, ?_, P2, .inr ⟨j, hj, rfl, rfl⟩⟩
        rw [← e2]
        unfold b2__law_world
        simp -implicitDefEqProofs only [eq_self, r_thn, r_tk, r_tk0, r_ret, r_lift, r_lift0, r_var, r_vk, r_bin, r_un, r_nil, r_cons, r_tup, r_of, r_call, r_tst, r_kt, r_ikT, r_ikF, r_ite, r_if, r_ife, r_and, r_or, r_not, r_vand, r_vor, r_vnot, r_chain, r_hkT, r_hkF, r_part, r_ok, r_sl, r_seq, r_skN, r_skR, r_skF, r_skB, r_skC, r_next, r_retS, r_rk, r_retF, r_rfk, r_drop, r_dk, r_asg, r_gk, r_gk2, gNm, r_tp, r_gs, r_qk, r_gs0, r_froz, r_frk, r_cmk, r_setI, r_stk, r_stk2, r_sti, r_pl, r_stj, r_aug, r_aug1, r_aug2, r_aug3, r_opN, r_par, r_prk, r_callN, r_tupRg, and_self, ixN0, ixN1, ixN2, r_peek, r_pk, r_pkI, r_pkB, r_pkS, r_pkN, r_tpeek, r_bk1, r_bk2, r_frz, r_fzk, r_own, owk, r_frkK, r_ownK, r_ixEd, r_ixEt, r_ixEl, r_inK, r_ninK, r_mk4, r_mk3, r_met, r_mk2, r_callM, r_mk2b, r_callM1, r_lenIs, r_callF, r_mat, r_mtk, r_mEnd, r_mCase, r_for, r_lk, r_items, r_itL, r_itT, r_rng, r_enum, r_zipM, zipM_ok, r_star, starL_ok, starT_ok, enumL_ok, enumT_ok, for_nil, r_lc, r_lck2, lc_nil, r_outM, r_outMn, r_outM1, r_outM1n, r_outD, r_outDf, r_outDn, r_outF, ixL0, ixL1, ixL2, ixT0, ixT1, ixT2, addI_ok, subI_ok, gtI_ok, geI_ok, leI_ok, ltI_ok, lenL_ok, lenT_ok, abs_ok, intB_ok, List.getElem?_cons_zero, List.getElem?_cons_succ, List.length_cons, List.length_nil, List.set_cons_zero, List.set_cons_succ, List.map_cons, List.map_nil, List.cons_append, List.nil_append, List.replicate_succ, List.replicate_zero, Nat.reduceAdd, Nat.reduceSub, Nat.reduceLT, Nat.reduceEqDiff, Option.bind_some, Option.bind_none, Option.map_some, Option.map_none, if_true, if_false, ite_true, ite_false, ↓reduceIte, Bool.not_true, Bool.not_false, hp, s0, eq_nilL, he, t, e1, eqI_ok, hr']
    · have t : decide (0 < o) = false := decide_eq_false ho0
      obtain ⟨ms2, j, hj, e2, P2⟩ := outB k ms P (by omega) (by simp)
      refine ⟨ms2, _, _, ?_, P2.wide (by omega), .inr ⟨j, hj, rfl, rfl⟩⟩
      rw [← e2]
      unfold b2__law_world
      simp -implicitDefEqProofs only [eq_self, r_thn, r_tk, r_tk0, r_ret, r_lift, r_lift0, r_var, r_vk, r_bin, r_un, r_nil, r_cons, r_tup, r_of, r_call, r_tst, r_kt, r_ikT, r_ikF, r_ite, r_if, r_ife, r_and, r_or, r_not, r_vand, r_vor, r_vnot, r_chain, r_hkT, r_hkF, r_part, r_ok, r_sl, r_seq, r_skN, r_skR, r_skF, r_skB, r_skC, r_next, r_retS, r_rk, r_retF, r_rfk, r_drop, r_dk, r_asg, r_gk, r_gk2, gNm, r_tp, r_gs, r_qk, r_gs0, r_froz, r_frk, r_cmk, r_setI, r_stk, r_stk2, r_sti, r_pl, r_stj, r_aug, r_aug1, r_aug2, r_aug3, r_opN, r_par, r_prk, r_callN, r_tupRg, and_self, ixN0, ixN1, ixN2, r_peek, r_pk, r_pkI, r_pkB, r_pkS, r_pkN, r_tpeek, r_bk1, r_bk2, r_frz, r_fzk, r_own, owk, r_frkK, r_ownK, r_ixEd, r_ixEt, r_ixEl, r_inK, r_ninK, r_mk4, r_mk3, r_met, r_mk2, r_callM, r_mk2b, r_callM1, r_lenIs, r_callF, r_mat, r_mtk, r_mEnd, r_mCase, r_for, r_lk, r_items, r_itL, r_itT, r_rng, r_enum, r_zipM, zipM_ok, r_star, starL_ok, starT_ok, enumL_ok, enumT_ok, for_nil, r_lc, r_lck2, lc_nil, r_outM, r_outMn, r_outM1, r_outM1n, r_outD, r_outDf, r_outDn, r_outF, ixL0, ixL1, ixL2, ixT0, ixT1, ixT2, addI_ok, subI_ok, gtI_ok, geI_ok, leI_ok, ltI_ok, lenL_ok, lenT_ok, abs_ok, intB_ok, List.getElem?_cons_zero, List.getElem?_cons_succ, List.length_cons, List.length_nil, List.set_cons_zero, List.set_cons_succ, List.map_cons, List.map_nil, List.cons_append, List.nil_append, List.replicate_succ, List.replicate_zero, Nat.reduceAdd, Nat.reduceSub, Nat.reduceLT, Nat.reduceEqDiff, Option.bind_some, Option.bind_none, Option.map_some, Option.map_none, if_true, if_false, ite_true, ite_false, ↓reduceIte, Bool.not_true, Bool.not_false, hp, s0, eq_nilL, he, t]
end Lw

set_option Elab.async false
set_option linter.all false
set_option maxRecDepth 100000
set_option maxHeartbeats 4000000
namespace Lw
open PySem PySem.Spec PyProof.Rows L2 Tw
theorem wh_step {ft : FE Bool} {fb : FS} {n : Nat} {ρ ρ1 ρ2 : Rho} (h1 : ft ρ = some (true, ρ1)) (h2 : fb ρ1 = some (.nx ρ2)) : whF ft fb (n + 1) ρ = whF ft fb n ρ2 := by
  show (ft ρ).bind _ = _
  rw [h1]
  show (fb ρ1).bind _ = _
  rw [h2]
  rfl
theorem wh_stop {ft : FE Bool} {fb : FS} {n : Nat} {ρ ρ1 : Rho} (h1 : ft ρ = some (false, ρ1)) : whF ft fb (n + 1) ρ = some (.nx ρ1) := by
  show (ft ρ).bind _ = _
  rw [h1]
  rfl
theorem erase_perm {α : Type} : ∀ (R : List α) (j : Nat) (hj : j < R.length), R.Perm (R[j] :: R.eraseIdx j)
  | x :: R, 0, _ => .refl _
  | x :: R, j + 1, hj => ((erase_perm R j (by simpa using hj)).cons x).trans (.swap _ _ _)
/-- the hands of drawn ways -/
def flatW (W : List (Int × Option Int)) : List Int := W.flatMap fun w => w.1 :: w.2.toList
def ordW (W : List (Int × Option Int)) : Prop := ∀ w ∈ W, ∀ g, w.2 = some g → w.1 < g
theorem world_while {most many kd pairs kinds : PyData} {o : Int} {s6 s9 s12 s13 s14 : Sl} (ho : o < 100) : ∀ (n k : Nat) (L : List Int) (ms : List PyData) (W : List PyData) (s11 : Sl), L.length < n → L.length < 1000 → L.Pairwise (· < ·) → Pot k ms → k + 2 * n < 2 ^ 70 → W.length + n < 80000 → (s11 = .un ∨ ∃ d, s11 = .d d) →
    ∃ ms' : List PyData, ∃ V s11', whF (tPeek 10 (fTst (fBin neD (fVar 10) (fOf (thnE fNil fun xs => liftO (if Tw.sizeOk xs.length = true then some xs else none)))))) b2__law_world n
      [.m ms, .d most, .d many, .d (.int o), .d pairs, .d kinds, s6, .m W, .d kd, s9, .m (intsD L), s11, s12, s13, s14] =
      some (.nx [.m ms', .d most, .d many, .d (.int o), .d pairs, .d kinds, s6, .m (.l (W ++ V.map wayD)), .d kd, s9, .m (.l []), s11', s12, s13, s14]) ∧
      Pot (k + 2 * n) ms' ∧ (flatW V).Perm L ∧ ordW V ∧ V.length ≤ L.length ∧ (s11' = .un ∨ ∃ d, s11' = .d d) := by
  have s0 : Tw.sizeOk 0 = true := rfl
  have tst : ∀ (L : List Int) (ms W : List PyData) (s11 : Sl), (tPeek 10 (fTst (fBin neD (fVar 10) (fOf (thnE fNil fun xs => liftO (if Tw.sizeOk xs.length = true then some xs else none))))))
      [.m ms, .d most, .d many, .d (.int o), .d pairs, .d kinds, s6, .m W, .d kd, s9, .m (intsD L), s11, s12, s13, s14] =
      some (!(intsD L).isEmpty, [.m ms, .d most, .d many, .d (.int o), .d pairs, .d kinds, s6, .m W, .d kd, s9, .m (intsD L), s11, s12, s13, s14]) := fun L ms W s11 => by
    simp -implicitDefEqProofs only [eq_self, r_thn, r_tk, r_tk0, r_ret, r_lift, r_lift0, r_var, r_vk, r_bin, r_un, r_nil, r_cons, r_tup, r_of, r_call, r_tst, r_kt, r_ikT, r_ikF, r_ite, r_if, r_ife, r_and, r_or, r_not, r_vand, r_vor, r_vnot, r_chain, r_hkT, r_hkF, r_part, r_ok, r_sl, r_seq, r_skN, r_skR, r_skF, r_skB, r_skC, r_next, r_retS, r_rk, r_retF, r_rfk, r_drop, r_dk, r_asg, r_gk, r_gk2, gNm, r_tp, r_gs, r_qk, r_gs0, r_froz, r_frk, r_cmk, r_setI, r_stk, r_stk2, r_sti, r_pl, r_stj, r_aug, r_aug1, r_aug2, r_aug3, r_opN, r_par, r_prk, r_callN, r_tupRg, and_self, ixN0, ixN1, ixN2, r_peek, r_pk, r_pkI, r_pkB, r_pkS, r_pkN, r_tpeek, r_bk1, r_bk2, r_frz, r_fzk, r_own, owk, r_frkK, r_ownK, r_ixEd, r_ixEt, r_ixEl, r_inK, r_ninK, r_mk4, r_mk3, r_met, r_mk2, r_callM, r_mk2b, r_callM1, r_lenIs, r_callF, r_mat, r_mtk, r_mEnd, r_mCase, r_for, r_lk, r_items, r_itL, r_itT, r_rng, r_enum, r_zipM, zipM_ok, r_star, starL_ok, starT_ok, enumL_ok, enumT_ok, for_nil, r_lc, r_lck2, lc_nil, r_outM, r_outMn, r_outM1, r_outM1n, r_outD, r_outDf, r_outDn, r_outF, ixL0, ixL1, ixL2, ixT0, ixT1, ixT2, addI_ok, subI_ok, gtI_ok, geI_ok, leI_ok, ltI_ok, lenL_ok, lenT_ok, abs_ok, intB_ok, List.getElem?_cons_zero, List.getElem?_cons_succ, List.length_cons, List.length_nil, List.set_cons_zero, List.set_cons_succ, List.map_cons, List.map_nil, List.cons_append, List.nil_append, List.replicate_succ, List.replicate_zero, Nat.reduceAdd, Nat.reduceSub, Nat.reduceLT, Nat.reduceEqDiff, Option.bind_some, Option.bind_none, Option.map_some, Option.map_none, if_true, if_false, ite_true, ite_false, ↓reduceIte, Bool.not_true, Bool.not_false, s0, ne_nilL]
  intro n
  induction n with
  | zero => intro k L ms W s11 h; omega
  | succ n ih =>
    intro k L ms W s11 hn hL hp P hk hW h11
    cases L with
    | nil =>
      refine ⟨ms, [], s11, ?_, P.wide (by omega), .nil, fun w hw => (nomatch hw), Nat.le_refl _, h11⟩
      rw [wh_stop (tst [] ms W s11)]
      simp [intsD]
    | cons h R =>
      obtain ⟨ms1, w, R', e1, P1, hw⟩ := world_turn (most := most) (many := many) (kd := kd) (pairs := pairs) (kinds := kinds) (s6 := s6) (s9 := s9) (s11 := s11) (s12 := s12) (s13 := s13) (s14 := s14) (W := W) (h := h) (R := R) P (by omega) ho (by omega) (by rw [List.length_cons] at hL; omega)
      have facts : R'.length ≤ R.length ∧ R'.Pairwise (· < ·) ∧ (h :: R).Perm (w.1 :: w.2.toList ++ R') ∧ (∀ g, w.2 = some g → w.1 < g) := by
        rcases hw with ⟨rfl, rfl⟩ | ⟨j, hj, rfl, rfl⟩
        · exact ⟨Nat.le_refl _, hp.of_cons, .refl _, fun g e => by cases e⟩
        · refine ⟨(List.eraseIdx_sublist R j).length_le, hp.of_cons.sublist (List.eraseIdx_sublist R j), ?_, fun g e => ?_⟩
          · exact List.Perm.cons h (erase_perm R j hj)
          · cases e
            exact (List.pairwise_cons.mp hp).1 _ (List.getElem_mem hj)
      obtain ⟨f1, f2, f3, f4⟩ := facts
      obtain ⟨ms2, V, s11', e2, P2, g1, g2, g3, g4⟩ := ih (k + 2) R' ms1 (W ++ [wayD w]) (.d (.int h)) (by rw [List.length_cons] at hn; omega) (by rw [List.length_cons] at hL; omega) f2 P1 (by omega) (by rw [List.length_append, List.length_singleton]; omega) (.inr ⟨_, rfl⟩)
      refine ⟨ms2, w :: V, s11', ?_, P2.wide (by omega), ?_, ?_, ?_, g4⟩
      · rw [wh_step (tst (h :: R) ms W s11) e1, e2, List.map_cons, List.append_assoc]
        rfl
      · refine List.Perm.trans ?_ f3.symm
        show (w.1 :: w.2.toList ++ flatW V).Perm _
        exact List.Perm.append_left _ g1
      · intro x hx
        rcases List.mem_cons.mp hx with rfl | hx
        · exact f4
        · exact g2 x hx
      · rw [List.length_cons, List.length_cons]
        omega
end Lw

set_option Elab.async false
set_option linter.all false
set_option maxRecDepth 100000
set_option maxHeartbeats 4000000
namespace Lw
open PySem PySem.Spec PyProof.Rows L2 Tw
def boolsD (K : List Bool) : List PyData := K.map PyData.bool
theorem boolsD_get {K : List Bool} {j : Nat} (h : j < K.length) : (boolsD K)[j]? = some (.bool K[j]) := by
  unfold boolsD
  rw [List.getElem?_map, List.getElem?_eq_getElem h]
  rfl
/-- the hands of one kind, rising -/
def handsOf (K : List Bool) (b : Bool) : List Int := ((List.range K.length).filter fun i : Nat => K[i]? == some b).map fun i : Nat => (i : Int)
theorem eqB_ok {a b : Bool} : eqD (.bool a) (.bool b) = some (.bool (a == b)) := rfl
theorem hands_rise (K : List Bool) (b : Bool) : (handsOf K b).Pairwise (· < ·) := by
  unfold handsOf
  refine List.Pairwise.map _ (fun a c h => ?_) (List.Pairwise.filter _ List.pairwise_lt_range)
  exact_mod_cast h
theorem hands_len (K : List Bool) (b : Bool) : (handsOf K b).length ≤ K.length := by
  unfold handsOf
  rw [List.length_map]
  refine Nat.le_trans (List.length_filter_le _ _) (Nat.le_of_eq List.length_range)
theorem rng_ok {n : Nat} (h : n < 2 ^ 60) : rng1 [.int (n : Int)] = some (ups 0 n) := by
  unfold rng1
  dsimp only
  rw [if_pos (by omega)]
  rfl
theorem ups_len (n : Nat) : (ups 0 n).length = n := by
  unfold ups
  rw [List.length_map, List.length_range]
theorem ups_eq (n : Nat) : ups 0 n = (List.range n).map fun i => .int (i : Int) := by
  unfold ups
  refine List.map_congr_left fun i _ => ?_
  rw [Int.zero_add]
def pickG (K : List Bool) (b : Bool) : PyData → Option PyData
  | .int i => if K[i.toNat]? = some b then some (.int i) else none
  | _ => none
theorem pick_all (K : List Bool) (b : Bool) : (ups 0 K.length).filterMap (pickG K b) = intsD (handsOf K b) := by
  rw [ups_eq]
  unfold handsOf intsD
  rw [List.map_map]
  generalize List.range K.length = R
  induction R with
  | nil => rfl
  | cons i R ih =>
    rw [List.map_cons]
    have p : pickG K b (.int (i : Int)) = if K[i]? = some b then some (.int (i : Int)) else none := rfl
    by_cases h : K[i]? = some b
    · have f : (fun i : Nat => K[i]? == some b) i = true := by
        show (K[i]? == some b) = true
        rw [h]
        exact beq_self_eq_true _
      rw [List.filterMap_cons_some (b := .int (i : Int)) (by rw [p, if_pos h]), List.filter_cons_of_pos (p := fun i : Nat => K[i]? == some b) f, List.map_cons, ih]
      rfl
    · have f : ¬ (fun i : Nat => K[i]? == some b) i = true := fun z => h (eq_of_beq z)
      rw [List.filterMap_cons_none (by rw [p, if_neg h]), List.filter_cons_of_neg (p := fun i : Nat => K[i]? == some b) f, ih]
def keepSl : Sl → Sl
  | .d d => .d d
  | _ => .un
theorem world_kind {k m : Nat} {ms : List PyData} {most pairs : PyData} {o : Int} {K : List Bool} {b : Bool} {s6 s9 s10 s11 s12 s13 s14 : Sl} {W : List PyData} (ho : o < 100) (hK : K.length = 4 * m) (hm : m ≤ 60) (P : Pot k ms) (hk : k < 2 ^ 60) (hW : W.length < 70000) (h11 : s11 = .un ∨ ∃ d, s11 = .d d) :
    ∃ ms' : List PyData, ∃ V s11', b3__law_world [.m ms, .d most, .d (.int m), .d (.int o), .d pairs, .d (.list (boolsD K)), s6, .m W, .d (.bool b), s9, s10, s11, s12, s13, s14] =
      some (.nx [.m ms', .d most, .d (.int m), .d (.int o), .d pairs, .d (.list (boolsD K)), s6, .m (.l (W ++ V.map wayD)), .d (.bool b), s9, .m (.l []), s11', s12, s13, s14]) ∧
      Pot (k + 2000) ms' ∧ (flatW V).Perm (handsOf K b) ∧ ordW V ∧ V.length ≤ K.length ∧ (s11' = .un ∨ ∃ d, s11' = .d d) := by
  have hl : (handsOf K b).length ≤ 240 := by
    have := hands_len K b
    omega
  obtain ⟨ms', V, s11', e, P', g1, g2, g3, g4⟩ := world_while (most := most) (many := .int m) (kd := .bool b) (pairs := pairs) (kinds := .list (boolsD K)) (s6 := s6) (s9 := s9) (s12 := s12) (s13 := s13) (s14 := s14) ho 1000 k (handsOf K b) ms W
    (keepSl s11) (by omega) (by omega) (hands_rise K b) P (by omega) (by omega) (by rcases h11 with rfl | ⟨d, rfl⟩; exact .inl rfl; exact .inr ⟨d, rfl⟩)
  have h4 := mul_ok (i := 4) (j := (m : Int)) 3 7 (by decide) (by decide) (by decide) (by decide) (by omega) (by omega) (by decide)
  have e4 : (4 : Int) * (m : Int) = ((4 * m : Nat) : Int) := by omega
  rw [e4] at h4
  have hr := rng_ok (n := 4 * m) (by omega)
  have sz : Tw.sizeOk (ups 0 (4 * m)).length = true := by
    rw [ups_len]
    exact decide_eq_true (by omega)
  have lc : lcF (gNm 11) (fTst (fBin eqD (fBin ixD (fVar 5) (fVar 11)) (fVar 8))) (fVar 11) [11] (ups 0 (4 * m)) [.m ms, .d most, .d (.int m), .d (.int o), .d pairs, .d (.list (boolsD K)), s6, .m W, .d (.bool b), s9, s10, .un, s12, s13, s14] =
      some (intsD (handsOf K b), [.m ms, .d most, .d (.int m), .d (.int o), .d pairs, .d (.list (boolsD K)), s6, .m W, .d (.bool b), s9, s10, .un, s12, s13, s14]) := by
    rw [← hK, ← pick_all]
    refine lc_map (pickG K b) _ fun d hd => ?_
    rw [ups_eq] at hd
    obtain ⟨i, hi, rfl⟩ := List.mem_map.mp hd
    have hi : i < K.length := List.mem_range.mp hi
    have ix : ixD (.list (boolsD K)) (.int (i : Int)) = some (.bool K[i]) := ixLn (boolsD_get hi)
    have pg : pickG K b (.int (i : Int)) = if K[i] = b then some (.int (i : Int)) else none := by
      show (if K[i]? = some b then _ else _) = _
      rw [List.getElem?_eq_getElem hi]
      by_cases h : K[i] = b
      · rw [if_pos (by rw [h]), if_pos h]
      · rw [if_neg (fun z => h (Option.some.inj z)), if_neg h]
    have ps : (pickG K b (.int (i : Int))).isSome = (K[i] == b) := by
      rw [pg]
      by_cases h : K[i] = b
      · rw [if_pos h, h]
        simp
      · rw [if_neg h]
        simp [h]
    refine ⟨[.m ms, .d most, .d (.int m), .d (.int o), .d pairs, .d (.list (boolsD K)), s6, .m W, .d (.bool b), s9, s10, .d (.int (i : Int)), s12, s13, s14], [.m ms, .d most, .d (.int m), .d (.int o), .d pairs, .d (.list (boolsD K)), s6, .m W, .d (.bool b), s9, s10, .d (.int (i : Int)), s12, s13, s14], rfl, ?_, fun _ => rfl, fun e he => ?_⟩
    · simp -implicitDefEqProofs only [eq_self, r_thn, r_tk, r_tk0, r_ret, r_lift, r_lift0, r_var, r_vk, r_bin, r_un, r_nil, r_cons, r_tup, r_of, r_call, r_tst, r_kt, r_ikT, r_ikF, r_ite, r_if, r_ife, r_and, r_or, r_not, r_vand, r_vor, r_vnot, r_chain, r_hkT, r_hkF, r_part, r_ok, r_sl, r_seq, r_skN, r_skR, r_skF, r_skB, r_skC, r_next, r_retS, r_rk, r_retF, r_rfk, r_drop, r_dk, r_asg, r_gk, r_gk2, gNm, r_tp, r_gs, r_qk, r_gs0, r_froz, r_frk, r_cmk, r_setI, r_stk, r_stk2, r_sti, r_pl, r_stj, r_aug, r_aug1, r_aug2, r_aug3, r_opN, r_par, r_prk, r_callN, r_tupRg, and_self, ixN0, ixN1, ixN2, r_peek, r_pk, r_pkI, r_pkB, r_pkS, r_pkN, r_tpeek, r_bk1, r_bk2, r_frz, r_fzk, r_own, owk, r_frkK, r_ownK, r_ixEd, r_ixEt, r_ixEl, r_inK, r_ninK, r_mk4, r_mk3, r_met, r_mk2, r_callM, r_mk2b, r_callM1, r_lenIs, r_callF, r_mat, r_mtk, r_mEnd, r_mCase, r_for, r_lk, r_items, r_itL, r_itT, r_rng, r_enum, r_zipM, zipM_ok, r_star, starL_ok, starT_ok, enumL_ok, enumT_ok, for_nil, r_lc, r_lck2, lc_nil, r_outM, r_outMn, r_outM1, r_outM1n, r_outD, r_outDf, r_outDn, r_outF, ixL0, ixL1, ixL2, ixT0, ixT1, ixT2, addI_ok, subI_ok, gtI_ok, geI_ok, leI_ok, ltI_ok, lenL_ok, lenT_ok, abs_ok, intB_ok, List.getElem?_cons_zero, List.getElem?_cons_succ, List.length_cons, List.length_nil, List.set_cons_zero, List.set_cons_succ, List.map_cons, List.map_nil, List.cons_append, List.nil_append, List.replicate_succ, List.replicate_zero, Nat.reduceAdd, Nat.reduceSub, Nat.reduceLT, Nat.reduceEqDiff, Option.bind_some, Option.bind_none, Option.map_some, Option.map_none, if_true, if_false, ite_true, ite_false, ↓reduceIte, Bool.not_true, Bool.not_false, ix, eqB_ok]
      rw [ps]
    · rw [pg] at he
      by_cases h : K[i] = b
      · rw [if_pos h] at he
        cases he
        refine ⟨[.m ms, .d most, .d (.int m), .d (.int o), .d pairs, .d (.list (boolsD K)), s6, .m W, .d (.bool b), s9, s10, .d (.int (i : Int)), s12, s13, s14], ?_, rfl⟩
        simp -implicitDefEqProofs only [eq_self, r_thn, r_tk, r_tk0, r_ret, r_lift, r_lift0, r_var, r_vk, r_bin, r_un, r_nil, r_cons, r_tup, r_of, r_call, r_tst, r_kt, r_ikT, r_ikF, r_ite, r_if, r_ife, r_and, r_or, r_not, r_vand, r_vor, r_vnot, r_chain, r_hkT, r_hkF, r_part, r_ok, r_sl, r_seq, r_skN, r_skR, r_skF, r_skB, r_skC, r_next, r_retS, r_rk, r_retF, r_rfk, r_drop, r_dk, r_asg, r_gk, r_gk2, gNm, r_tp, r_gs, r_qk, r_gs0, r_froz, r_frk, r_cmk, r_setI, r_stk, r_stk2, r_sti, r_pl, r_stj, r_aug, r_aug1, r_aug2, r_aug3, r_opN, r_par, r_prk, r_callN, r_tupRg, and_self, ixN0, ixN1, ixN2, r_peek, r_pk, r_pkI, r_pkB, r_pkS, r_pkN, r_tpeek, r_bk1, r_bk2, r_frz, r_fzk, r_own, owk, r_frkK, r_ownK, r_ixEd, r_ixEt, r_ixEl, r_inK, r_ninK, r_mk4, r_mk3, r_met, r_mk2, r_callM, r_mk2b, r_callM1, r_lenIs, r_callF, r_mat, r_mtk, r_mEnd, r_mCase, r_for, r_lk, r_items, r_itL, r_itT, r_rng, r_enum, r_zipM, zipM_ok, r_star, starL_ok, starT_ok, enumL_ok, enumT_ok, for_nil, r_lc, r_lck2, lc_nil, r_outM, r_outMn, r_outM1, r_outM1n, r_outD, r_outDf, r_outDn, r_outF, ixL0, ixL1, ixL2, ixT0, ixT1, ixT2, addI_ok, subI_ok, gtI_ok, geI_ok, leI_ok, ltI_ok, lenL_ok, lenT_ok, abs_ok, intB_ok, List.getElem?_cons_zero, List.getElem?_cons_succ, List.length_cons, List.length_nil, List.set_cons_zero, List.set_cons_succ, List.map_cons, List.map_nil, List.cons_append, List.nil_append, List.replicate_succ, List.replicate_zero, Nat.reduceAdd, Nat.reduceSub, Nat.reduceLT, Nat.reduceEqDiff, Option.bind_some, Option.bind_none, Option.map_some, Option.map_none, if_true, if_false, ite_true, ite_false, ↓reduceIte, Bool.not_true, Bool.not_false]
      · rw [if_neg h] at he
        cases he
  refine ⟨ms', V, s11', ?_, P'.wide (by omega), g1, g2, by have := hands_len K b; omega, g4⟩
  unfold b3__law_world
  rcases h11 with rfl | ⟨d, rfl⟩
  · simp -implicitDefEqProofs only [eq_self, r_thn, r_tk, r_tk0, r_ret, r_lift, r_lift0, r_var, r_vk, r_bin, r_un, r_nil, r_cons, r_tup, r_of, r_call, r_tst, r_kt, r_ikT, r_ikF, r_ite, r_if, r_ife, r_and, r_or, r_not, r_vand, r_vor, r_vnot, r_chain, r_hkT, r_hkF, r_part, r_ok, r_sl, r_seq, r_skN, r_skR, r_skF, r_skB, r_skC, r_next, r_retS, r_rk, r_retF, r_rfk, r_drop, r_dk, r_asg, r_gk, r_gk2, gNm, r_tp, r_gs, r_qk, r_gs0, r_froz, r_frk, r_cmk, r_setI, r_stk, r_stk2, r_sti, r_pl, r_stj, r_aug, r_aug1, r_aug2, r_aug3, r_opN, r_par, r_prk, r_callN, r_tupRg, and_self, ixN0, ixN1, ixN2, r_peek, r_pk, r_pkI, r_pkB, r_pkS, r_pkN, r_tpeek, r_bk1, r_bk2, r_frz, r_fzk, r_own, owk, r_frkK, r_ownK, r_ixEd, r_ixEt, r_ixEl, r_inK, r_ninK, r_mk4, r_mk3, r_met, r_mk2, r_callM, r_mk2b, r_callM1, r_lenIs, r_callF, r_mat, r_mtk, r_mEnd, r_mCase, r_for, r_lk, r_items, r_itL, r_itT, r_rng, r_enum, r_zipM, zipM_ok, r_star, starL_ok, starT_ok, enumL_ok, enumT_ok, for_nil, r_lc, r_lck2, lc_nil, r_outM, r_outMn, r_outM1, r_outM1n, r_outD, r_outDf, r_outDn, r_outF, ixL0, ixL1, ixL2, ixT0, ixT1, ixT2, addI_ok, subI_ok, gtI_ok, geI_ok, leI_ok, ltI_ok, lenL_ok, lenT_ok, abs_ok, intB_ok, List.getElem?_cons_zero, List.getElem?_cons_succ, List.length_cons, List.length_nil, List.set_cons_zero, List.set_cons_succ, List.map_cons, List.map_nil, List.cons_append, List.nil_append, List.replicate_succ, List.replicate_zero, Nat.reduceAdd, Nat.reduceSub, Nat.reduceLT, Nat.reduceEqDiff, Option.bind_some, Option.bind_none, Option.map_some, Option.map_none, if_true, if_false, ite_true, ite_false, ↓reduceIte, Bool.not_true, Bool.not_false, h4, hr, r_lck sz, wipeR, lc, backR]
    exact e
  · simp -implicitDefEqProofs only [eq_self, r_thn, r_tk, r_tk0, r_ret, r_lift, r_lift0, r_var, r_vk, r_bin, r_un, r_nil, r_cons, r_tup, r_of, r_call, r_tst, r_kt, r_ikT, r_ikF, r_ite, r_if, r_ife, r_and, r_or, r_not, r_vand, r_vor, r_vnot, r_chain, r_hkT, r_hkF, r_part, r_ok, r_sl, r_seq, r_skN, r_skR, r_skF, r_skB, r_skC, r_next, r_retS, r_rk, r_retF, r_rfk, r_drop, r_dk, r_asg, r_gk, r_gk2, gNm, r_tp, r_gs, r_qk, r_gs0, r_froz, r_frk, r_cmk, r_setI, r_stk, r_stk2, r_sti, r_pl, r_stj, r_aug, r_aug1, r_aug2, r_aug3, r_opN, r_par, r_prk, r_callN, r_tupRg, and_self, ixN0, ixN1, ixN2, r_peek, r_pk, r_pkI, r_pkB, r_pkS, r_pkN, r_tpeek, r_bk1, r_bk2, r_frz, r_fzk, r_own, owk, r_frkK, r_ownK, r_ixEd, r_ixEt, r_ixEl, r_inK, r_ninK, r_mk4, r_mk3, r_met, r_mk2, r_callM, r_mk2b, r_callM1, r_lenIs, r_callF, r_mat, r_mtk, r_mEnd, r_mCase, r_for, r_lk, r_items, r_itL, r_itT, r_rng, r_enum, r_zipM, zipM_ok, r_star, starL_ok, starT_ok, enumL_ok, enumT_ok, for_nil, r_lc, r_lck2, lc_nil, r_outM, r_outMn, r_outM1, r_outM1n, r_outD, r_outDf, r_outDn, r_outF, ixL0, ixL1, ixL2, ixT0, ixT1, ixT2, addI_ok, subI_ok, gtI_ok, geI_ok, leI_ok, ltI_ok, lenL_ok, lenT_ok, abs_ok, intB_ok, List.getElem?_cons_zero, List.getElem?_cons_succ, List.length_cons, List.length_nil, List.set_cons_zero, List.set_cons_succ, List.map_cons, List.map_nil, List.cons_append, List.nil_append, List.replicate_succ, List.replicate_zero, Nat.reduceAdd, Nat.reduceSub, Nat.reduceLT, Nat.reduceEqDiff, Option.bind_some, Option.bind_none, Option.map_some, Option.map_none, if_true, if_false, ite_true, ite_false, ↓reduceIte, Bool.not_true, Bool.not_false, h4, hr, r_lck sz, wipeR, lc, backR]
    exact e
end Lw

set_option Elab.async false
set_option linter.all false
set_option maxRecDepth 100000
set_option maxHeartbeats 4000000
namespace Lw
open PySem PySem.Spec PyProof.Rows L2 Tw
def pairs6 : List PyData := [.tuple [.int 0, .int 1], .tuple [.int 0, .int 2], .tuple [.int 0, .int 3], .tuple [.int 1, .int 2], .tuple [.int 1, .int 3], .tuple [.int 2, .int 3]]
def six : List (List Bool) := [[true, true, false, false], [true, false, true, false], [true, false, false, true], [false, true, true, false], [false, true, false, true], [false, false, true, true]]
theorem boolsD_app (K B : List Bool) : boolsD K ++ boolsD B = boolsD (K ++ B) := (List.map_append ..).symm
theorem boolsD_len (K : List Bool) : (boolsD K).length = K.length := List.length_map _
theorem ext_ok {ms es : List PyData} (h : ms.length + es.length ≤ 100000) : extG ms [.list es] = some (.none, ms ++ es) := if_pos (decide_eq_true h)
theorem post_row {o ms most m sx : Sl} {K : List PyData} {s6 s7 s8 s10 s11 s13 s14 : Sl} {p : List PyData} {B : List Bool}
    (h : (List.range 4).map (fun t => inD false (.int (t : Nat)) (.tuple p)) = B.map fun b => some (.bool b)) (hB : B.length = 4) :
    lcF (gNm 12) (Tw.ret true) (fBin (inD false) (fVar 12) (fVar 9)) [12] (ups 0 4) [ms, most, m, o, sx, .m K, s6, s7, s8, .d (.tuple p), s10, s11, .un, s13, s14] =
      some (boolsD B, [ms, most, m, o, sx, .m K, s6, s7, s8, .d (.tuple p), s10, s11, .un, s13, s14]) := by
  match B, hB with
  | [b0, b1, b2, b3], _ =>
    have q : [inD false (.int 0) (.tuple p), inD false (.int 1) (.tuple p), inD false (.int 2) (.tuple p), inD false (.int 3) (.tuple p)] = [some (.bool b0), some (.bool b1), some (.bool b2), some (.bool b3)] := h
    simp only [List.cons.injEq, and_true] at q
    obtain ⟨q0, q1, q2, q3⟩ := q
    have turn : ∀ (t : Int) (b : Bool) (l : List PyData), inD false (.int t) (.tuple p) = some (.bool b) → lcF (gNm 12) (Tw.ret true) (fBin (inD false) (fVar 12) (fVar 9)) [12] (.int t :: l) [ms, most, m, o, sx, .m K, s6, s7, s8, .d (.tuple p), s10, s11, .un, s13, s14] =
        (lcF (gNm 12) (Tw.ret true) (fBin (inD false) (fVar 12) (fVar 9)) [12] l [ms, most, m, o, sx, .m K, s6, s7, s8, .d (.tuple p), s10, s11, .un, s13, s14]).map fun r => (.bool b :: r.1, r.2) := fun t b l e => by
      have e1 : fBin (inD false) (fVar 12) (fVar 9) [ms, most, m, o, sx, .m K, s6, s7, s8, .d (.tuple p), s10, s11, .d (.int t), s13, s14] = some (.bool b, [ms, most, m, o, sx, .m K, s6, s7, s8, .d (.tuple p), s10, s11, .d (.int t), s13, s14]) := by
        simp -implicitDefEqProofs only [eq_self, r_thn, r_tk, r_tk0, r_ret, r_lift, r_lift0, r_var, r_vk, r_bin, r_un, r_nil, r_cons, r_tup, r_of, r_call, r_tst, r_kt, r_ikT, r_ikF, r_ite, r_if, r_ife, r_and, r_or, r_not, r_vand, r_vor, r_vnot, r_chain, r_hkT, r_hkF, r_part, r_ok, r_sl, r_seq, r_skN, r_skR, r_skF, r_skB, r_skC, r_next, r_retS, r_rk, r_retF, r_rfk, r_drop, r_dk, r_asg, r_gk, r_gk2, gNm, r_tp, r_gs, r_qk, r_gs0, r_froz, r_frk, r_cmk, r_setI, r_stk, r_stk2, r_sti, r_pl, r_stj, r_aug, r_aug1, r_aug2, r_aug3, r_opN, r_par, r_prk, r_callN, r_tupRg, and_self, ixN0, ixN1, ixN2, r_peek, r_pk, r_pkI, r_pkB, r_pkS, r_pkN, r_tpeek, r_bk1, r_bk2, r_frz, r_fzk, r_own, owk, r_frkK, r_ownK, r_ixEd, r_ixEt, r_ixEl, r_inK, r_ninK, r_mk4, r_mk3, r_met, r_mk2, r_callM, r_mk2b, r_callM1, r_lenIs, r_callF, r_mat, r_mtk, r_mEnd, r_mCase, r_for, r_lk, r_items, r_itL, r_itT, r_rng, r_enum, r_zipM, zipM_ok, r_star, starL_ok, starT_ok, enumL_ok, enumT_ok, for_nil, r_lc, r_lck2, lc_nil, r_outM, r_outMn, r_outM1, r_outM1n, r_outD, r_outDf, r_outDn, r_outF, ixL0, ixL1, ixL2, ixT0, ixT1, ixT2, addI_ok, subI_ok, gtI_ok, geI_ok, leI_ok, ltI_ok, lenL_ok, lenT_ok, abs_ok, intB_ok, List.getElem?_cons_zero, List.getElem?_cons_succ, List.length_cons, List.length_nil, List.set_cons_zero, List.set_cons_succ, List.map_cons, List.map_nil, List.cons_append, List.nil_append, List.replicate_succ, List.replicate_zero, Nat.reduceAdd, Nat.reduceSub, Nat.reduceLT, Nat.reduceEqDiff, Option.bind_some, Option.bind_none, Option.map_some, Option.map_none, if_true, if_false, ite_true, ite_false, ↓reduceIte, Bool.not_true, Bool.not_false, e]
      show (fBin (inD false) (fVar 12) (fVar 9) [ms, most, m, o, sx, .m K, s6, s7, s8, .d (.tuple p), s10, s11, .d (.int t), s13, s14]).bind _ = _
      rw [e1]
      rfl
    show lcF _ _ _ _ [.int 0, .int 1, .int 2, .int 3] _ = _
    rw [turn 0 b0 _ q0, turn 1 b1 _ q1, turn 2 b2 _ q2, turn 3 b3 _ q3, lc_nil]
    rfl
theorem world_post {k : Nat} {ms : List PyData} {most m o : PyData} {K : List Bool} {s6 s7 s8 s9 s10 s11 s13 s14 : Sl} (P : Pot k ms) (hk : k < 2 ^ 80) (hK : K.length < 1000) :
    ∃ ms' : List PyData, ∃ B s9', b1__law_world [.m ms, .d most, .d m, .d o, .d (.list pairs6), .m (boolsD K), s6, s7, s8, s9, s10, s11, .un, s13, s14] =
      some (.nx [.m ms', .d most, .d m, .d o, .d (.list pairs6), .m (.l (boolsD (K ++ B))), s6, s7, s8, s9', s10, s11, .un, s13, s14]) ∧ Pot (k + 1) ms' ∧ B ∈ six := by
  obtain ⟨r, ms', e, r0, r1, P'⟩ := take_ok (n := 6) P (by omega) (by decide) (by decide)
  have s4 : Tw.sizeOk (ups 0 4).length = true := rfl
  have hr : rng1 [.int 4] = some (ups 0 4) := rng_ok (n := 4) (by decide)
  have fin : ∀ (p : List PyData) (B : List Bool), ixD (.list pairs6) (.int r) = some (.tuple p) → (List.range 4).map (fun t => inD false (.int (t : Nat)) (.tuple p)) = (B.map fun b => some (PyData.bool b)) → B ∈ six → ∃ ms' : List PyData, ∃ B s9', b1__law_world [.m ms, .d most, .d m, .d o, .d (.list pairs6), .m (boolsD K), s6, s7, s8, s9, s10, s11, .un, s13, s14] =
      some (.nx [.m ms', .d most, .d m, .d o, .d (.list pairs6), .m (.l (boolsD (K ++ B))), s6, s7, s8, s9', s10, s11, .un, s13, s14]) ∧ Pot (k + 1) ms' ∧ B ∈ six := fun p B h1 h2 h3 => by
    have hB : B.length = 4 := by
      have := congrArg List.length h2
      simpa using this.symm
    have lc := post_row (ms := .m ms') (most := .d most) (m := .d m) (o := .d o) (sx := .d (.list pairs6)) (K := boolsD K) (s6 := s6) (s7 := s7) (s8 := s8) (s10 := s10) (s11 := s11) (s13 := s13) (s14 := s14) h2 hB
    have ex : extG (boolsD K) [.list (boolsD B)] = some (.none, boolsD (K ++ B)) := by
      rw [ext_ok (by rw [boolsD_len, boolsD_len]; omega), boolsD_app]
    refine ⟨ms', B, .d (.tuple p), ?_, P', h3⟩
    unfold b1__law_world
    simp -implicitDefEqProofs only [eq_self, r_thn, r_tk, r_tk0, r_ret, r_lift, r_lift0, r_var, r_vk, r_bin, r_un, r_nil, r_cons, r_tup, r_of, r_call, r_tst, r_kt, r_ikT, r_ikF, r_ite, r_if, r_ife, r_and, r_or, r_not, r_vand, r_vor, r_vnot, r_chain, r_hkT, r_hkF, r_part, r_ok, r_sl, r_seq, r_skN, r_skR, r_skF, r_skB, r_skC, r_next, r_retS, r_rk, r_retF, r_rfk, r_drop, r_dk, r_asg, r_gk, r_gk2, gNm, r_tp, r_gs, r_qk, r_gs0, r_froz, r_frk, r_cmk, r_setI, r_stk, r_stk2, r_sti, r_pl, r_stj, r_aug, r_aug1, r_aug2, r_aug3, r_opN, r_par, r_prk, r_callN, r_tupRg, and_self, ixN0, ixN1, ixN2, r_peek, r_pk, r_pkI, r_pkB, r_pkS, r_pkN, r_tpeek, r_bk1, r_bk2, r_frz, r_fzk, r_own, owk, r_frkK, r_ownK, r_ixEd, r_ixEt, r_ixEl, r_inK, r_ninK, r_mk4, r_mk3, r_met, r_mk2, r_callM, r_mk2b, r_callM1, r_lenIs, r_callF, r_mat, r_mtk, r_mEnd, r_mCase, r_for, r_lk, r_items, r_itL, r_itT, r_rng, r_enum, r_zipM, zipM_ok, r_star, starL_ok, starT_ok, enumL_ok, enumT_ok, for_nil, r_lc, r_lck2, lc_nil, r_outM, r_outMn, r_outM1, r_outM1n, r_outD, r_outDf, r_outDn, r_outF, ixL0, ixL1, ixL2, ixT0, ixT1, ixT2, addI_ok, subI_ok, gtI_ok, geI_ok, leI_ok, ltI_ok, lenL_ok, lenT_ok, abs_ok, intB_ok, List.getElem?_cons_zero, List.getElem?_cons_succ, List.length_cons, List.length_nil, List.set_cons_zero, List.set_cons_succ, List.map_cons, List.map_nil, List.cons_append, List.nil_append, List.replicate_succ, List.replicate_zero, Nat.reduceAdd, Nat.reduceSub, Nat.reduceLT, Nat.reduceEqDiff, Option.bind_some, Option.bind_none, Option.map_some, Option.map_none, if_true, if_false, ite_true, ite_false, ↓reduceIte, Bool.not_true, Bool.not_false, e, h1, hr, r_lck s4, wipeR, lc, backR, ex]
  have c : r = 0 ∨ r = 1 ∨ r = 2 ∨ r = 3 ∨ r = 4 ∨ r = 5 := by omega
  rcases c with rfl | rfl | rfl | rfl | rfl | rfl
  · exact fin _ [true, true, false, false] rfl rfl (by decide)
  · exact fin _ [true, false, true, false] rfl rfl (by decide)
  · exact fin _ [true, false, false, true] rfl rfl (by decide)
  · exact fin _ [false, true, true, false] rfl rfl (by decide)
  · exact fin _ [false, true, false, true] rfl rfl (by decide)
  · exact fin _ [false, false, true, true] rfl rfl (by decide)
end Lw

set_option Elab.async false
set_option linter.all false
set_option maxRecDepth 100000
set_option maxHeartbeats 4000000
namespace Lw
open PySem PySem.Spec PyProof.Rows L2 Tw
/-! ### ways sorted -/
theorem wayD_tup (w : Int × Option Int) : ∃ l, wayD w = .tuple (.int w.1 :: l) := by
  obtain ⟨h, g⟩ := w
  cases g with
  | none => exact ⟨[], rfl⟩
  | some g => exact ⟨[.int g], rfl⟩
theorem le_first {v w : Int × Option Int} (h : PySem.W.dataLe false id (wayD v) (wayD w) = true) : v.1 ≤ w.1 := by
  refine Int.not_lt.mp fun hlt => ?_
  obtain ⟨l, e⟩ := wayD_tup v
  obtain ⟨m, f⟩ := wayD_tup w
  have q : PyProof.Rows.lexLt itemOrd (PySem.W.keyToks (wayD w)) (PySem.W.keyToks (wayD v)) = true := by
    rw [e, f]
    show PyProof.Rows.lexLt itemOrd (.inl 1 :: .inl w.1 :: PySem.W.keyToksAll m) (.inl 1 :: .inl v.1 :: PySem.W.keyToksAll l) = true
    have a1 : itemLt (.inl 1) (.inl 1) = false := rfl
    have a2 : itemLt (.inl w.1) (.inl v.1) = true := decide_eq_true hlt
    show (itemLt (.inl 1) (.inl 1) || (!itemLt (.inl 1) (.inl 1) && (itemLt (.inl w.1) (.inl v.1) || _))) = true
    rw [a1, a2]
    rfl
  have : (!PyProof.Rows.lexLt itemOrd (PySem.W.keyToks (wayD w)) (PySem.W.keyToks (wayD v))) = true := h
  rw [q] at this
  cases this
theorem ways_sortOk (V : List (Int × Option Int)) : sortOk (V.map wayD) = true := by
  unfold sortOk
  rw [Bool.and_eq_true, Bool.and_eq_true, Bool.or_eq_true]
  refine ⟨⟨?_, .inl ?_⟩, ?_⟩
  · unfold allAlikeB
    refine List.all_eq_true.mpr fun d hd => List.all_eq_true.mpr fun e he => ?_
    obtain ⟨v, _, rfl⟩ := List.mem_map.mp hd
    obtain ⟨w, _, rfl⟩ := List.mem_map.mp he
    obtain ⟨v1, v2⟩ := v
    obtain ⟨w1, w2⟩ := w
    cases v2 <;> cases w2 <;> rfl
  · refine List.all_eq_true.mpr fun d hd => ?_
    obtain ⟨v, _, rfl⟩ := List.mem_map.mp hd
    obtain ⟨l, e⟩ := wayD_tup v
    rw [e]
    rfl
  · refine List.all_eq_true.mpr fun d hd => ?_
    obtain ⟨v, _, rfl⟩ := List.mem_map.mp hd
    obtain ⟨v1, v2⟩ := v
    cases v2 <;> rfl
/-- ways sorted: the same ways, their first hands rising -/
theorem ways_sorted (V : List (Int × Option Int)) : ∃ S : List (Int × Option Int), sortedD [.list (V.map wayD)] = some (.list (S.map wayD)) ∧ S.Perm V ∧ S.Pairwise (fun v w => v.1 ≤ w.1) := by
  have T := PySem.W.sortLe_total (PyProof.Rows.listOrd itemOrd) false fun b : PyData => PySem.W.keyToks (id b)
  refine ⟨V.mergeSort fun v w => PySem.W.dataLe false id (wayD v) (wayD w), ?_, List.mergeSort_perm _ _, ?_⟩
  · show (if sortOk (V.map wayD) = true then some (PyData.list (srt (V.map wayD))) else none) = _
    rw [if_pos (ways_sortOk V)]
    unfold srt
    rw [List.map_mergeSort (r := fun v w => PySem.W.dataLe false id (wayD v) (wayD w)) (s := PySem.W.dataLe false id) (f := wayD) fun a _ b _ => rfl]
  · exact (List.pairwise_mergeSort (le := fun v w => PySem.W.dataLe false id (wayD v) (wayD w)) (fun a b c h1 h2 => T.trans _ _ _ h1 h2) (fun a b => Bool.or_eq_true_iff.mpr (T.total _ _)) V).imp fun h => le_first h
end Lw

set_option Elab.async false
set_option linter.all false
set_option maxRecDepth 100000
set_option maxHeartbeats 4000000
namespace Lw
open PySem PySem.Spec PyProof.Rows L2 Tw
/-- what a drawn web is: many posts, the painted hands of each post, the ways -/
structure Drawn (most m : Nat) (Bs : List (List Bool)) (S : List (Int × Option Int)) : Prop where
  le : m ≤ most
  nb : Bs.length = m
  six : ∀ B ∈ Bs, B ∈ six
  perm : (flatW S).Perm ((List.range (4 * m)).map fun i : Nat => (i : Int))
  ord : ordW S
  rise : S.Pairwise fun v w => v.1 < w.1
  pnt : (flatW (S.filter fun w => Bs.flatten[w.1.toNat]? == some true)).Perm (handsOf Bs.flatten true)
theorem six_len {B : List Bool} (h : B ∈ six) : B.length = 4 := by
  simp only [six, List.mem_cons, List.not_mem_nil, or_false] at h
  rcases h with rfl | rfl | rfl | rfl | rfl | rfl <;> rfl
theorem flat_len : ∀ {Bs : List (List Bool)}, (∀ B ∈ Bs, B ∈ six) → Bs.flatten.length = 4 * Bs.length
  | [], _ => rfl
  | B :: Bs, h => by
    rw [List.flatten_cons, List.length_append, six_len (h B (List.mem_cons_self ..)), flat_len fun C hC => h C (List.mem_cons_of_mem _ hC), List.length_cons]
    omega
theorem flatW_app (U V : List (Int × Option Int)) : flatW (U ++ V) = flatW U ++ flatW V := List.flatMap_append ..
theorem flatW_perm {U V : List (Int × Option Int)} (h : U.Perm V) : (flatW U).Perm (flatW V) := h.flatMap_right _
theorem mem_flat {V : List (Int × Option Int)} {w : Int × Option Int} (h : w ∈ V) : w.1 ∈ flatW V := List.mem_flatMap.mpr ⟨w, h, List.mem_cons_self ..⟩
/-- all hands, by their kinds -/
theorem hands_both (K : List Bool) : (handsOf K true ++ handsOf K false).Perm ((List.range K.length).map fun i : Nat => (i : Int)) := by
  unfold handsOf
  rw [← List.map_append]
  refine List.Perm.map _ ?_
  have e : (List.range K.length).filter (fun i : Nat => K[i]? == some false) = (List.range K.length).filter fun i : Nat => !(K[i]? == some true) := by
    refine List.filter_congr fun i hi => ?_
    rw [List.getElem?_eq_getElem (List.mem_range.mp hi)]
    cases K[i]'(List.mem_range.mp hi) <;> rfl
  rw [e]
  exact List.filter_append_perm _ _
theorem first_lt {S : List (Int × Option Int)} {n : Nat} (hp : (flatW S).Perm ((List.range n).map fun i : Nat => (i : Int))) (hr : S.Pairwise fun v w => v.1 ≤ w.1) : S.Pairwise fun v w => v.1 < w.1 := by
  have nd : (flatW S).Nodup := hp.nodup_iff.mpr (List.Pairwise.map (R := (· ≠ ·)) (fun i : Nat => (i : Int)) (fun a b h z => h (by exact_mod_cast z)) List.nodup_range)
  clear hp
  induction S with
  | nil => exact .nil
  | cons v S ih =>
    have h1 := List.pairwise_cons.mp hr
    have nd' : (v.1 :: v.2.toList ++ flatW S).Nodup := nd
    refine List.pairwise_cons.mpr ⟨fun w hw => ?_, ih h1.2 (List.nodup_append.mp nd').2.1⟩
    have a := h1.1 w hw
    have b : v.1 ≠ w.1 := fun z => (List.nodup_append.mp nd').2.2 v.1 (List.mem_cons_self ..) w.1 (mem_flat hw) z
    omega
theorem kind_of {K : List Bool} {b : Bool} {V : List (Int × Option Int)} (p : (flatW V).Perm (handsOf K b)) {w : Int × Option Int} (h : w ∈ V) : (K[w.1.toNat]? == some b) = true := by
  have := p.mem_iff.mp (mem_flat h)
  unfold handsOf at this
  obtain ⟨i, hi, e⟩ := List.mem_map.mp this
  have := (List.mem_filter.mp hi).2
  rw [← e, Int.toNat_natCast]
  exact this
/-- the painted ways among ways, by the kinds of their first hands -/
def pickP (K : List Bool) : PyData → Option PyData
  | .tuple [i, .tuple (.int h :: _)] => if K[h.toNat]? = some true then some i else none
  | _ => none
def paintD (K : List Bool) (S : List (Int × Option Int)) : List PyData := (enumD (S.map wayD)).filterMap (pickP K)
def webD (m : Nat) (S : List (Int × Option Int)) : PyData := .tuple [.int m, .tuple (S.map wayD)]
def pairsF : FE PyData := fOf (thnE (fCons (fTup (fCons (Tw.ret (.int 0)) (fCons (Tw.ret (.int 1)) fNil))) (fCons (fTup (fCons (Tw.ret (.int 0)) (fCons (Tw.ret (.int 2)) fNil))) (fCons (fTup (fCons (Tw.ret (.int 0)) (fCons (Tw.ret (.int 3)) fNil))) (fCons (fTup (fCons (Tw.ret (.int 1)) (fCons (Tw.ret (.int 2)) fNil))) (fCons (fTup (fCons (Tw.ret (.int 1)) (fCons (Tw.ret (.int 3)) fNil))) (fCons (fTup (fCons (Tw.ret (.int 2)) (fCons (Tw.ret (.int 3)) fNil))) fNil)))))) fun xs => liftO (if Tw.sizeOk xs.length = true then some xs else none))
theorem pairs_ok (ρ : Rho) : pairsF ρ = some (.list pairs6, ρ) := rfl
theorem world_ok {k most : Nat} {ms : List PyData} (P : Pot k ms) (hk : k < 2 ^ 50) (hm : most ≤ 60) : ∃ (m : Nat) (Bs : List (List Bool)) (S : List (Int × Option Int)) (ms' : List PyData),
    g__law_world ms [.int most] = some (.tuple [webD m S, .tuple (paintD Bs.flatten S)], ms') ∧ Drawn most m Bs S ∧ Pot (k + 5000) ms' := by
  obtain ⟨r, ms1, e1, r0, r1, P1⟩ := take_ok (n := (most : Int) + 1) P (by omega) (by omega) (by omega)
  obtain ⟨m, rfl⟩ : ∃ m : Nat, r = (m : Int) := ⟨r.toNat, by omega⟩
  obtain ⟨f, ms2, e2, f0, f1, P2⟩ := take_ok (n := 4) P1 (by omega) (by decide) (by decide)
  have s0 : Tw.sizeOk 0 = true := rfl
  have s2 : Tw.sizeOk 2 = true := rfl
  have s4 : Tw.sizeOk 4 = true := rfl
  obtain ⟨o, eo, ho⟩ : ∃ o : Int, ixD (.list [.int 0, .int 2, .int 4, .int 9]) (.int f) = some (.int o) ∧ o < 100 := by
    have c : f = 0 ∨ f = 1 ∨ f = 2 ∨ f = 3 := by omega
    rcases c with rfl | rfl | rfl | rfl
    · exact ⟨0, rfl, by decide⟩
    · exact ⟨2, rfl, by decide⟩
    · exact ⟨4, rfl, by decide⟩
    · exact ⟨9, rfl, by decide⟩
  have hr := rng_ok (n := m) (by omega)
  -- the posts
  obtain ⟨ρ1, l1, K, Bs, ms3, s6, s9, rfl, P3, eK, nB, hB⟩ := for_all (ft := gNm 6) (fb := b1__law_world) (fun j ρ => ∃ (K : List Bool) (Bs : List (List Bool)) (ms : List PyData) (s6 s9 : Sl), ρ = [.m ms, .d (.int most), .d (.int m), .d (.int o), .d (.list pairs6), .m (boolsD K), s6, .un, .un, s9, .un, .un, .un, .un, .un] ∧
    Pot (k + 2 + j) ms ∧ K = Bs.flatten ∧ Bs.length = j ∧ ∀ B ∈ Bs, B ∈ six) (ups 0 m) 0 [.m ms2, .d (.int most), .d (.int m), .d (.int o), .d (.list pairs6), .m (boolsD []), .un, .un, .un, .un, .un, .un, .un, .un, .un]
    ⟨[], [], ms2, .un, .un, rfl, P2.wide (by omega), rfl, rfl, fun B h => nomatch h⟩ fun j d ρ hj ⟨K, Bs, ms, s6, s9, eρ, P, eK, nB, hB⟩ => by
      subst eρ
      have hjm : j < m := by
        have := (List.getElem?_eq_some_iff.mp hj).1
        rwa [Tw.ups_len] at this
      have kl := flat_len hB
      rw [← eK, nB] at kl
      obtain ⟨ms', B, s9', e, P', h6⟩ := world_post (most := .int most) (m := .int m) (o := .int o) (s6 := .d d) (s7 := .un) (s8 := .un) (s9 := s9) (s10 := .un) (s11 := .un) (s13 := .un) (s14 := .un) (K := K) P (by omega) (by omega)
      refine ⟨_, _, rfl, e, K ++ B, Bs ++ [B], ms', .d d, s9', rfl, P'.wide (by omega), ?_, ?_, ?_⟩
      · rw [eK, List.flatten_append, List.flatten_singleton]
      · rw [List.length_append, nB]
        rfl
      · intro C hC
        rcases List.mem_append.mp hC with h | h
        · exact hB C h
        · rw [List.mem_singleton.mp h]
          exact h6
  rw [Tw.ups_len, Nat.zero_add] at P3 nB
  have hK : K.length = 4 * m := by
    have := flat_len hB
    rw [← eK, nB] at this
    exact this
  -- the kinds
  obtain ⟨ms4, V1, t1, k1, P4, p1, o1, n1, q1⟩ := world_kind (most := .int most) (pairs := .list pairs6) (b := true) (s6 := s6) (s9 := s9) (s10 := .un) (s11 := .un) (s12 := .un) (s13 := .un) (s14 := .un) (W := []) ho hK (by omega) P3 (by omega) (by decide) (.inl rfl)
  rw [List.nil_append] at k1
  obtain ⟨ms5, V2, t2, k2, P5, p2, o2, n2, q2⟩ := world_kind (most := .int most) (pairs := .list pairs6) (b := false) (s6 := s6) (s9 := s9) (s10 := .m (.l [])) (s11 := t1) (s12 := .un) (s13 := .un) (s14 := .un) (W := V1.map wayD) ho hK (by omega) P4 (by omega) (by rw [List.length_map]; omega) q1
  rw [← List.map_append] at k2
  obtain ⟨S, es, ps, rs⟩ := ways_sorted (V1 ++ V2)
  have pf : (flatW S).Perm ((List.range (4 * m)).map fun i : Nat => (i : Int)) := by
    refine (flatW_perm ps).trans ?_
    rw [flatW_app, ← hK]
    exact (p1.append p2).trans (hands_both K)
  have nS : S.length ≤ 1000 := by
    rw [ps.length_eq, List.length_append]
    omega
  have D : Drawn most m Bs S := ⟨by omega, nB, hB, pf, fun w hw g e => by
    rcases List.mem_append.mp (ps.mem_iff.mp hw) with h | h
    · exact o1 w h g e
    · exact o2 w h g e, first_lt pf rs, by
    rw [← eK]
    have f1 : V1.filter (fun w => K[w.1.toNat]? == some true) = V1 := List.filter_eq_self.mpr fun w hw => kind_of p1 hw
    have f2 : V2.filter (fun w => K[w.1.toNat]? == some true) = [] := List.filter_eq_nil_iff.mpr fun w hw z => by
      have := kind_of p2 hw
      rw [eq_of_beq z] at this
      cases this
    refine (flatW_perm (ps.filter _)).trans ?_
    rw [List.filter_append, f1, f2, List.append_nil]
    exact p1⟩
  refine ⟨m, Bs, S, ms5, ?_, D, P5.wide (by omega)⟩
  -- the painting
  have sz : Tw.sizeOk (enumD (S.map wayD)).length = true := by
    refine decide_eq_true ?_
    unfold enumD prs
    rw [List.length_map, List.length_zip, Tw.ups_len, List.length_map]
    omega
  have lc : lcF (gTp [gNm 13, gNm 14]) (fTst (fBin ixD (fVar 5) (fBin ixD (fVar 14) (Tw.ret (.int 0))))) (fVar 13) [13, 14] (enumD (S.map wayD)) [.m ms5, .d (.int most), .d (.int m), .d (.int o), .d (.list pairs6), .d (.list (boolsD K)), s6, .d (.list (S.map wayD)), .d (.bool false), s9, .m (.l []), t2, .un, .un, .un] =
      some (paintD K S, [.m ms5, .d (.int most), .d (.int m), .d (.int o), .d (.list pairs6), .d (.list (boolsD K)), s6, .d (.list (S.map wayD)), .d (.bool false), s9, .m (.l []), t2, .un, .un, .un]) := by
    refine lc_map (pickP K) _ fun d hd => ?_
    obtain ⟨i, hi⟩ := List.mem_iff_getElem?.mp hd
    obtain ⟨a, b, h1, h2, rfl⟩ := prs_get hi
    have ea := ups_get h1
    subst ea
    rw [List.getElem?_map] at h2
    obtain ⟨w, hw, rfl⟩ := Option.map_eq_some_iff.mp h2
    obtain ⟨l, el⟩ := wayD_tup w
    have hm := pf.mem_iff.mp (mem_flat (List.mem_of_getElem? hw))
    obtain ⟨q, hq, eq⟩ := List.mem_map.mp hm
    have hq : q < K.length := by rw [hK]; exact List.mem_range.mp hq
    have ix : ixD (.list (boolsD K)) (.int w.1) = some (.bool K[q]) := by
      rw [← eq]
      exact ixLn (boolsD_get hq)
    have pg : pickP K (.tuple [.int (0 + (i : Int)), wayD w]) = if K[q] = true then some (.int (0 + (i : Int))) else none := by
      rw [el]
      show (if K[w.1.toNat]? = some true then _ else _) = _
      rw [← eq]
      show (if K[q]? = some true then _ else _) = _
      rw [List.getElem?_eq_getElem hq]
      cases K[q] <;> rfl
    refine ⟨[.m ms5, .d (.int most), .d (.int m), .d (.int o), .d (.list pairs6), .d (.list (boolsD K)), s6, .d (.list (S.map wayD)), .d (.bool false), s9, .m (.l []), t2, .un, .d (.int (0 + (i : Int))), .d (wayD w)], [.m ms5, .d (.int most), .d (.int m), .d (.int o), .d (.list pairs6), .d (.list (boolsD K)), s6, .d (.list (S.map wayD)), .d (.bool false), s9, .m (.l []), t2, .un, .d (.int (0 + (i : Int))), .d (wayD w)], ?_, ?_, fun _ => rfl, fun e he => ⟨[.m ms5, .d (.int most), .d (.int m), .d (.int o), .d (.list pairs6), .d (.list (boolsD K)), s6, .d (.list (S.map wayD)), .d (.bool false), s9, .m (.l []), t2, .un, .d (.int (0 + (i : Int))), .d (wayD w)], ?_, rfl⟩⟩
    · simp -implicitDefEqProofs only [eq_self, r_thn, r_tk, r_tk0, r_ret, r_lift, r_lift0, r_var, r_vk, r_bin, r_un, r_nil, r_cons, r_tup, r_of, r_call, r_tst, r_kt, r_ikT, r_ikF, r_ite, r_if, r_ife, r_and, r_or, r_not, r_vand, r_vor, r_vnot, r_chain, r_hkT, r_hkF, r_part, r_ok, r_sl, r_seq, r_skN, r_skR, r_skF, r_skB, r_skC, r_next, r_retS, r_rk, r_retF, r_rfk, r_drop, r_dk, r_asg, r_gk, r_gk2, gNm, r_tp, r_gs, r_qk, r_gs0, r_froz, r_frk, r_cmk, r_setI, r_stk, r_stk2, r_sti, r_pl, r_stj, r_aug, r_aug1, r_aug2, r_aug3, r_opN, r_par, r_prk, r_callN, r_tupRg, and_self, ixN0, ixN1, ixN2, r_peek, r_pk, r_pkI, r_pkB, r_pkS, r_pkN, r_tpeek, r_bk1, r_bk2, r_frz, r_fzk, r_own, owk, r_frkK, r_ownK, r_ixEd, r_ixEt, r_ixEl, r_inK, r_ninK, r_mk4, r_mk3, r_met, r_mk2, r_callM, r_mk2b, r_callM1, r_lenIs, r_callF, r_mat, r_mtk, r_mEnd, r_mCase, r_for, r_lk, r_items, r_itL, r_itT, r_rng, r_enum, r_zipM, zipM_ok, r_star, starL_ok, starT_ok, enumL_ok, enumT_ok, for_nil, r_lc, r_lck2, lc_nil, r_outM, r_outMn, r_outM1, r_outM1n, r_outD, r_outDf, r_outDn, r_outF, ixL0, ixL1, ixL2, ixT0, ixT1, ixT2, addI_ok, subI_ok, gtI_ok, geI_ok, leI_ok, ltI_ok, lenL_ok, lenT_ok, abs_ok, intB_ok, List.getElem?_cons_zero, List.getElem?_cons_succ, List.length_cons, List.length_nil, List.set_cons_zero, List.set_cons_succ, List.map_cons, List.map_nil, List.cons_append, List.nil_append, List.replicate_succ, List.replicate_zero, Nat.reduceAdd, Nat.reduceSub, Nat.reduceLT, Nat.reduceEqDiff, Option.bind_some, Option.bind_none, Option.map_some, Option.map_none, if_true, if_false, ite_true, ite_false, ↓reduceIte, Bool.not_true, Bool.not_false]
    · rw [pg, el]
      simp -implicitDefEqProofs only [eq_self, r_thn, r_tk, r_tk0, r_ret, r_lift, r_lift0, r_var, r_vk, r_bin, r_un, r_nil, r_cons, r_tup, r_of, r_call, r_tst, r_kt, r_ikT, r_ikF, r_ite, r_if, r_ife, r_and, r_or, r_not, r_vand, r_vor, r_vnot, r_chain, r_hkT, r_hkF, r_part, r_ok, r_sl, r_seq, r_skN, r_skR, r_skF, r_skB, r_skC, r_next, r_retS, r_rk, r_retF, r_rfk, r_drop, r_dk, r_asg, r_gk, r_gk2, gNm, r_tp, r_gs, r_qk, r_gs0, r_froz, r_frk, r_cmk, r_setI, r_stk, r_stk2, r_sti, r_pl, r_stj, r_aug, r_aug1, r_aug2, r_aug3, r_opN, r_par, r_prk, r_callN, r_tupRg, and_self, ixN0, ixN1, ixN2, r_peek, r_pk, r_pkI, r_pkB, r_pkS, r_pkN, r_tpeek, r_bk1, r_bk2, r_frz, r_fzk, r_own, owk, r_frkK, r_ownK, r_ixEd, r_ixEt, r_ixEl, r_inK, r_ninK, r_mk4, r_mk3, r_met, r_mk2, r_callM, r_mk2b, r_callM1, r_lenIs, r_callF, r_mat, r_mtk, r_mEnd, r_mCase, r_for, r_lk, r_items, r_itL, r_itT, r_rng, r_enum, r_zipM, zipM_ok, r_star, starL_ok, starT_ok, enumL_ok, enumT_ok, for_nil, r_lc, r_lck2, lc_nil, r_outM, r_outMn, r_outM1, r_outM1n, r_outD, r_outDf, r_outDn, r_outF, ixL0, ixL1, ixL2, ixT0, ixT1, ixT2, addI_ok, subI_ok, gtI_ok, geI_ok, leI_ok, ltI_ok, lenL_ok, lenT_ok, abs_ok, intB_ok, List.getElem?_cons_zero, List.getElem?_cons_succ, List.length_cons, List.length_nil, List.set_cons_zero, List.set_cons_succ, List.map_cons, List.map_nil, List.cons_append, List.nil_append, List.replicate_succ, List.replicate_zero, Nat.reduceAdd, Nat.reduceSub, Nat.reduceLT, Nat.reduceEqDiff, Option.bind_some, Option.bind_none, Option.map_some, Option.map_none, if_true, if_false, ite_true, ite_false, ↓reduceIte, Bool.not_true, Bool.not_false, ix]
      cases K[q] <;> rfl
    · rw [pg] at he
      by_cases h : K[q] = true
      · rw [if_pos h] at he
        cases he
        simp -implicitDefEqProofs only [eq_self, r_thn, r_tk, r_tk0, r_ret, r_lift, r_lift0, r_var, r_vk, r_bin, r_un, r_nil, r_cons, r_tup, r_of, r_call, r_tst, r_kt, r_ikT, r_ikF, r_ite, r_if, r_ife, r_and, r_or, r_not, r_vand, r_vor, r_vnot, r_chain, r_hkT, r_hkF, r_part, r_ok, r_sl, r_seq, r_skN, r_skR, r_skF, r_skB, r_skC, r_next, r_retS, r_rk, r_retF, r_rfk, r_drop, r_dk, r_asg, r_gk, r_gk2, gNm, r_tp, r_gs, r_qk, r_gs0, r_froz, r_frk, r_cmk, r_setI, r_stk, r_stk2, r_sti, r_pl, r_stj, r_aug, r_aug1, r_aug2, r_aug3, r_opN, r_par, r_prk, r_callN, r_tupRg, and_self, ixN0, ixN1, ixN2, r_peek, r_pk, r_pkI, r_pkB, r_pkS, r_pkN, r_tpeek, r_bk1, r_bk2, r_frz, r_fzk, r_own, owk, r_frkK, r_ownK, r_ixEd, r_ixEt, r_ixEl, r_inK, r_ninK, r_mk4, r_mk3, r_met, r_mk2, r_callM, r_mk2b, r_callM1, r_lenIs, r_callF, r_mat, r_mtk, r_mEnd, r_mCase, r_for, r_lk, r_items, r_itL, r_itT, r_rng, r_enum, r_zipM, zipM_ok, r_star, starL_ok, starT_ok, enumL_ok, enumT_ok, for_nil, r_lc, r_lck2, lc_nil, r_outM, r_outMn, r_outM1, r_outM1n, r_outD, r_outDf, r_outDn, r_outF, ixL0, ixL1, ixL2, ixT0, ixT1, ixT2, addI_ok, subI_ok, gtI_ok, geI_ok, leI_ok, ltI_ok, lenL_ok, lenT_ok, abs_ok, intB_ok, List.getElem?_cons_zero, List.getElem?_cons_succ, List.length_cons, List.length_nil, List.set_cons_zero, List.set_cons_succ, List.map_cons, List.map_nil, List.cons_append, List.nil_append, List.replicate_succ, List.replicate_zero, Nat.reduceAdd, Nat.reduceSub, Nat.reduceLT, Nat.reduceEqDiff, Option.bind_some, Option.bind_none, Option.map_some, Option.map_none, if_true, if_false, ite_true, ite_false, ↓reduceIte, Bool.not_true, Bool.not_false]
      · rw [if_neg h] at he
        cases he
  have k3 : forF (gNm 8) b3__law_world [.bool true, .bool false] [.m ms3, .d (.int most), .d (.int m), .d (.int o), .d (.list pairs6), .d (.list (boolsD K)), s6, .m (.l []), .un, s9, .un, .un, .un, .un, .un] =
      some (.nx [.m ms5, .d (.int most), .d (.int m), .d (.int o), .d (.list pairs6), .d (.list (boolsD K)), s6, .m (.l ((V1 ++ V2).map wayD)), .d (.bool false), s9, .m (.l []), t2, .un, .un, .un]) := by
    rw [for_nx (ρ1 := [.m ms3, .d (.int most), .d (.int m), .d (.int o), .d (.list pairs6), .d (.list (boolsD K)), s6, .m (.l []), .d (.bool true), s9, .un, .un, .un, .un, .un]) rfl k1,
      for_nx (ρ1 := [.m ms4, .d (.int most), .d (.int m), .d (.int o), .d (.list pairs6), .d (.list (boolsD K)), s6, .m (V1.map wayD), .d (.bool false), s9, .m (.l []), t1, .un, .un, .un]) rfl k2]
    rfl
  have b0 : boolsD [] = [] := rfl
  rw [b0] at l1
  have s6' : Tw.sizeOk 6 = true := rfl
  have tl : ∀ ds : List PyData, tupleD [.list ds] = some (.tuple ds) := fun _ => rfl
  rw [← eK]
  simp only [pairs6] at l1 k3 lc
  unfold g__law_world runM f__law_world
  simp -implicitDefEqProofs only [eq_self, r_thn, r_tk, r_tk0, r_ret, r_lift, r_lift0, r_var, r_vk, r_bin, r_un, r_nil, r_cons, r_tup, r_of, r_call, r_tst, r_kt, r_ikT, r_ikF, r_ite, r_if, r_ife, r_and, r_or, r_not, r_vand, r_vor, r_vnot, r_chain, r_hkT, r_hkF, r_part, r_ok, r_sl, r_seq, r_skN, r_skR, r_skF, r_skB, r_skC, r_next, r_retS, r_rk, r_retF, r_rfk, r_drop, r_dk, r_asg, r_gk, r_gk2, gNm, r_tp, r_gs, r_qk, r_gs0, r_froz, r_frk, r_cmk, r_setI, r_stk, r_stk2, r_sti, r_pl, r_stj, r_aug, r_aug1, r_aug2, r_aug3, r_opN, r_par, r_prk, r_callN, r_tupRg, and_self, ixN0, ixN1, ixN2, r_peek, r_pk, r_pkI, r_pkB, r_pkS, r_pkN, r_tpeek, r_bk1, r_bk2, r_frz, r_fzk, r_own, owk, r_frkK, r_ownK, r_ixEd, r_ixEt, r_ixEl, r_inK, r_ninK, r_mk4, r_mk3, r_met, r_mk2, r_callM, r_mk2b, r_callM1, r_lenIs, r_callF, r_mat, r_mtk, r_mEnd, r_mCase, r_for, r_lk, r_items, r_itL, r_itT, r_rng, r_enum, r_zipM, zipM_ok, r_star, starL_ok, starT_ok, enumL_ok, enumT_ok, for_nil, r_lc, r_lck2, lc_nil, r_outM, r_outMn, r_outM1, r_outM1n, r_outD, r_outDf, r_outDn, r_outF, ixL0, ixL1, ixL2, ixT0, ixT1, ixT2, addI_ok, subI_ok, gtI_ok, geI_ok, leI_ok, ltI_ok, lenL_ok, lenT_ok, abs_ok, intB_ok, List.getElem?_cons_zero, List.getElem?_cons_succ, List.length_cons, List.length_nil, List.set_cons_zero, List.set_cons_succ, List.map_cons, List.map_nil, List.cons_append, List.nil_append, List.replicate_succ, List.replicate_zero, Nat.reduceAdd, Nat.reduceSub, Nat.reduceLT, Nat.reduceEqDiff, Option.bind_some, Option.bind_none, Option.map_some, Option.map_none, if_true, if_false, ite_true, ite_false, ↓reduceIte, Bool.not_true, Bool.not_false, e1, e2, s4, eo, s0, s2, s6', hr, l1, k3, es, tl, r_lck sz, wipeR, lc, backR]
  rfl
end Lw

set_option Elab.async false
set_option linter.all false
set_option maxRecDepth 100000
set_option maxHeartbeats 4000000
namespace Lw
open PySem PySem.Spec PyProof.Rows L2 Tw
/-! ### the program's look at a web, step by step -/
/-- a number or a truth, as a number -/
def numV : PyData → Option Int
  | .int i => some i
  | .bool b => some (bI b)
  | _ => none
def isN : PyData → Bool
  | .none => true
  | _ => false
theorem eqv_num (a : PyData) (u : Int) : PyData.eqv a (.int u) = decide (numV a = some u) := by
  cases a with
  | bool b => simp [PyData.eqv, numV, bI]; cases b <;> rfl
  | int i => simp [PyData.eqv, numV]; rfl
  | _ => simp [PyData.eqv, numV]
theorem ne_num (a : PyData) (u : Int) : neD a (.int u) = some (.bool (!decide (numV a = some u))) := by
  have h : unlen a (.int u) = false := by cases a <;> rfl
  unfold neD
  rw [h, eqv_num]
  cases hc : (flatOk a && flatOk (.int u)) with
  | true => rfl
  | false => rfl
theorem eq_num (a : PyData) (u : Int) : eqD a (.int u) = some (.bool (decide (numV a = some u))) := by
  have h : unlen a (.int u) = false := by cases a <;> rfl
  unfold eqD
  rw [h, eqv_num]
  cases hc : (flatOk a && flatOk (.int u)) with
  | true => rfl
  | false => rfl
theorem eqI2 (i j : Int) : eqD (.int i) (.int j) = some (.bool (i == j)) := rfl
theorem isInt_num {a : PyData} : isiD "int" a = some (.bool (numV a).isSome) := by cases a <;> rfl
theorem ge_num {a : PyData} {i u : Int} (h : numV a = some i) : geI a (.int u) = some (.bool (decide (u ≤ i))) := by
  cases a <;> first | (cases h; rfl) | (cases h; done)
theorem gt_num {a : PyData} {i u : Int} (h : numV a = some i) : gtI a (.int u) = some (.bool (decide (u < i))) := by
  cases a <;> first | (cases h; rfl) | (cases h; done)
theorem lt_num {a b : PyData} {i j : Int} (h : numV a = some i) (h' : numV b = some j) : ltD a b = some (.bool (decide (i < j))) := by
  cases a <;> first | (cases h; done) | (cases h; cases b <;> first | (cases h'; done) | (cases h'; rfl))
theorem add_num {a : PyData} {i : Int} (h : numV a = some i) : addD a (.int 1) = some (.int (i + 1)) := by
  cases a <;> first | (cases h; rfl) | (cases h; done)
theorem pl_num {a : PyData} {j n : Nat} (h : numV a = some (j : Int)) (hj : j < n) : plI n a = some j := by
  cases a with
  | int i =>
    cases h
    exact Evl.ixN_nat hj
  | bool b =>
    have e : bI b = (j : Int) := Option.some.inj h
    show (if (bI b).toNat < n then some (bI b).toNat else none) = some j
    rw [e]
    exact if_pos hj
  | _ => cases h
theorem atom_num {x : PyData} (h : x = .none ∨ ∃ i, numV x = some i) : atom x = true := by
  rcases h with rfl | ⟨i, h⟩
  · rfl
  · cases x <;> first | rfl | (cases h; done)
theorem pk2_atom {ρ ρ1 : Rho} {x : PyData} (h : atom x = true) : pk2 ρ (some (x, ρ1)) = some (x, ρ) := if_pos h
theorem notN_num {x : PyData} {i : Int} (h : numV x = some i) : isN x = false := by cases x <;> first | rfl | (cases h; done)
theorem notNone_ok (x : PyData) : notNoneD x .none = some (.bool (!isN x)) := by cases x <;> rfl
theorem isNone_ok (x : PyData) : isNoneD x .none = some (.bool (isN x)) := by cases x <;> rfl
theorem isN_eq {x : PyData} (h : isN x = true) : x = .none := by cases x <;> first | rfl | cases h
def isBo : PyData → Bool
  | .bool _ => true
  | _ => false
theorem isBo_ok (d : PyData) : isiD "bool" d = some (.bool (isBo d)) := by cases d <;> rfl
/-- what a way makes of the table, of the ends, of the least hand that may be next -/
def stepW (M : Nat) (B E : List PyData) (l : Nat) : PyData → Option (List PyData × List PyData × Nat)
  | .tuple [a, b] => (numV a).bind fun i => (numV b).bind fun j => if (l : Int) ≤ i ∧ i < j ∧ j < (M : Int) then some ((B.set i.toNat b).set j.toNat a, E, i.toNat + 1) else none
  | .tuple [a] => (numV a).bind fun i => if (l : Int) ≤ i ∧ i < (M : Int) then some (B.set i.toNat a, E ++ [a], i.toNat + 1) else none
  | _ => none
theorem turn_ok {t s6 s7 s8 s9 s10 : Sl} {M l : Nat} {B E : List PyData} (hl : B.length = M) (hE : E.length < 90000) (w : PyData) :
    (∀ B' E' l', stepW M B E l w = some (B', E', l') → ∃ s9' s10', b1_hands_across [t, .d (.int (M : Int)), .m (.l B), .m (.l E), .d (.int (l : Int)), .d w, s6, s7, s8, s9, s10] = some (.ct [t, .d (.int (M : Int)), .m (.l B'), .m (.l E'), .d (.int (l' : Int)), .d w, s6, s7, s8, s9', s10'])) ∧
    (stepW M B E l w = none → ∃ ρ, b1_hands_across [t, .d (.int (M : Int)), .m (.l B), .m (.l E), .d (.int (l : Int)), .d w, s6, s7, s8, s9, s10] = some (.rt .none ρ)) := by
  have no : isiD "tuple" w = some (.bool false) → ∃ ρ, b1_hands_across [t, .d (.int (M : Int)), .m (.l B), .m (.l E), .d (.int (l : Int)), .d w, s6, s7, s8, s9, s10] = some (.rt .none ρ) := fun q1 => by
    refine ⟨[t, .d (.int (M : Int)), .m (.l B), .m (.l E), .d (.int (l : Int)), .d w, s6, s7, s8, s9, s10], ?_⟩
    unfold b1_hands_across
    simp -implicitDefEqProofs only [eq_self, r_thn, r_tk, r_tk0, r_ret, r_lift, r_lift0, r_var, r_vk, r_bin, r_un, r_nil, r_cons, r_tup, r_of, r_call, r_tst, r_kt, r_ikT, r_ikF, r_ite, r_if, r_ife, r_and, r_or, r_not, r_vand, r_vor, r_vnot, r_chain, r_hkT, r_hkF, r_part, r_ok, r_sl, r_seq, r_skN, r_skR, r_skF, r_skB, r_skC, r_next, r_retS, r_rk, r_retF, r_rfk, r_drop, r_dk, r_asg, r_gk, r_gk2, gNm, r_tp, r_gs, r_qk, r_gs0, r_froz, r_frk, r_cmk, r_setI, r_stk, r_stk2, r_sti, r_pl, r_stj, r_aug, r_aug1, r_aug2, r_aug3, r_opN, r_par, r_prk, r_callN, r_tupRg, and_self, ixN0, ixN1, ixN2, r_peek, r_pk, r_pkI, r_pkB, r_pkS, r_pkN, r_tpeek, r_bk1, r_bk2, r_frz, r_fzk, r_own, owk, r_frkK, r_ownK, r_ixEd, r_ixEt, r_ixEl, r_inK, r_ninK, r_mk4, r_mk3, r_met, r_mk2, r_callM, r_mk2b, r_callM1, r_lenIs, r_callF, r_mat, r_mtk, r_mEnd, r_mCase, r_for, r_lk, r_items, r_itL, r_itT, r_rng, r_enum, r_zipM, zipM_ok, r_star, starL_ok, starT_ok, enumL_ok, enumT_ok, for_nil, r_lc, r_lck2, lc_nil, r_outM, r_outMn, r_outM1, r_outM1n, r_outD, r_outDf, r_outDn, r_outF, ixL0, ixL1, ixL2, ixT0, ixT1, ixT2, addI_ok, subI_ok, gtI_ok, geI_ok, leI_ok, ltI_ok, lenL_ok, lenT_ok, abs_ok, intB_ok, List.getElem?_cons_zero, List.getElem?_cons_succ, List.length_cons, List.length_nil, List.set_cons_zero, List.set_cons_succ, List.map_cons, List.map_nil, List.cons_append, List.nil_append, List.replicate_succ, List.replicate_zero, Nat.reduceAdd, Nat.reduceSub, Nat.reduceLT, Nat.reduceEqDiff, Option.bind_some, Option.bind_none, Option.map_some, Option.map_none, if_true, if_false, ite_true, ite_false, ↓reduceIte, Bool.not_true, Bool.not_false, q1]
  cases w with
  | tuple ds =>
    have q1 : isiD "tuple" (.tuple ds) = some (.bool true) := rfl
    match ds, q1 with
    | [], q1 =>
      refine ⟨fun _ _ _ h => (by cases h), fun _ => ⟨[t, .d (.int (M : Int)), .m (.l B), .m (.l E), .d (.int (l : Int)), .d (.tuple []), s6, s7, s8, s9, s10], ?_⟩⟩
      unfold b1_hands_across
      simp -implicitDefEqProofs only [eq_self, r_thn, r_tk, r_tk0, r_ret, r_lift, r_lift0, r_var, r_vk, r_bin, r_un, r_nil, r_cons, r_tup, r_of, r_call, r_tst, r_kt, r_ikT, r_ikF, r_ite, r_if, r_ife, r_and, r_or, r_not, r_vand, r_vor, r_vnot, r_chain, r_hkT, r_hkF, r_part, r_ok, r_sl, r_seq, r_skN, r_skR, r_skF, r_skB, r_skC, r_next, r_retS, r_rk, r_retF, r_rfk, r_drop, r_dk, r_asg, r_gk, r_gk2, gNm, r_tp, r_gs, r_qk, r_gs0, r_froz, r_frk, r_cmk, r_setI, r_stk, r_stk2, r_sti, r_pl, r_stj, r_aug, r_aug1, r_aug2, r_aug3, r_opN, r_par, r_prk, r_callN, r_tupRg, and_self, ixN0, ixN1, ixN2, r_peek, r_pk, r_pkI, r_pkB, r_pkS, r_pkN, r_tpeek, r_bk1, r_bk2, r_frz, r_fzk, r_own, owk, r_frkK, r_ownK, r_ixEd, r_ixEt, r_ixEl, r_inK, r_ninK, r_mk4, r_mk3, r_met, r_mk2, r_callM, r_mk2b, r_callM1, r_lenIs, r_callF, r_mat, r_mtk, r_mEnd, r_mCase, r_for, r_lk, r_items, r_itL, r_itT, r_rng, r_enum, r_zipM, zipM_ok, r_star, starL_ok, starT_ok, enumL_ok, enumT_ok, for_nil, r_lc, r_lck2, lc_nil, r_outM, r_outMn, r_outM1, r_outM1n, r_outD, r_outDf, r_outDn, r_outF, ixL0, ixL1, ixL2, ixT0, ixT1, ixT2, addI_ok, subI_ok, gtI_ok, geI_ok, leI_ok, ltI_ok, lenL_ok, lenT_ok, abs_ok, intB_ok, List.getElem?_cons_zero, List.getElem?_cons_succ, List.length_cons, List.length_nil, List.set_cons_zero, List.set_cons_succ, List.map_cons, List.map_nil, List.cons_append, List.nil_append, List.replicate_succ, List.replicate_zero, Nat.reduceAdd, Nat.reduceSub, Nat.reduceLT, Nat.reduceEqDiff, Option.bind_some, Option.bind_none, Option.map_some, Option.map_none, if_true, if_false, ite_true, ite_false, ↓reduceIte, Bool.not_true, Bool.not_false, q1, show ((0 : Nat) = 2) = False from by decide, show ((0 : Nat) = 1) = False from by decide]
    | a :: b :: c :: r, q1 =>
      refine ⟨fun _ _ _ h => (by cases h), fun _ => ⟨[t, .d (.int (M : Int)), .m (.l B), .m (.l E), .d (.int (l : Int)), .d (.tuple (a :: b :: c :: r)), s6, s7, s8, s9, s10], ?_⟩⟩
      unfold b1_hands_across
      simp -implicitDefEqProofs only [eq_self, r_thn, r_tk, r_tk0, r_ret, r_lift, r_lift0, r_var, r_vk, r_bin, r_un, r_nil, r_cons, r_tup, r_of, r_call, r_tst, r_kt, r_ikT, r_ikF, r_ite, r_if, r_ife, r_and, r_or, r_not, r_vand, r_vor, r_vnot, r_chain, r_hkT, r_hkF, r_part, r_ok, r_sl, r_seq, r_skN, r_skR, r_skF, r_skB, r_skC, r_next, r_retS, r_rk, r_retF, r_rfk, r_drop, r_dk, r_asg, r_gk, r_gk2, gNm, r_tp, r_gs, r_qk, r_gs0, r_froz, r_frk, r_cmk, r_setI, r_stk, r_stk2, r_sti, r_pl, r_stj, r_aug, r_aug1, r_aug2, r_aug3, r_opN, r_par, r_prk, r_callN, r_tupRg, and_self, ixN0, ixN1, ixN2, r_peek, r_pk, r_pkI, r_pkB, r_pkS, r_pkN, r_tpeek, r_bk1, r_bk2, r_frz, r_fzk, r_own, owk, r_frkK, r_ownK, r_ixEd, r_ixEt, r_ixEl, r_inK, r_ninK, r_mk4, r_mk3, r_met, r_mk2, r_callM, r_mk2b, r_callM1, r_lenIs, r_callF, r_mat, r_mtk, r_mEnd, r_mCase, r_for, r_lk, r_items, r_itL, r_itT, r_rng, r_enum, r_zipM, zipM_ok, r_star, starL_ok, starT_ok, enumL_ok, enumT_ok, for_nil, r_lc, r_lck2, lc_nil, r_outM, r_outMn, r_outM1, r_outM1n, r_outD, r_outDf, r_outDn, r_outF, ixL0, ixL1, ixL2, ixT0, ixT1, ixT2, addI_ok, subI_ok, gtI_ok, geI_ok, leI_ok, ltI_ok, lenL_ok, lenT_ok, abs_ok, intB_ok, List.getElem?_cons_zero, List.getElem?_cons_succ, List.length_cons, List.length_nil, List.set_cons_zero, List.set_cons_succ, List.map_cons, List.map_nil, List.cons_append, List.nil_append, List.replicate_succ, List.replicate_zero, Nat.reduceAdd, Nat.reduceSub, Nat.reduceLT, Nat.reduceEqDiff, Option.bind_some, Option.bind_none, Option.map_some, Option.map_none, if_true, if_false, ite_true, ite_false, ↓reduceIte, Bool.not_true, Bool.not_false, q1, show ∀ n : Nat, (n + 1 + 1 + 1 = 2) = False from fun n => eq_false (by omega), show ∀ n : Nat, (n + 1 + 1 + 1 = 1) = False from fun n => eq_false (by omega)]
    | [a], q1 =>
      have sw : stepW M B E l (.tuple [a]) = (numV a).bind fun i => if (l : Int) ≤ i ∧ i < (M : Int) then some (B.set i.toNat a, E ++ [a], i.toNat + 1) else none := rfl
      have fin : ∀ {x : Option Out}, x = some (.rt .none [t, .d (.int (M : Int)), .m (.l B), .m (.l E), .d (.int (l : Int)), .d (.tuple [a]), s6, s7, s8, .d a, s10]) → ∃ ρ, x = some (.rt .none ρ) := fun h => ⟨_, h⟩
      have n12 : ((1 : Nat) = 2) = False := by decide
      cases ha : numV a with
      | none =>
        rw [sw, ha]
        refine ⟨fun B' E' l' h => (by cases h), fun _ => fin ?_⟩
        have i1 : isiD "int" a = some (.bool false) := by rw [isInt_num, ha]; rfl
        unfold b1_hands_across
        simp -implicitDefEqProofs only [eq_self, r_thn, r_tk, r_tk0, r_ret, r_lift, r_lift0, r_var, r_vk, r_bin, r_un, r_nil, r_cons, r_tup, r_of, r_call, r_tst, r_kt, r_ikT, r_ikF, r_ite, r_if, r_ife, r_and, r_or, r_not, r_vand, r_vor, r_vnot, r_chain, r_hkT, r_hkF, r_part, r_ok, r_sl, r_seq, r_skN, r_skR, r_skF, r_skB, r_skC, r_next, r_retS, r_rk, r_retF, r_rfk, r_drop, r_dk, r_asg, r_gk, r_gk2, gNm, r_tp, r_gs, r_qk, r_gs0, r_froz, r_frk, r_cmk, r_setI, r_stk, r_stk2, r_sti, r_pl, r_stj, r_aug, r_aug1, r_aug2, r_aug3, r_opN, r_par, r_prk, r_callN, r_tupRg, and_self, ixN0, ixN1, ixN2, r_peek, r_pk, r_pkI, r_pkB, r_pkS, r_pkN, r_tpeek, r_bk1, r_bk2, r_frz, r_fzk, r_own, owk, r_frkK, r_ownK, r_ixEd, r_ixEt, r_ixEl, r_inK, r_ninK, r_mk4, r_mk3, r_met, r_mk2, r_callM, r_mk2b, r_callM1, r_lenIs, r_callF, r_mat, r_mtk, r_mEnd, r_mCase, r_for, r_lk, r_items, r_itL, r_itT, r_rng, r_enum, r_zipM, zipM_ok, r_star, starL_ok, starT_ok, enumL_ok, enumT_ok, for_nil, r_lc, r_lck2, lc_nil, r_outM, r_outMn, r_outM1, r_outM1n, r_outD, r_outDf, r_outDn, r_outF, ixL0, ixL1, ixL2, ixT0, ixT1, ixT2, addI_ok, subI_ok, gtI_ok, geI_ok, leI_ok, ltI_ok, lenL_ok, lenT_ok, abs_ok, intB_ok, List.getElem?_cons_zero, List.getElem?_cons_succ, List.length_cons, List.length_nil, List.set_cons_zero, List.set_cons_succ, List.map_cons, List.map_nil, List.cons_append, List.nil_append, List.replicate_succ, List.replicate_zero, Nat.reduceAdd, Nat.reduceSub, Nat.reduceLT, Nat.reduceEqDiff, Option.bind_some, Option.bind_none, Option.map_some, Option.map_none, if_true, if_false, ite_true, ite_false, ↓reduceIte, Bool.not_true, Bool.not_false, q1, n12, i1]
      | some i =>
        have i1 : isiD "int" a = some (.bool true) := by rw [isInt_num, ha]; rfl
        rw [sw, ha, Option.bind_some]
        by_cases h1 : (l : Int) ≤ i
        · have c1 : decide ((l : Int) ≤ i) = true := decide_eq_true h1
          by_cases h2 : i < (M : Int)
          · have c2 : decide (i < (M : Int)) = true := decide_eq_true h2
            rw [if_pos ⟨h1, h2⟩]
            refine ⟨fun B' E' l' h => ?_, fun h => by cases h⟩
            cases h
            obtain ⟨n, rfl⟩ : ∃ n : Nat, i = (n : Int) := ⟨i.toNat, by omega⟩
            have p1 : plI B.length a = some n := pl_num ha (by omega)
            have ap : appG E [a] = some (.none, E ++ [a]) := if_pos (by omega)
            refine ⟨.d a, s10, ?_⟩
            unfold b1_hands_across
            simp -implicitDefEqProofs only [eq_self, r_thn, r_tk, r_tk0, r_ret, r_lift, r_lift0, r_var, r_vk, r_bin, r_un, r_nil, r_cons, r_tup, r_of, r_call, r_tst, r_kt, r_ikT, r_ikF, r_ite, r_if, r_ife, r_and, r_or, r_not, r_vand, r_vor, r_vnot, r_chain, r_hkT, r_hkF, r_part, r_ok, r_sl, r_seq, r_skN, r_skR, r_skF, r_skB, r_skC, r_next, r_retS, r_rk, r_retF, r_rfk, r_drop, r_dk, r_asg, r_gk, r_gk2, gNm, r_tp, r_gs, r_qk, r_gs0, r_froz, r_frk, r_cmk, r_setI, r_stk, r_stk2, r_sti, r_pl, r_stj, r_aug, r_aug1, r_aug2, r_aug3, r_opN, r_par, r_prk, r_callN, r_tupRg, and_self, ixN0, ixN1, ixN2, r_peek, r_pk, r_pkI, r_pkB, r_pkS, r_pkN, r_tpeek, r_bk1, r_bk2, r_frz, r_fzk, r_own, owk, r_frkK, r_ownK, r_ixEd, r_ixEt, r_ixEl, r_inK, r_ninK, r_mk4, r_mk3, r_met, r_mk2, r_callM, r_mk2b, r_callM1, r_lenIs, r_callF, r_mat, r_mtk, r_mEnd, r_mCase, r_for, r_lk, r_items, r_itL, r_itT, r_rng, r_enum, r_zipM, zipM_ok, r_star, starL_ok, starT_ok, enumL_ok, enumT_ok, for_nil, r_lc, r_lck2, lc_nil, r_outM, r_outMn, r_outM1, r_outM1n, r_outD, r_outDf, r_outDn, r_outF, ixL0, ixL1, ixL2, ixT0, ixT1, ixT2, addI_ok, subI_ok, gtI_ok, geI_ok, leI_ok, ltI_ok, lenL_ok, lenT_ok, abs_ok, intB_ok, List.getElem?_cons_zero, List.getElem?_cons_succ, List.length_cons, List.length_nil, List.set_cons_zero, List.set_cons_succ, List.map_cons, List.map_nil, List.cons_append, List.nil_append, List.replicate_succ, List.replicate_zero, Nat.reduceAdd, Nat.reduceSub, Nat.reduceLT, Nat.reduceEqDiff, Option.bind_some, Option.bind_none, Option.map_some, Option.map_none, if_true, if_false, ite_true, ite_false, ↓reduceIte, Bool.not_true, Bool.not_false, q1, n12, i1, ge_num ha, c1, lt_num ha (show numV (.int (M : Int)) = some (M : Int) from rfl), c2, p1, ap, add_num ha]
            rfl
          · rw [if_neg fun z => h2 z.2]
            refine ⟨fun B' E' l' h => (by cases h), fun _ => fin ?_⟩
            have c2 : decide (i < (M : Int)) = false := decide_eq_false h2
            unfold b1_hands_across
            simp -implicitDefEqProofs only [eq_self, r_thn, r_tk, r_tk0, r_ret, r_lift, r_lift0, r_var, r_vk, r_bin, r_un, r_nil, r_cons, r_tup, r_of, r_call, r_tst, r_kt, r_ikT, r_ikF, r_ite, r_if, r_ife, r_and, r_or, r_not, r_vand, r_vor, r_vnot, r_chain, r_hkT, r_hkF, r_part, r_ok, r_sl, r_seq, r_skN, r_skR, r_skF, r_skB, r_skC, r_next, r_retS, r_rk, r_retF, r_rfk, r_drop, r_dk, r_asg, r_gk, r_gk2, gNm, r_tp, r_gs, r_qk, r_gs0, r_froz, r_frk, r_cmk, r_setI, r_stk, r_stk2, r_sti, r_pl, r_stj, r_aug, r_aug1, r_aug2, r_aug3, r_opN, r_par, r_prk, r_callN, r_tupRg, and_self, ixN0, ixN1, ixN2, r_peek, r_pk, r_pkI, r_pkB, r_pkS, r_pkN, r_tpeek, r_bk1, r_bk2, r_frz, r_fzk, r_own, owk, r_frkK, r_ownK, r_ixEd, r_ixEt, r_ixEl, r_inK, r_ninK, r_mk4, r_mk3, r_met, r_mk2, r_callM, r_mk2b, r_callM1, r_lenIs, r_callF, r_mat, r_mtk, r_mEnd, r_mCase, r_for, r_lk, r_items, r_itL, r_itT, r_rng, r_enum, r_zipM, zipM_ok, r_star, starL_ok, starT_ok, enumL_ok, enumT_ok, for_nil, r_lc, r_lck2, lc_nil, r_outM, r_outMn, r_outM1, r_outM1n, r_outD, r_outDf, r_outDn, r_outF, ixL0, ixL1, ixL2, ixT0, ixT1, ixT2, addI_ok, subI_ok, gtI_ok, geI_ok, leI_ok, ltI_ok, lenL_ok, lenT_ok, abs_ok, intB_ok, List.getElem?_cons_zero, List.getElem?_cons_succ, List.length_cons, List.length_nil, List.set_cons_zero, List.set_cons_succ, List.map_cons, List.map_nil, List.cons_append, List.nil_append, List.replicate_succ, List.replicate_zero, Nat.reduceAdd, Nat.reduceSub, Nat.reduceLT, Nat.reduceEqDiff, Option.bind_some, Option.bind_none, Option.map_some, Option.map_none, if_true, if_false, ite_true, ite_false, ↓reduceIte, Bool.not_true, Bool.not_false, q1, n12, i1, ge_num ha, c1, lt_num ha (show numV (.int (M : Int)) = some (M : Int) from rfl), c2]
        · rw [if_neg fun z => h1 z.1]
          refine ⟨fun B' E' l' h => (by cases h), fun _ => fin ?_⟩
          have c1 : decide ((l : Int) ≤ i) = false := decide_eq_false h1
          unfold b1_hands_across
          simp -implicitDefEqProofs only [eq_self, r_thn, r_tk, r_tk0, r_ret, r_lift, r_lift0, r_var, r_vk, r_bin, r_un, r_nil, r_cons, r_tup, r_of, r_call, r_tst, r_kt, r_ikT, r_ikF, r_ite, r_if, r_ife, r_and, r_or, r_not, r_vand, r_vor, r_vnot, r_chain, r_hkT, r_hkF, r_part, r_ok, r_sl, r_seq, r_skN, r_skR, r_skF, r_skB, r_skC, r_next, r_retS, r_rk, r_retF, r_rfk, r_drop, r_dk, r_asg, r_gk, r_gk2, gNm, r_tp, r_gs, r_qk, r_gs0, r_froz, r_frk, r_cmk, r_setI, r_stk, r_stk2, r_sti, r_pl, r_stj, r_aug, r_aug1, r_aug2, r_aug3, r_opN, r_par, r_prk, r_callN, r_tupRg, and_self, ixN0, ixN1, ixN2, r_peek, r_pk, r_pkI, r_pkB, r_pkS, r_pkN, r_tpeek, r_bk1, r_bk2, r_frz, r_fzk, r_own, owk, r_frkK, r_ownK, r_ixEd, r_ixEt, r_ixEl, r_inK, r_ninK, r_mk4, r_mk3, r_met, r_mk2, r_callM, r_mk2b, r_callM1, r_lenIs, r_callF, r_mat, r_mtk, r_mEnd, r_mCase, r_for, r_lk, r_items, r_itL, r_itT, r_rng, r_enum, r_zipM, zipM_ok, r_star, starL_ok, starT_ok, enumL_ok, enumT_ok, for_nil, r_lc, r_lck2, lc_nil, r_outM, r_outMn, r_outM1, r_outM1n, r_outD, r_outDf, r_outDn, r_outF, ixL0, ixL1, ixL2, ixT0, ixT1, ixT2, addI_ok, subI_ok, gtI_ok, geI_ok, leI_ok, ltI_ok, lenL_ok, lenT_ok, abs_ok, intB_ok, List.getElem?_cons_zero, List.getElem?_cons_succ, List.length_cons, List.length_nil, List.set_cons_zero, List.set_cons_succ, List.map_cons, List.map_nil, List.cons_append, List.nil_append, List.replicate_succ, List.replicate_zero, Nat.reduceAdd, Nat.reduceSub, Nat.reduceLT, Nat.reduceEqDiff, Option.bind_some, Option.bind_none, Option.map_some, Option.map_none, if_true, if_false, ite_true, ite_false, ↓reduceIte, Bool.not_true, Bool.not_false, q1, n12, i1, ge_num ha, c1]
    | [a, b], q1 =>
      have sw : stepW M B E l (.tuple [a, b]) = (numV a).bind fun i => (numV b).bind fun j => if (l : Int) ≤ i ∧ i < j ∧ j < (M : Int) then some ((B.set i.toNat b).set j.toNat a, E, i.toNat + 1) else none := rfl
      have fin : ∀ {x : Option Out}, x = some (.rt .none [t, .d (.int (M : Int)), .m (.l B), .m (.l E), .d (.int (l : Int)), .d (.tuple [a, b]), s6, s7, s8, .d a, .d b]) → ∃ ρ, x = some (.rt .none ρ) := fun h => ⟨_, h⟩
      have nM : numV (.int (M : Int)) = some (M : Int) := rfl
      cases ha : numV a with
      | none =>
        rw [sw, ha]
        refine ⟨fun B' E' l' h => (by cases h), fun _ => fin ?_⟩
        have i1 : isiD "int" a = some (.bool false) := by rw [isInt_num, ha]; rfl
        have c0 : decide (numV a = some (l : Int)) = false := decide_eq_false (by rw [ha]; exact fun z => nomatch z)
        unfold b1_hands_across
        simp -implicitDefEqProofs only [eq_self, r_thn, r_tk, r_tk0, r_ret, r_lift, r_lift0, r_var, r_vk, r_bin, r_un, r_nil, r_cons, r_tup, r_of, r_call, r_tst, r_kt, r_ikT, r_ikF, r_ite, r_if, r_ife, r_and, r_or, r_not, r_vand, r_vor, r_vnot, r_chain, r_hkT, r_hkF, r_part, r_ok, r_sl, r_seq, r_skN, r_skR, r_skF, r_skB, r_skC, r_next, r_retS, r_rk, r_retF, r_rfk, r_drop, r_dk, r_asg, r_gk, r_gk2, gNm, r_tp, r_gs, r_qk, r_gs0, r_froz, r_frk, r_cmk, r_setI, r_stk, r_stk2, r_sti, r_pl, r_stj, r_aug, r_aug1, r_aug2, r_aug3, r_opN, r_par, r_prk, r_callN, r_tupRg, and_self, ixN0, ixN1, ixN2, r_peek, r_pk, r_pkI, r_pkB, r_pkS, r_pkN, r_tpeek, r_bk1, r_bk2, r_frz, r_fzk, r_own, owk, r_frkK, r_ownK, r_ixEd, r_ixEt, r_ixEl, r_inK, r_ninK, r_mk4, r_mk3, r_met, r_mk2, r_callM, r_mk2b, r_callM1, r_lenIs, r_callF, r_mat, r_mtk, r_mEnd, r_mCase, r_for, r_lk, r_items, r_itL, r_itT, r_rng, r_enum, r_zipM, zipM_ok, r_star, starL_ok, starT_ok, enumL_ok, enumT_ok, for_nil, r_lc, r_lck2, lc_nil, r_outM, r_outMn, r_outM1, r_outM1n, r_outD, r_outDf, r_outDn, r_outF, ixL0, ixL1, ixL2, ixT0, ixT1, ixT2, addI_ok, subI_ok, gtI_ok, geI_ok, leI_ok, ltI_ok, lenL_ok, lenT_ok, abs_ok, intB_ok, List.getElem?_cons_zero, List.getElem?_cons_succ, List.length_cons, List.length_nil, List.set_cons_zero, List.set_cons_succ, List.map_cons, List.map_nil, List.cons_append, List.nil_append, List.replicate_succ, List.replicate_zero, Nat.reduceAdd, Nat.reduceSub, Nat.reduceLT, Nat.reduceEqDiff, Option.bind_some, Option.bind_none, Option.map_some, Option.map_none, if_true, if_false, ite_true, ite_false, ↓reduceIte, Bool.not_true, Bool.not_false, q1, eq_num, c0, i1]
      | some i =>
        have i1 : isiD "int" a = some (.bool true) := by rw [isInt_num, ha]; rfl
        rw [sw, ha, Option.bind_some]
        by_cases h1 : (l : Int) ≤ i
        · have one : ∀ {γ : Type} {f g : Rho → Option γ}, ik (ik (kt (liftO (eqD a (.int (l : Int))) [t, .d (.int (M : Int)), .m (.l B), .m (.l E), .d (.int (l : Int)), .d (.tuple [a, b]), s6, s7, s8, .d a, .d b])) (Tw.ret true) (tdAnd (fTst (fUn (isiD "int") (fVar 9))) (fTst (fBin gtI (fVar 9) (fVar 4))))) f g =
              f [t, .d (.int (M : Int)), .m (.l B), .m (.l E), .d (.int (l : Int)), .d (.tuple [a, b]), s6, s7, s8, .d a, .d b] := fun {γ f g} => by
            by_cases h0 : i = (l : Int)
            · have c0 : decide (numV a = some (l : Int)) = true := decide_eq_true (by rw [ha, h0])
              simp -implicitDefEqProofs only [eq_self, r_thn, r_tk, r_tk0, r_ret, r_lift, r_lift0, r_var, r_vk, r_bin, r_un, r_nil, r_cons, r_tup, r_of, r_call, r_tst, r_kt, r_ikT, r_ikF, r_ite, r_if, r_ife, r_and, r_or, r_not, r_vand, r_vor, r_vnot, r_chain, r_hkT, r_hkF, r_part, r_ok, r_sl, r_seq, r_skN, r_skR, r_skF, r_skB, r_skC, r_next, r_retS, r_rk, r_retF, r_rfk, r_drop, r_dk, r_asg, r_gk, r_gk2, gNm, r_tp, r_gs, r_qk, r_gs0, r_froz, r_frk, r_cmk, r_setI, r_stk, r_stk2, r_sti, r_pl, r_stj, r_aug, r_aug1, r_aug2, r_aug3, r_opN, r_par, r_prk, r_callN, r_tupRg, and_self, ixN0, ixN1, ixN2, r_peek, r_pk, r_pkI, r_pkB, r_pkS, r_pkN, r_tpeek, r_bk1, r_bk2, r_frz, r_fzk, r_own, owk, r_frkK, r_ownK, r_ixEd, r_ixEt, r_ixEl, r_inK, r_ninK, r_mk4, r_mk3, r_met, r_mk2, r_callM, r_mk2b, r_callM1, r_lenIs, r_callF, r_mat, r_mtk, r_mEnd, r_mCase, r_for, r_lk, r_items, r_itL, r_itT, r_rng, r_enum, r_zipM, zipM_ok, r_star, starL_ok, starT_ok, enumL_ok, enumT_ok, for_nil, r_lc, r_lck2, lc_nil, r_outM, r_outMn, r_outM1, r_outM1n, r_outD, r_outDf, r_outDn, r_outF, ixL0, ixL1, ixL2, ixT0, ixT1, ixT2, addI_ok, subI_ok, gtI_ok, geI_ok, leI_ok, ltI_ok, lenL_ok, lenT_ok, abs_ok, intB_ok, List.getElem?_cons_zero, List.getElem?_cons_succ, List.length_cons, List.length_nil, List.set_cons_zero, List.set_cons_succ, List.map_cons, List.map_nil, List.cons_append, List.nil_append, List.replicate_succ, List.replicate_zero, Nat.reduceAdd, Nat.reduceSub, Nat.reduceLT, Nat.reduceEqDiff, Option.bind_some, Option.bind_none, Option.map_some, Option.map_none, if_true, if_false, ite_true, ite_false, ↓reduceIte, Bool.not_true, Bool.not_false, eq_num, c0]
            · have c0 : decide (numV a = some (l : Int)) = false := decide_eq_false (by rw [ha]; exact fun z => h0 (Option.some.inj z))
              have c1 : decide ((l : Int) < i) = true := decide_eq_true (by omega)
              simp -implicitDefEqProofs only [eq_self, r_thn, r_tk, r_tk0, r_ret, r_lift, r_lift0, r_var, r_vk, r_bin, r_un, r_nil, r_cons, r_tup, r_of, r_call, r_tst, r_kt, r_ikT, r_ikF, r_ite, r_if, r_ife, r_and, r_or, r_not, r_vand, r_vor, r_vnot, r_chain, r_hkT, r_hkF, r_part, r_ok, r_sl, r_seq, r_skN, r_skR, r_skF, r_skB, r_skC, r_next, r_retS, r_rk, r_retF, r_rfk, r_drop, r_dk, r_asg, r_gk, r_gk2, gNm, r_tp, r_gs, r_qk, r_gs0, r_froz, r_frk, r_cmk, r_setI, r_stk, r_stk2, r_sti, r_pl, r_stj, r_aug, r_aug1, r_aug2, r_aug3, r_opN, r_par, r_prk, r_callN, r_tupRg, and_self, ixN0, ixN1, ixN2, r_peek, r_pk, r_pkI, r_pkB, r_pkS, r_pkN, r_tpeek, r_bk1, r_bk2, r_frz, r_fzk, r_own, owk, r_frkK, r_ownK, r_ixEd, r_ixEt, r_ixEl, r_inK, r_ninK, r_mk4, r_mk3, r_met, r_mk2, r_callM, r_mk2b, r_callM1, r_lenIs, r_callF, r_mat, r_mtk, r_mEnd, r_mCase, r_for, r_lk, r_items, r_itL, r_itT, r_rng, r_enum, r_zipM, zipM_ok, r_star, starL_ok, starT_ok, enumL_ok, enumT_ok, for_nil, r_lc, r_lck2, lc_nil, r_outM, r_outMn, r_outM1, r_outM1n, r_outD, r_outDf, r_outDn, r_outF, ixL0, ixL1, ixL2, ixT0, ixT1, ixT2, addI_ok, subI_ok, gtI_ok, geI_ok, leI_ok, ltI_ok, lenL_ok, lenT_ok, abs_ok, intB_ok, List.getElem?_cons_zero, List.getElem?_cons_succ, List.length_cons, List.length_nil, List.set_cons_zero, List.set_cons_succ, List.map_cons, List.map_nil, List.cons_append, List.nil_append, List.replicate_succ, List.replicate_zero, Nat.reduceAdd, Nat.reduceSub, Nat.reduceLT, Nat.reduceEqDiff, Option.bind_some, Option.bind_none, Option.map_some, Option.map_none, if_true, if_false, ite_true, ite_false, ↓reduceIte, Bool.not_true, Bool.not_false, eq_num, c0, i1, gt_num ha, c1]
          cases hb : numV b with
          | none =>
            refine ⟨fun B' E' l' h => (by cases h), fun _ => fin ?_⟩
            have i2 : isiD "int" b = some (.bool false) := by rw [isInt_num, hb]; rfl
            unfold b1_hands_across
            simp -implicitDefEqProofs only [eq_self, r_thn, r_tk, r_tk0, r_ret, r_lift, r_lift0, r_var, r_vk, r_bin, r_un, r_nil, r_cons, r_tup, r_of, r_call, r_tst, r_kt, r_ikT, r_ikF, r_ite, r_if, r_ife, r_and, r_or, r_not, r_vand, r_vor, r_vnot, r_chain, r_hkT, r_hkF, r_part, r_ok, r_sl, r_seq, r_skN, r_skR, r_skF, r_skB, r_skC, r_next, r_retS, r_rk, r_retF, r_rfk, r_drop, r_dk, r_asg, r_gk, r_gk2, gNm, r_tp, r_gs, r_qk, r_gs0, r_froz, r_frk, r_cmk, r_setI, r_stk, r_stk2, r_sti, r_pl, r_stj, r_aug, r_aug1, r_aug2, r_aug3, r_opN, r_par, r_prk, r_callN, r_tupRg, and_self, ixN0, ixN1, ixN2, r_peek, r_pk, r_pkI, r_pkB, r_pkS, r_pkN, r_tpeek, r_bk1, r_bk2, r_frz, r_fzk, r_own, owk, r_frkK, r_ownK, r_ixEd, r_ixEt, r_ixEl, r_inK, r_ninK, r_mk4, r_mk3, r_met, r_mk2, r_callM, r_mk2b, r_callM1, r_lenIs, r_callF, r_mat, r_mtk, r_mEnd, r_mCase, r_for, r_lk, r_items, r_itL, r_itT, r_rng, r_enum, r_zipM, zipM_ok, r_star, starL_ok, starT_ok, enumL_ok, enumT_ok, for_nil, r_lc, r_lck2, lc_nil, r_outM, r_outMn, r_outM1, r_outM1n, r_outD, r_outDf, r_outDn, r_outF, ixL0, ixL1, ixL2, ixT0, ixT1, ixT2, addI_ok, subI_ok, gtI_ok, geI_ok, leI_ok, ltI_ok, lenL_ok, lenT_ok, abs_ok, intB_ok, List.getElem?_cons_zero, List.getElem?_cons_succ, List.length_cons, List.length_nil, List.set_cons_zero, List.set_cons_succ, List.map_cons, List.map_nil, List.cons_append, List.nil_append, List.replicate_succ, List.replicate_zero, Nat.reduceAdd, Nat.reduceSub, Nat.reduceLT, Nat.reduceEqDiff, Option.bind_some, Option.bind_none, Option.map_some, Option.map_none, if_true, if_false, ite_true, ite_false, ↓reduceIte, Bool.not_true, Bool.not_false, q1, one, i2]
          | some j =>
            have i2 : isiD "int" b = some (.bool true) := by rw [isInt_num, hb]; rfl
            rw [Option.bind_some]
            by_cases h2 : i < j
            · have c2 : decide (i < j) = true := decide_eq_true h2
              by_cases h3 : j < (M : Int)
              · have c3 : decide (j < (M : Int)) = true := decide_eq_true h3
                rw [if_pos ⟨h1, h2, h3⟩]
                refine ⟨fun B' E' l' h => ?_, fun h => by cases h⟩
                cases h
                obtain ⟨n, rfl⟩ : ∃ n : Nat, i = (n : Int) := ⟨i.toNat, by omega⟩
                obtain ⟨m, rfl⟩ : ∃ m : Nat, j = (m : Int) := ⟨j.toNat, by omega⟩
                have p1 : plI B.length a = some n := pl_num ha (by omega)
                have p2 : plI B.length b = some m := pl_num hb (by omega)
                refine ⟨.d a, .d b, ?_⟩
                unfold b1_hands_across
                simp -implicitDefEqProofs only [eq_self, r_thn, r_tk, r_tk0, r_ret, r_lift, r_lift0, r_var, r_vk, r_bin, r_un, r_nil, r_cons, r_tup, r_of, r_call, r_tst, r_kt, r_ikT, r_ikF, r_ite, r_if, r_ife, r_and, r_or, r_not, r_vand, r_vor, r_vnot, r_chain, r_hkT, r_hkF, r_part, r_ok, r_sl, r_seq, r_skN, r_skR, r_skF, r_skB, r_skC, r_next, r_retS, r_rk, r_retF, r_rfk, r_drop, r_dk, r_asg, r_gk, r_gk2, gNm, r_tp, r_gs, r_qk, r_gs0, r_froz, r_frk, r_cmk, r_setI, r_stk, r_stk2, r_sti, r_pl, r_stj, r_aug, r_aug1, r_aug2, r_aug3, r_opN, r_par, r_prk, r_callN, r_tupRg, and_self, ixN0, ixN1, ixN2, r_peek, r_pk, r_pkI, r_pkB, r_pkS, r_pkN, r_tpeek, r_bk1, r_bk2, r_frz, r_fzk, r_own, owk, r_frkK, r_ownK, r_ixEd, r_ixEt, r_ixEl, r_inK, r_ninK, r_mk4, r_mk3, r_met, r_mk2, r_callM, r_mk2b, r_callM1, r_lenIs, r_callF, r_mat, r_mtk, r_mEnd, r_mCase, r_for, r_lk, r_items, r_itL, r_itT, r_rng, r_enum, r_zipM, zipM_ok, r_star, starL_ok, starT_ok, enumL_ok, enumT_ok, for_nil, r_lc, r_lck2, lc_nil, r_outM, r_outMn, r_outM1, r_outM1n, r_outD, r_outDf, r_outDn, r_outF, ixL0, ixL1, ixL2, ixT0, ixT1, ixT2, addI_ok, subI_ok, gtI_ok, geI_ok, leI_ok, ltI_ok, lenL_ok, lenT_ok, abs_ok, intB_ok, List.getElem?_cons_zero, List.getElem?_cons_succ, List.length_cons, List.length_nil, List.set_cons_zero, List.set_cons_succ, List.map_cons, List.map_nil, List.cons_append, List.nil_append, List.replicate_succ, List.replicate_zero, Nat.reduceAdd, Nat.reduceSub, Nat.reduceLT, Nat.reduceEqDiff, Option.bind_some, Option.bind_none, Option.map_some, Option.map_none, if_true, if_false, ite_true, ite_false, ↓reduceIte, Bool.not_true, Bool.not_false, q1, one, i2, lt_num ha hb, c2, lt_num hb nM, c3, p1, List.length_set, p2, add_num ha]
                rfl
              · rw [if_neg fun z => h3 z.2.2]
                refine ⟨fun B' E' l' h => (by cases h), fun _ => fin ?_⟩
                have c3 : decide (j < (M : Int)) = false := decide_eq_false h3
                unfold b1_hands_across
                simp -implicitDefEqProofs only [eq_self, r_thn, r_tk, r_tk0, r_ret, r_lift, r_lift0, r_var, r_vk, r_bin, r_un, r_nil, r_cons, r_tup, r_of, r_call, r_tst, r_kt, r_ikT, r_ikF, r_ite, r_if, r_ife, r_and, r_or, r_not, r_vand, r_vor, r_vnot, r_chain, r_hkT, r_hkF, r_part, r_ok, r_sl, r_seq, r_skN, r_skR, r_skF, r_skB, r_skC, r_next, r_retS, r_rk, r_retF, r_rfk, r_drop, r_dk, r_asg, r_gk, r_gk2, gNm, r_tp, r_gs, r_qk, r_gs0, r_froz, r_frk, r_cmk, r_setI, r_stk, r_stk2, r_sti, r_pl, r_stj, r_aug, r_aug1, r_aug2, r_aug3, r_opN, r_par, r_prk, r_callN, r_tupRg, and_self, ixN0, ixN1, ixN2, r_peek, r_pk, r_pkI, r_pkB, r_pkS, r_pkN, r_tpeek, r_bk1, r_bk2, r_frz, r_fzk, r_own, owk, r_frkK, r_ownK, r_ixEd, r_ixEt, r_ixEl, r_inK, r_ninK, r_mk4, r_mk3, r_met, r_mk2, r_callM, r_mk2b, r_callM1, r_lenIs, r_callF, r_mat, r_mtk, r_mEnd, r_mCase, r_for, r_lk, r_items, r_itL, r_itT, r_rng, r_enum, r_zipM, zipM_ok, r_star, starL_ok, starT_ok, enumL_ok, enumT_ok, for_nil, r_lc, r_lck2, lc_nil, r_outM, r_outMn, r_outM1, r_outM1n, r_outD, r_outDf, r_outDn, r_outF, ixL0, ixL1, ixL2, ixT0, ixT1, ixT2, addI_ok, subI_ok, gtI_ok, geI_ok, leI_ok, ltI_ok, lenL_ok, lenT_ok, abs_ok, intB_ok, List.getElem?_cons_zero, List.getElem?_cons_succ, List.length_cons, List.length_nil, List.set_cons_zero, List.set_cons_succ, List.map_cons, List.map_nil, List.cons_append, List.nil_append, List.replicate_succ, List.replicate_zero, Nat.reduceAdd, Nat.reduceSub, Nat.reduceLT, Nat.reduceEqDiff, Option.bind_some, Option.bind_none, Option.map_some, Option.map_none, if_true, if_false, ite_true, ite_false, ↓reduceIte, Bool.not_true, Bool.not_false, q1, one, i2, lt_num ha hb, c2, lt_num hb nM, c3]
            · rw [if_neg fun z => h2 z.2.1]
              refine ⟨fun B' E' l' h => (by cases h), fun _ => fin ?_⟩
              have c2 : decide (i < j) = false := decide_eq_false h2
              unfold b1_hands_across
              simp -implicitDefEqProofs only [eq_self, r_thn, r_tk, r_tk0, r_ret, r_lift, r_lift0, r_var, r_vk, r_bin, r_un, r_nil, r_cons, r_tup, r_of, r_call, r_tst, r_kt, r_ikT, r_ikF, r_ite, r_if, r_ife, r_and, r_or, r_not, r_vand, r_vor, r_vnot, r_chain, r_hkT, r_hkF, r_part, r_ok, r_sl, r_seq, r_skN, r_skR, r_skF, r_skB, r_skC, r_next, r_retS, r_rk, r_retF, r_rfk, r_drop, r_dk, r_asg, r_gk, r_gk2, gNm, r_tp, r_gs, r_qk, r_gs0, r_froz, r_frk, r_cmk, r_setI, r_stk, r_stk2, r_sti, r_pl, r_stj, r_aug, r_aug1, r_aug2, r_aug3, r_opN, r_par, r_prk, r_callN, r_tupRg, and_self, ixN0, ixN1, ixN2, r_peek, r_pk, r_pkI, r_pkB, r_pkS, r_pkN, r_tpeek, r_bk1, r_bk2, r_frz, r_fzk, r_own, owk, r_frkK, r_ownK, r_ixEd, r_ixEt, r_ixEl, r_inK, r_ninK, r_mk4, r_mk3, r_met, r_mk2, r_callM, r_mk2b, r_callM1, r_lenIs, r_callF, r_mat, r_mtk, r_mEnd, r_mCase, r_for, r_lk, r_items, r_itL, r_itT, r_rng, r_enum, r_zipM, zipM_ok, r_star, starL_ok, starT_ok, enumL_ok, enumT_ok, for_nil, r_lc, r_lck2, lc_nil, r_outM, r_outMn, r_outM1, r_outM1n, r_outD, r_outDf, r_outDn, r_outF, ixL0, ixL1, ixL2, ixT0, ixT1, ixT2, addI_ok, subI_ok, gtI_ok, geI_ok, leI_ok, ltI_ok, lenL_ok, lenT_ok, abs_ok, intB_ok, List.getElem?_cons_zero, List.getElem?_cons_succ, List.length_cons, List.length_nil, List.set_cons_zero, List.set_cons_succ, List.map_cons, List.map_nil, List.cons_append, List.nil_append, List.replicate_succ, List.replicate_zero, Nat.reduceAdd, Nat.reduceSub, Nat.reduceLT, Nat.reduceEqDiff, Option.bind_some, Option.bind_none, Option.map_some, Option.map_none, if_true, if_false, ite_true, ite_false, ↓reduceIte, Bool.not_true, Bool.not_false, q1, one, i2, lt_num ha hb, c2]
        · have c0 : decide (numV a = some (l : Int)) = false := decide_eq_false (by rw [ha]; exact fun z => h1 (by have := Option.some.inj z; omega))
          have c1 : decide ((l : Int) < i) = false := decide_eq_false (by omega)
          have nn : ((numV b).bind fun j => if (l : Int) ≤ i ∧ i < j ∧ j < (M : Int) then some ((B.set i.toNat b).set j.toNat a, E, i.toNat + 1) else none) = none := by
            cases numV b with
            | none => rfl
            | some j => exact if_neg fun z => h1 z.1
          rw [nn]
          refine ⟨fun B' E' l' h => (by cases h), fun _ => fin ?_⟩
          unfold b1_hands_across
          simp -implicitDefEqProofs only [eq_self, r_thn, r_tk, r_tk0, r_ret, r_lift, r_lift0, r_var, r_vk, r_bin, r_un, r_nil, r_cons, r_tup, r_of, r_call, r_tst, r_kt, r_ikT, r_ikF, r_ite, r_if, r_ife, r_and, r_or, r_not, r_vand, r_vor, r_vnot, r_chain, r_hkT, r_hkF, r_part, r_ok, r_sl, r_seq, r_skN, r_skR, r_skF, r_skB, r_skC, r_next, r_retS, r_rk, r_retF, r_rfk, r_drop, r_dk, r_asg, r_gk, r_gk2, gNm, r_tp, r_gs, r_qk, r_gs0, r_froz, r_frk, r_cmk, r_setI, r_stk, r_stk2, r_sti, r_pl, r_stj, r_aug, r_aug1, r_aug2, r_aug3, r_opN, r_par, r_prk, r_callN, r_tupRg, and_self, ixN0, ixN1, ixN2, r_peek, r_pk, r_pkI, r_pkB, r_pkS, r_pkN, r_tpeek, r_bk1, r_bk2, r_frz, r_fzk, r_own, owk, r_frkK, r_ownK, r_ixEd, r_ixEt, r_ixEl, r_inK, r_ninK, r_mk4, r_mk3, r_met, r_mk2, r_callM, r_mk2b, r_callM1, r_lenIs, r_callF, r_mat, r_mtk, r_mEnd, r_mCase, r_for, r_lk, r_items, r_itL, r_itT, r_rng, r_enum, r_zipM, zipM_ok, r_star, starL_ok, starT_ok, enumL_ok, enumT_ok, for_nil, r_lc, r_lck2, lc_nil, r_outM, r_outMn, r_outM1, r_outM1n, r_outD, r_outDf, r_outDn, r_outF, ixL0, ixL1, ixL2, ixT0, ixT1, ixT2, addI_ok, subI_ok, gtI_ok, geI_ok, leI_ok, ltI_ok, lenL_ok, lenT_ok, abs_ok, intB_ok, List.getElem?_cons_zero, List.getElem?_cons_succ, List.length_cons, List.length_nil, List.set_cons_zero, List.set_cons_succ, List.map_cons, List.map_nil, List.cons_append, List.nil_append, List.replicate_succ, List.replicate_zero, Nat.reduceAdd, Nat.reduceSub, Nat.reduceLT, Nat.reduceEqDiff, Option.bind_some, Option.bind_none, Option.map_some, Option.map_none, if_true, if_false, ite_true, ite_false, ↓reduceIte, Bool.not_true, Bool.not_false, q1, eq_num, c0, i1, gt_num ha, c1]
  | _ => exact ⟨fun _ _ _ h => (by cases h), fun _ => no rfl⟩
end Lw

set_option Elab.async false
set_option linter.all false
set_option maxRecDepth 100000
set_option maxHeartbeats 4000000
namespace Lw
open PySem PySem.Spec PyProof.Rows L2 Tw
theorem flatW_one (V : List (Int × Option Int)) (v : Int × Option Int) : flatW (V ++ [v]) = flatW V ++ (v.1 :: v.2.toList) := by
  rw [flatW_app]
  show _ ++ ((v.1 :: v.2.toList) ++ []) = _
  rw [List.append_nil]
theorem mem_flat2 {V : List (Int × Option Int)} {v : Int × Option Int} {g : Int} (h : v ∈ V) (e : v.2 = some g) : g ∈ flatW V := List.mem_flatMap.mpr ⟨v, h, by rw [e]; simp⟩
def handsT : PyData → List PyData
  | .tuple ds => ds
  | _ => []
def wayN : PyData → Option (Int × Option Int)
  | .tuple [a] => (numV a).map fun i => (i, none)
  | .tuple [a, b] => (numV a).bind fun i => (numV b).bind fun j => if i < j then some (i, some j) else none
  | _ => none
/-- what holds between two ways -/
structure HI (M : Nat) (W : List PyData) (V : List (Int × Option Int)) (B E : List PyData) (l : Nat) : Prop where
  nums : ∀ x ∈ B, x = .none ∨ ∃ i, numV x = some i
  len : B.length = M
  lM : l ≤ M
  lV : V.length ≤ l
  low : l = V.length → ∀ j : Nat, j < l → (j : Int) ∈ flatW V
  lst : ∀ x : Int, 0 ≤ x → (∀ v ∈ V, v.1 < x) → (l : Int) ≤ x
  met : ∀ j : Nat, j < M → ((j : Int) ∈ flatW V ↔ ∃ x, B[j]? = some x ∧ isN x = false)
  rng : ∀ x ∈ flatW V, 0 ≤ x ∧ x < (M : Int)
  ord : V.Pairwise fun v w => v.1 < w.1
  fst : ∀ v ∈ V, v.1 < (l : Int)
  inn : ordW V
  val : ∀ x ∈ B, ∀ i, numV x = some i → i ∈ flatW V
  tab : (flatW V).Nodup → ∀ v ∈ V, (∀ g, v.2 = some g → (∃ x, B[v.1.toNat]? = some x ∧ numV x = some g) ∧ ∃ x, B[g.toNat]? = some x ∧ numV x = some v.1) ∧ (v.2 = none → ∃ x, B[v.1.toNat]? = some x ∧ numV x = some v.1)
  hd : (flatW V).Nodup → ∀ a b i, .tuple [a, b] ∈ W → numV a = some i → B[i.toNat]? = some b
  wf : ∀ a b, .tuple [a, b] ∈ W → ∃ i, numV a = some i ∧ i ∈ flatW V
  ends : E.map numV = (V.filter fun v => v.2.isNone).map fun v => some v.1
  raw : ∀ x ∈ B, x = .none ∨ x ∈ W.flatMap handsT
section
variable {M : Nat} {W : List PyData} {V : List (Int × Option Int)} {B E : List PyData} {l k : Nat}
theorem HI.start (M : Nat) : HI M [] [] (List.replicate M .none) [] 0 where
  nums := fun x h => .inl (List.eq_of_mem_replicate h)
  len := List.length_replicate
  lM := Nat.zero_le _
  lV := Nat.le_refl _
  low := fun _ j h => absurd h (Nat.not_lt_zero _)
  lst := fun x h _ => h
  met := fun j h => by
    constructor
    · intro z; cases z
    · rintro ⟨x, hx, hn⟩
      rw [List.getElem?_replicate, if_pos h] at hx
      cases hx
      cases hn
  rng := fun x h => nomatch h
  ord := .nil
  fst := fun x h => nomatch h
  inn := fun x h => nomatch h
  val := fun x h i hi => by
    rw [List.eq_of_mem_replicate h] at hi
    cases hi
  tab := fun _ x h => nomatch h
  hd := fun _ a b i h => nomatch h
  wf := fun a b h => nomatch h
  ends := rfl
  raw := fun x h => .inl (List.eq_of_mem_replicate h)
theorem nat_ne {V : List (Int × Option Int)} {x y : Int} (hr : 0 ≤ x) (hr' : 0 ≤ y) (hx : x ∈ flatW V) (hu : y ∉ flatW V) : x.toNat ≠ y.toNat := fun e => hu (by
  have : x = y := by omega
  rw [← this]; exact hx)
theorem HI.step (I : HI M W V B E l) {w : PyData} {B' E' : List PyData} {l' : Nat} (hs : stepW M B E l w = some (B', E', l')) :
    ∃ v, wayN w = some v ∧ HI M (W ++ [w]) (V ++ [v]) B' E' l' := by
  have fl : ∀ v ∈ V, v.1 ∈ flatW V := fun v hv => mem_flat hv
  unfold stepW at hs
  split at hs
  · -- a pair
    rename_i a b
    obtain ⟨i, ha, hs⟩ := Option.bind_eq_some_iff.mp hs
    obtain ⟨j, hb, hs⟩ := Option.bind_eq_some_iff.mp hs
    obtain ⟨⟨c1, c2, c3⟩, e⟩ := ite_p hs
    obtain ⟨rfl, rfl, rfl⟩ : (B.set i.toNat b).set j.toNat a = B' ∧ E = E' ∧ i.toNat + 1 = l' := by
      cases e
      exact ⟨rfl, rfl, rfl⟩
    obtain ⟨n, rfl⟩ : ∃ n : Nat, i = (n : Int) := ⟨i.toNat, by omega⟩
    obtain ⟨m, rfl⟩ : ∃ n : Nat, j = (n : Int) := ⟨j.toNat, by omega⟩
    simp only [Int.toNat_natCast]
    have lB := I.len
    have Bo : ∀ k : Nat, k ≠ n → k ≠ m → ((B.set n b).set m a)[k]? = B[k]? := fun k q1 q2 => by
      rw [List.getElem?_set_ne (Ne.symm q2), List.getElem?_set_ne (Ne.symm q1)]
    have Bm : ((B.set n b).set m a)[m]? = some a := List.getElem?_set_self (by rw [List.length_set, lB]; omega)
    have Bn : ((B.set n b).set m a)[n]? = some b := by
      rw [List.getElem?_set_ne (by omega)]
      exact List.getElem?_set_self (by rw [lB]; omega)
    have mB : ∀ x, x ∈ (B.set n b).set m a → x ∈ B ∨ x = b ∨ x = a := fun x hx => by
      rcases List.mem_or_eq_of_mem_set hx with hx | rfl
      · rcases List.mem_or_eq_of_mem_set hx with hx | rfl
        · exact .inl hx
        · exact .inr (.inl rfl)
      · exact .inr (.inr rfl)
    have wn : wayN (.tuple [a, b]) = some ((n : Int), some (m : Int)) := by
      show (numV a).bind _ = _
      rw [ha, Option.bind_some, hb, Option.bind_some, if_pos c2]
    have fm : ∀ x : Int, x ∈ flatW (V ++ [((n : Int), some (m : Int))]) ↔ x ∈ flatW V ∨ x = n ∨ x = m := fun x => by
      rw [flatW_one]
      simp
    have nd : (flatW (V ++ [((n : Int), some (m : Int))])).Nodup → (flatW V).Nodup ∧ (n : Int) ∉ flatW V ∧ (m : Int) ∉ flatW V := fun h => by
      rw [flatW_one] at h
      obtain ⟨n1, n2, n3⟩ := List.nodup_append.mp h
      exact ⟨n1, fun z => n3 _ z _ (List.mem_cons_self ..) rfl, fun z => n3 _ z _ (List.mem_cons_of_mem _ (List.mem_cons_self ..)) rfl⟩
    have q0 := I.lV
    refine ⟨_, wn, ?_⟩
    refine { nums := fun x hx => ?_, len := by rw [List.length_set, List.length_set]; exact lB, lM := by omega, lV := by rw [List.length_append, List.length_singleton]; omega, low := fun h k hk => ?_, lst := fun x _ h => ?_, met := fun k hk => ?_, rng := fun x hx => ?_, ord := ?_, fst := fun v hv => ?_, inn := fun v hv g e => ?_, val := fun x hx i hi => ?_, tab := fun h v hv => ?_, hd := fun h a' b' i hm hi => ?_, wf := fun a' b' hm => ?_, ends := ?_, raw := fun x hx => ?_ }
    · rcases mB x hx with hx | rfl | rfl
      · exact I.nums x hx
      · exact .inr ⟨_, hb⟩
      · exact .inr ⟨_, ha⟩
    · rw [List.length_append, List.length_singleton] at h
      have hl : l = V.length := by omega
      rw [fm]
      by_cases hk' : k < l
      · exact .inl (I.low hl k hk')
      · exact .inr (.inl (by omega))
    · have := h _ (List.mem_append_right _ (List.mem_singleton.mpr rfl))
      have : (n : Int) < x := this
      omega
    · rw [fm]
      by_cases q1 : k = n
      · subst q1
        exact ⟨fun _ => ⟨b, Bn, notN_num hb⟩, fun _ => .inr (.inl rfl)⟩
      · by_cases q2 : k = m
        · subst q2
          exact ⟨fun _ => ⟨a, Bm, notN_num ha⟩, fun _ => .inr (.inr rfl)⟩
        · rw [Bo k q1 q2, ← I.met k hk]
          constructor
          · rintro (z | z | z)
            · exact z
            · exact absurd (by exact_mod_cast z) q1
            · exact absurd (by exact_mod_cast z) q2
          · exact .inl
    · rcases (fm x).mp hx with z | rfl | rfl
      · exact I.rng x z
      · omega
      · omega
    · refine List.pairwise_append.mpr ⟨I.ord, List.pairwise_singleton .., fun v hv y hy => ?_⟩
      rw [List.mem_singleton] at hy
      subst hy
      show v.1 < (n : Int)
      have q1 := I.fst v hv
      omega
    · rcases List.mem_append.mp hv with hv | hv
      · have := I.fst v hv
        omega
      · rw [List.mem_singleton] at hv
        subst hv
        show (n : Int) < ((n + 1 : Nat) : Int)
        omega
    · rcases List.mem_append.mp hv with hv | hv
      · exact I.inn v hv g e
      · rw [List.mem_singleton] at hv
        subst hv
        cases e
        exact c2
    · rw [fm]
      rcases mB x hx with hx | rfl | rfl
      · exact .inl (I.val x hx i hi)
      · rw [hb] at hi; cases hi; exact .inr (.inr rfl)
      · rw [ha] at hi; cases hi; exact .inr (.inl rfl)
    · obtain ⟨h1, h2, h3⟩ := nd h
      rcases List.mem_append.mp hv with hv | hv
      · have r1 := (I.rng _ (fl v hv)).1
        have a1 := nat_ne r1 (by omega) (fl v hv) h2
        have a2 := nat_ne r1 (by omega) (fl v hv) h3
        rw [Int.toNat_natCast] at a1 a2
        refine ⟨fun g e => ?_, fun e => ?_⟩
        · obtain ⟨h4, h5⟩ := (I.tab h1 v hv).1 g e
          have g1 := mem_flat2 hv e
          have r2 := (I.rng _ g1).1
          have b1 := nat_ne r2 (by omega) g1 h2
          have b2 := nat_ne r2 (by omega) g1 h3
          rw [Int.toNat_natCast] at b1 b2
          rw [Bo _ a1 a2, Bo _ b1 b2]
          exact ⟨h4, h5⟩
        · rw [Bo _ a1 a2]
          exact (I.tab h1 v hv).2 e
      · rw [List.mem_singleton] at hv
        subst hv
        refine ⟨fun g e => ?_, fun e => by cases e⟩
        cases e
        exact ⟨⟨b, by rw [Int.toNat_natCast]; exact Bn, hb⟩, ⟨a, by rw [Int.toNat_natCast]; exact Bm, ha⟩⟩
    · obtain ⟨h1, h2, h3⟩ := nd h
      rcases List.mem_append.mp hm with hm | hm
      · obtain ⟨i', hi', mi⟩ := I.wf a' b' hm
        rw [hi] at hi'; cases hi'
        have r1 := (I.rng _ mi).1
        have a1 := nat_ne r1 (by omega) mi h2
        have a2 := nat_ne r1 (by omega) mi h3
        rw [Int.toNat_natCast] at a1 a2
        rw [Bo _ a1 a2]
        exact I.hd h1 a' b' i hm hi
      · rw [List.mem_singleton] at hm
        cases hm
        rw [ha] at hi
        cases hi
        rw [Int.toNat_natCast]
        exact Bn
    · rcases List.mem_append.mp hm with hm | hm
      · obtain ⟨i', hi', mi⟩ := I.wf a' b' hm
        exact ⟨i', hi', (fm _).mpr (.inl mi)⟩
      · rw [List.mem_singleton] at hm
        cases hm
        exact ⟨_, ha, (fm _).mpr (.inr (.inl rfl))⟩
    · rw [I.ends, List.filter_append, List.map_append]
      show _ = _ ++ []
      rw [List.append_nil]
    · rw [List.flatMap_append]
      rcases mB x hx with hx | rfl | rfl
      · exact (I.raw x hx).imp id fun z => List.mem_append_left _ z
      · exact .inr (List.mem_append_right _ (by simp [handsT]))
      · exact .inr (List.mem_append_right _ (by simp [handsT]))
  · -- an end
    rename_i a
    obtain ⟨i, ha, hs⟩ := Option.bind_eq_some_iff.mp hs
    obtain ⟨⟨c1, c3⟩, e⟩ := ite_p hs
    obtain ⟨rfl, rfl, rfl⟩ : B.set i.toNat a = B' ∧ E ++ [a] = E' ∧ i.toNat + 1 = l' := by
      cases e
      exact ⟨rfl, rfl, rfl⟩
    obtain ⟨n, rfl⟩ : ∃ n : Nat, i = (n : Int) := ⟨i.toNat, by omega⟩
    simp only [Int.toNat_natCast]
    have lB := I.len
    have Bo : ∀ k : Nat, k ≠ n → (B.set n a)[k]? = B[k]? := fun k q1 => List.getElem?_set_ne (Ne.symm q1)
    have Bn : (B.set n a)[n]? = some a := List.getElem?_set_self (by rw [lB]; omega)
    have mB : ∀ x, x ∈ B.set n a → x ∈ B ∨ x = a := fun x hx => List.mem_or_eq_of_mem_set hx
    have wn : wayN (.tuple [a]) = some ((n : Int), none) := by
      show (numV a).map _ = _
      rw [ha, Option.map_some]
    have fm : ∀ x : Int, x ∈ flatW (V ++ [((n : Int), none)]) ↔ x ∈ flatW V ∨ x = n := fun x => by
      rw [flatW_one]
      simp
    have nd : (flatW (V ++ [((n : Int), none)])).Nodup → (flatW V).Nodup ∧ (n : Int) ∉ flatW V := fun h => by
      rw [flatW_one] at h
      obtain ⟨n1, n2, n3⟩ := List.nodup_append.mp h
      exact ⟨n1, fun z => n3 _ z _ (List.mem_cons_self ..) rfl⟩
    have q0 := I.lV
    refine ⟨_, wn, ?_⟩
    refine { nums := fun x hx => ?_, len := by rw [List.length_set]; exact lB, lM := by omega, lV := by rw [List.length_append, List.length_singleton]; omega, low := fun h k hk => ?_, lst := fun x _ h => ?_, met := fun k hk => ?_, rng := fun x hx => ?_, ord := ?_, fst := fun v hv => ?_, inn := fun v hv g e => ?_, val := fun x hx i hi => ?_, tab := fun h v hv => ?_, hd := fun h a' b' i hm hi => ?_, wf := fun a' b' hm => ?_, ends := ?_, raw := fun x hx => ?_ }
    · rcases mB x hx with hx | rfl
      · exact I.nums x hx
      · exact .inr ⟨_, ha⟩
    · rw [List.length_append, List.length_singleton] at h
      have hl : l = V.length := by omega
      rw [fm]
      by_cases hk' : k < l
      · exact .inl (I.low hl k hk')
      · exact .inr (by omega)
    · have := h _ (List.mem_append_right _ (List.mem_singleton.mpr rfl))
      have : (n : Int) < x := this
      omega
    · rw [fm]
      by_cases q1 : k = n
      · subst q1
        exact ⟨fun _ => ⟨a, Bn, notN_num ha⟩, fun _ => .inr rfl⟩
      · rw [Bo k q1, ← I.met k hk]
        constructor
        · rintro (z | z)
          · exact z
          · exact absurd (by exact_mod_cast z) q1
        · exact .inl
    · rcases (fm x).mp hx with z | rfl
      · exact I.rng x z
      · omega
    · refine List.pairwise_append.mpr ⟨I.ord, List.pairwise_singleton .., fun v hv y hy => ?_⟩
      rw [List.mem_singleton] at hy
      subst hy
      show v.1 < (n : Int)
      have q1 := I.fst v hv
      omega
    · rcases List.mem_append.mp hv with hv | hv
      · have := I.fst v hv
        omega
      · rw [List.mem_singleton] at hv
        subst hv
        show (n : Int) < ((n + 1 : Nat) : Int)
        omega
    · rcases List.mem_append.mp hv with hv | hv
      · exact I.inn v hv g e
      · rw [List.mem_singleton] at hv
        subst hv
        cases e
    · rw [fm]
      rcases mB x hx with hx | rfl
      · exact .inl (I.val x hx i hi)
      · rw [ha] at hi; cases hi; exact .inr rfl
    · obtain ⟨h1, h2⟩ := nd h
      rcases List.mem_append.mp hv with hv | hv
      · have r1 := (I.rng _ (fl v hv)).1
        have a1 := nat_ne r1 (by omega) (fl v hv) h2
        rw [Int.toNat_natCast] at a1
        refine ⟨fun g e => ?_, fun e => ?_⟩
        · obtain ⟨h4, h5⟩ := (I.tab h1 v hv).1 g e
          have g1 := mem_flat2 hv e
          have r2 := (I.rng _ g1).1
          have b1 := nat_ne r2 (by omega) g1 h2
          rw [Int.toNat_natCast] at b1
          rw [Bo _ a1, Bo _ b1]
          exact ⟨h4, h5⟩
        · rw [Bo _ a1]
          exact (I.tab h1 v hv).2 e
      · rw [List.mem_singleton] at hv
        subst hv
        exact ⟨(fun g e => by cases e), fun _ => ⟨a, by rw [Int.toNat_natCast]; exact Bn, ha⟩⟩
    · obtain ⟨h1, h2⟩ := nd h
      rcases List.mem_append.mp hm with hm | hm
      · obtain ⟨i', hi', mi⟩ := I.wf a' b' hm
        rw [hi] at hi'; cases hi'
        have r1 := (I.rng _ mi).1
        have a1 := nat_ne r1 (by omega) mi h2
        rw [Int.toNat_natCast] at a1
        rw [Bo _ a1]
        exact I.hd h1 a' b' i hm hi
      · rw [List.mem_singleton] at hm
        cases hm
    · rcases List.mem_append.mp hm with hm | hm
      · obtain ⟨i', hi', mi⟩ := I.wf a' b' hm
        exact ⟨i', hi', (fm _).mpr (.inl mi)⟩
      · rw [List.mem_singleton] at hm
        cases hm
    · rw [List.map_append, I.ends, List.filter_append, List.map_append]
      show _ ++ [numV a] = _ ++ [some (n : Int)]
      rw [ha]
    · rw [List.flatMap_append]
      rcases mB x hx with hx | rfl
      · exact (I.raw x hx).imp id fun z => List.mem_append_left _ z
      · exact .inr (List.mem_append_right _ (by simp [handsT]))
  · cases hs
end
end Lw

set_option Elab.async false
set_option linter.all false
set_option maxRecDepth 100000
set_option maxHeartbeats 4000000
namespace Lw
open PySem PySem.Spec PyProof.Rows L2 Tw
def waysN : List PyData → Option (List (Int × Option Int))
  | [] => some []
  | w :: ws => (wayN w).bind fun v => (waysN ws).map (v :: ·)
def rangeI (n : Nat) : List Int := (List.range n).map fun i : Nat => (i : Int)
/-- a whole web of so many hands -/
def whole (M : Nat) (W : List (Int × Option Int)) : Prop := (flatW W).Perm (rangeI M) ∧ (W.Pairwise fun v w => v.1 < w.1) ∧ ordW W
def endsN (U : List (Int × Option Int)) : Int := ((U.filter fun v => v.2.isNone).length : Nat)
theorem mem_rangeI {n : Nat} {x : Int} : x ∈ rangeI n ↔ 0 ≤ x ∧ x < (n : Int) := by
  unfold rangeI
  rw [List.mem_map]
  constructor
  · rintro ⟨i, hi, rfl⟩
    have := List.mem_range.mp hi
    omega
  · intro h
    exact ⟨x.toNat, List.mem_range.mpr (by omega), by omega⟩
theorem nodup_rangeI (n : Nat) : (rangeI n).Nodup := List.Pairwise.map (R := (· ≠ ·)) (fun i : Nat => (i : Int)) (fun a b h z => h (by exact_mod_cast z)) List.nodup_range
theorem wayN_inv {w : PyData} {v : Int × Option Int} (h : wayN w = some v) : (∃ a, w = .tuple [a] ∧ numV a = some v.1 ∧ v.2 = none) ∨ ∃ a b g, w = .tuple [a, b] ∧ numV a = some v.1 ∧ numV b = some g ∧ v.1 < g ∧ v.2 = some g := by
  unfold wayN at h
  split at h
  · obtain ⟨i, h1, rfl⟩ := Option.map_eq_some_iff.mp h
    exact .inl ⟨_, rfl, h1, rfl⟩
  · obtain ⟨i, h1, h2⟩ := Option.bind_eq_some_iff.mp h
    obtain ⟨j, h3, h4⟩ := Option.bind_eq_some_iff.mp h2
    obtain ⟨h5, rfl⟩ := ite_p h4
    exact .inr ⟨_, _, j, rfl, h1, h3, h5, rfl⟩
  · cases h
/-- in a whole web the next way is taken -/
theorem whole_step {M : Nat} {V S : List (Int × Option Int)} {v : Int × Option Int} {W B E : List PyData} {l : Nat} (I : HI M W V B E l)
    (hW : whole M (V ++ v :: S)) {w : PyData} (hw : wayN w = some v) : stepW M B E l w ≠ none := by
  obtain ⟨hp, ho, hi⟩ := hW
  have inR : ∀ x ∈ flatW (V ++ v :: S), 0 ≤ x ∧ x < (M : Int) := fun x hx => mem_rangeI.mp (hp.mem_iff.mp hx)
  have vA : v ∈ V ++ v :: S := List.mem_append_right _ (List.mem_cons_self ..)
  have v0 := inR _ (mem_flat vA)
  have l0 : (l : Int) ≤ v.1 := I.lst _ v0.1 fun u hu => (List.pairwise_append.mp ho).2.2 u hu v (List.mem_cons_self ..)
  rcases wayN_inv hw with ⟨a, rfl, ha, hn⟩ | ⟨a, b, g, rfl, ha, hb, hg, hs⟩
  · have : stepW M B E l (.tuple [a]) = some (B.set v.1.toNat a, E ++ [a], v.1.toNat + 1) := by
      show (numV a).bind _ = _
      rw [ha, Option.bind_some, if_pos ⟨l0, v0.2⟩]
    rw [this]
    exact fun z => nomatch z
  · have g0 := inR _ (mem_flat2 vA hs)
    have : stepW M B E l (.tuple [a, b]) = some ((B.set v.1.toNat b).set g.toNat a, E, v.1.toNat + 1) := by
      show (numV a).bind _ = _
      rw [ha, Option.bind_some, hb, Option.bind_some, if_pos ⟨l0, hg, g0.2⟩]
    rw [this]
    exact fun z => nomatch z
theorem stepE {M l l' : Nat} {B E B' E' : List PyData} {w : PyData} (h : stepW M B E l w = some (B', E', l')) : E'.length ≤ E.length + 1 := by
  unfold stepW at h
  split at h
  · obtain ⟨i, ha, h⟩ := Option.bind_eq_some_iff.mp h
    obtain ⟨j, hb, h⟩ := Option.bind_eq_some_iff.mp h
    obtain ⟨_, e⟩ := ite_p h
    cases e
    exact Nat.le_succ _
  · obtain ⟨i, ha, h⟩ := Option.bind_eq_some_iff.mp h
    obtain ⟨_, e⟩ := ite_p h
    cases e
    rw [List.length_append, List.length_singleton]
    exact Nat.le_refl _
  · cases h
theorem ways_run {t s6 s7 s8 : Sl} {M : Nat} : ∀ (ws W : List PyData) (V : List (Int × Option Int)) (B E : List PyData) (l : Nat) (s5 s9 s10 : Sl), HI M W V B E l → E.length + ws.length < 90000 →
    (∃ U B' E' l' s5' s9' s10', waysN ws = some U ∧ HI M (W ++ ws) (V ++ U) B' E' l' ∧ E'.length < 90000 ∧ forF (gNm 5) b1_hands_across ws [t, .d (.int (M : Int)), .m (.l B), .m (.l E), .d (.int (l : Int)), s5, s6, s7, s8, s9, s10] = some (.nx [t, .d (.int (M : Int)), .m (.l B'), .m (.l E'), .d (.int (l' : Int)), s5', s6, s7, s8, s9', s10'])) ∨
    ((∃ ρ, forF (gNm 5) b1_hands_across ws [t, .d (.int (M : Int)), .m (.l B), .m (.l E), .d (.int (l : Int)), s5, s6, s7, s8, s9, s10] = some (.rt .none ρ)) ∧ ¬ ∃ U, waysN ws = some U ∧ whole M (V ++ U))
  | [], W, V, B, E, l, s5, s9, s10, I, hE => .inl ⟨[], B, E, l, s5, s9, s10, rfl, by rw [List.append_nil, List.append_nil]; exact I, by rw [List.length_nil] at hE; omega, rfl⟩
  | w :: ws, W, V, B, E, l, s5, s9, s10, I, hE => by
    rw [List.length_cons] at hE
    obtain ⟨T1, T2⟩ := turn_ok (t := t) (s6 := s6) (s7 := s7) (s8 := s8) (s9 := s9) (s10 := s10) (E := E) (l := l) I.len (by omega) w
    have hg : gNm 5 w [t, .d (.int (M : Int)), .m (.l B), .m (.l E), .d (.int (l : Int)), s5, s6, s7, s8, s9, s10] = some [t, .d (.int (M : Int)), .m (.l B), .m (.l E), .d (.int (l : Int)), .d w, s6, s7, s8, s9, s10] := rfl
    cases hs : stepW M B E l w with
    | none =>
      obtain ⟨ρ, h⟩ := T2 hs
      refine .inr ⟨⟨ρ, for_rt hg h⟩, ?_⟩
      rintro ⟨U, hU, hW⟩
      obtain ⟨v, hv, h3⟩ := Option.bind_eq_some_iff.mp (show (wayN w).bind (fun v => (waysN ws).map (v :: ·)) = some U from hU)
      obtain ⟨S, hS, rfl⟩ := Option.map_eq_some_iff.mp h3
      exact whole_step I hW hv hs
    | some r =>
      obtain ⟨B', E', l'⟩ := r
      obtain ⟨s9', s10', h⟩ := T1 B' E' l' hs
      obtain ⟨v, hv, I'⟩ := I.step hs
      have hn : waysN (w :: ws) = (waysN ws).map (v :: ·) := by
        show (wayN w).bind _ = _
        rw [hv]
        rfl
      have e1 := stepE hs
      rw [for_ct hg h, hn]
      rcases ways_run (t := t) (s6 := s6) (s7 := s7) (s8 := s8) ws (W ++ [w]) (V ++ [v]) B' E' l' (.d w) s9' s10' I' (by omega) with ⟨U, B2, E2, l2, a5, a6, a7, u1, u2, u3, u4⟩ | ⟨⟨ρ, u1⟩, u2⟩
      · exact .inl ⟨v :: U, B2, E2, l2, a5, a6, a7, by rw [u1]; rfl, by rw [List.append_assoc, List.append_assoc] at u2; exact u2, u3, u4⟩
      · refine .inr ⟨⟨ρ, u1⟩, ?_⟩
        rintro ⟨U, hU, hW⟩
        obtain ⟨S, hS, rfl⟩ := Option.map_eq_some_iff.mp hU
        exact u2 ⟨S, hS, by rw [List.append_assoc]; exact hW⟩
end Lw

set_option Elab.async false
set_option linter.all false
set_option maxRecDepth 100000
set_option maxHeartbeats 4000000
namespace Lw
open PySem PySem.Spec PyProof.Rows L2 Tw
def wayI : PyData → Option (Int × Option Int)
  | .tuple [.int h] => some (h, none)
  | .tuple [.int h, .int g] => if h < g then some (h, some g) else none
  | _ => none
def waysI : List PyData → Option (List (Int × Option Int))
  | [] => some []
  | w :: ws => (wayI w).bind fun v => (waysI ws).map (v :: ·)
theorem wayI_N {w : PyData} {v : Int × Option Int} (h : wayI w = some v) : wayN w = some v ∧ ∀ x ∈ handsT w, ∃ i, x = .int i := by
  unfold wayI at h
  split at h
  · cases h
    exact ⟨rfl, fun x hx => ⟨_, List.mem_singleton.mp hx⟩⟩
  · obtain ⟨c, rfl⟩ := ite_p h
    refine ⟨if_pos c, fun x hx => ?_⟩
    rcases List.mem_cons.mp hx with rfl | hx
    · exact ⟨_, rfl⟩
    · exact ⟨_, List.mem_singleton.mp hx⟩
  · cases h
theorem waysI_N : ∀ {ws : List PyData} {U : List (Int × Option Int)}, waysI ws = some U → waysN ws = some U ∧ ∀ x ∈ ws.flatMap handsT, ∃ i, x = .int i
  | [], U, h => by
    cases h
    exact ⟨rfl, fun x hx => nomatch hx⟩
  | w :: ws, U, h => by
    obtain ⟨v, h1, h2⟩ := Option.bind_eq_some_iff.mp (show (wayI w).bind (fun v => (waysI ws).map (v :: ·)) = some U from h)
    obtain ⟨S, h3, rfl⟩ := Option.map_eq_some_iff.mp h2
    obtain ⟨a1, a2⟩ := wayI_N h1
    obtain ⟨b1, b2⟩ := waysI_N h3
    refine ⟨?_, fun x hx => ?_⟩
    · show (wayN w).bind _ = _
      rw [a1, Option.bind_some, b1]
      rfl
    · rw [List.flatMap_cons] at hx
      exact (List.mem_append.mp hx).elim (a2 x) (b2 x)
theorem num_int {a : PyData} {i : Int} (h : numV a = some i) (hb : isBo a = false) : a = .int i := by
  cases a <;> first | (cases h; rfl) | (cases hb; done) | (cases h; done)
theorem wayN_I {w : PyData} {v : Int × Option Int} (h : wayN w = some v) (hb : ∀ x ∈ handsT w, isBo x = false) : wayI w = some v := by
  obtain ⟨v1, v2⟩ := v
  rcases wayN_inv h with ⟨a, rfl, ha, hn⟩ | ⟨a, b, g, rfl, ha, hb', hg, hs⟩
  · dsimp only at ha hn
    subst hn
    rw [num_int ha (hb a (List.mem_cons_self ..))]
    rfl
  · dsimp only at ha hg hs
    subst hs
    rw [num_int ha (hb a (List.mem_cons_self ..)), num_int hb' (hb b (List.mem_cons_of_mem _ (List.mem_cons_self ..)))]
    exact if_pos hg
theorem waysN_I : ∀ {ws : List PyData} {U : List (Int × Option Int)}, waysN ws = some U → (∀ x ∈ ws.flatMap handsT, isBo x = false) → waysI ws = some U
  | [], U, h, _ => h
  | w :: ws, U, h, hb => by
    obtain ⟨v, h1, h2⟩ := Option.bind_eq_some_iff.mp (show (wayN w).bind (fun v => (waysN ws).map (v :: ·)) = some U from h)
    obtain ⟨S, h3, rfl⟩ := Option.map_eq_some_iff.mp h2
    show (wayI w).bind _ = _
    rw [wayN_I h1 fun x hx => hb x (by rw [List.flatMap_cons]; exact List.mem_append_left _ hx), Option.bind_some, waysN_I h3 fun x hx => hb x (by rw [List.flatMap_cons]; exact List.mem_append_right _ hx)]
    rfl
def isTupD (d : PyData) : Prop := ∃ xs, d = .tuple xs
theorem waysN_tup : ∀ {ws : List PyData} {U : List (Int × Option Int)}, waysN ws = some U → (∀ d ∈ ws, isTupD d) ∧ (∀ d ∈ ws, (handsT d).length ≤ 2) ∧ U.length = ws.length
  | [], U, h => by
    cases h
    exact ⟨(fun x hx => nomatch hx), (fun x hx => nomatch hx), rfl⟩
  | w :: ws, U, h => by
    obtain ⟨v, h1, h2⟩ := Option.bind_eq_some_iff.mp (show (wayN w).bind (fun v => (waysN ws).map (v :: ·)) = some U from h)
    obtain ⟨S, h3, rfl⟩ := Option.map_eq_some_iff.mp h2
    obtain ⟨a, b, c⟩ := waysN_tup h3
    have q : isTupD w ∧ (handsT w).length ≤ 2 := by
      rcases wayN_inv h1 with ⟨a, rfl, _⟩ | ⟨a, b, g, rfl, _⟩
      · exact ⟨⟨_, rfl⟩, (show 1 ≤ 2 by decide)⟩
      · exact ⟨⟨_, rfl⟩, (show 2 ≤ 2 by decide)⟩
    refine ⟨fun d hd => ?_, fun d hd => ?_, by rw [List.length_cons, List.length_cons, c]⟩
    · rcases List.mem_cons.mp hd with rfl | hd
      · exact q.1
      · exact a d hd
    · rcases List.mem_cons.mp hd with rfl | hd
      · exact q.2
      · exact b d hd
theorem flat_ends : ∀ U : List (Int × Option Int), ((flatW U).length : Int) = 2 * (U.length : Int) - endsN U
  | [] => rfl
  | (a, b) :: U => by
    have ih := flat_ends U
    have e : (flatW ((a, b) :: U)).length = (a :: b.toList).length + (flatW U).length := by
      show ((a :: b.toList) ++ flatW U).length = _
      rw [List.length_append]
    unfold endsN at ih ⊢
    rw [e, List.filter_cons]
    cases b with
    | none => simp; omega
    | some g => simp; omega
theorem first_ge {U : List (Int × Option Int)} (ho : U.Pairwise fun v w => v.1 < w.1) (h0 : ∀ v ∈ U, 0 ≤ v.1) : ∀ (p : Nat) (v : Int × Option Int), U[p]? = some v → (p : Int) ≤ v.1 := by
  induction U with
  | nil => intro p v h; simp at h
  | cons u U ih =>
    intro p v h
    obtain ⟨o1, o2⟩ := List.pairwise_cons.mp ho
    cases p with
    | zero =>
      cases h
      exact h0 _ (List.mem_cons_self ..)
    | succ p =>
      have hv : U[p]? = some v := h
      have q : ∀ (W : List (Int × Option Int)) (c : Int), (W.Pairwise fun v w => v.1 < w.1) → (∀ v ∈ W, c < v.1) → ∀ (p : Nat) (v : Int × Option Int), W[p]? = some v → c + 1 + (p : Int) ≤ v.1 := by
        intro W
        induction W with
        | nil => intro c _ _ p v h; simp at h
        | cons w W ihW =>
          intro c hw hc p v h
          obtain ⟨p1, p2⟩ := List.pairwise_cons.mp hw
          cases p with
          | zero =>
            cases h
            have := hc _ (List.mem_cons_self ..)
            omega
          | succ p =>
            have := ihW w.1 p2 p1 p v h
            have := hc w (List.mem_cons_self ..)
            omega
      have := q U u.1 o2 o1 p v hv
      have := h0 u (List.mem_cons_self ..)
      omega
theorem waysN_get : ∀ {ws : List PyData} {U : List (Int × Option Int)}, waysN ws = some U → ∀ (p : Nat) (w : PyData), ws[p]? = some w → ∃ v, U[p]? = some v ∧ wayN w = some v
  | [], U, h, p, w, hp => by simp at hp
  | x :: ws, U, h, p, w, hp => by
    obtain ⟨v, h1, h2⟩ := Option.bind_eq_some_iff.mp (show (wayN x).bind (fun v => (waysN ws).map (v :: ·)) = some U from h)
    obtain ⟨S, h3, rfl⟩ := Option.map_eq_some_iff.mp h2
    cases p with
    | zero =>
      cases hp
      exact ⟨v, rfl, h1⟩
    | succ p => exact waysN_get h3 p w hp
theorem perm_key : ∀ (A R : List Int), A.Nodup → (∀ x ∈ A, x ∈ R) → A.length = R.length → A.Perm R := by
  intro A
  induction A with
  | nil =>
    intro R _ _ h
    rw [List.length_eq_zero_iff.mp h.symm]
  | cons a A ih =>
    intro R hA hs h
    have ha : a ∈ R := hs a (List.mem_cons_self ..)
    obtain ⟨hA1, hA2⟩ := List.nodup_cons.mp hA
    have pr := List.perm_cons_erase ha
    refine (List.Perm.cons a (ih (R.erase a) hA2 (fun x hx => ?_) ?_)).trans pr.symm
    · have hxR := pr.mem_iff.mp (hs x (List.mem_cons_of_mem _ hx))
      rcases List.mem_cons.mp hxR with e | hxR
      · exact absurd (e ▸ hx) hA1
      · exact hxR
    · have := pr.length_eq
      rw [List.length_cons] at this h
      omega
theorem len_rangeI (M : Nat) : (rangeI M).length = M := by unfold rangeI; rw [List.length_map, List.length_range]
/-- a row of hands without a repeat, as many as there are, is all of them -/
theorem perm_of_nodup {M : Nat} {L : List Int} (hn : L.Nodup) (hr : ∀ x ∈ L, 0 ≤ x ∧ x < (M : Int)) (hl : L.length = M) : L.Perm (rangeI M) :=
  perm_key L (rangeI M) hn (fun x hx => mem_rangeI.mpr (hr x hx)) (by rw [hl, len_rangeI])
/-- .. and so is one in which each hand stands -/
theorem perm_of_cover {M : Nat} {L : List Int} (hc : ∀ j : Nat, j < M → (j : Int) ∈ L) (hl : L.length = M) : L.Perm (rangeI M) :=
  (perm_key (rangeI M) L (nodup_rangeI M) (fun x hx => by
    obtain ⟨h1, h2⟩ := mem_rangeI.mp hx
    have := hc x.toNat (by omega)
    rw [Int.toNat_of_nonneg h1] at this
    exact this) (by rw [hl, len_rangeI])).symm
end Lw

set_option Elab.async false
set_option linter.all false
set_option maxRecDepth 100000
set_option maxHeartbeats 4000000
namespace Lw
open PySem PySem.Spec PyProof.Rows L2 Tw
/-! ### whether all hands are met -/
theorem truthy_num {x : PyData} {i : Int} (h : numV x = some i) : x.truthy = !decide (i = 0) := by
  cases x with
  | int j =>
    obtain rfl : j = i := Option.some.inj h
    show (j != 0) = _
    rw [bne, Bool.beq_eq_decide_eq]
  | bool b => cases h; cases b <;> rfl
  | _ => cases h
theorem smpl_num {x : PyData} (h : x = .none ∨ ∃ i, numV x = some i) : smpl x = true := by
  rcases h with rfl | ⟨i, h⟩
  · rfl
  · cases x <;> first | rfl | (cases h; done)
theorem cut_from (B : List PyData) {l : Nat} (h : l ≤ B.length) : Tw.cutD B (some (l : Int)) none = B.drop l := by
  have e : HT.sIx B.length 0 (some (l : Int)) = l := by
    show (if (l : Int) < 0 then ((l : Int) + (B.length : Int)).toNat else min (l : Int).toNat B.length) = l
    rw [if_neg (by omega), Int.toNat_natCast, Nat.min_eq_left h]
  have e2 : HT.sIx B.length B.length none = B.length := rfl
  unfold Tw.cutD
  rw [e, e2]
  rw [List.take_of_length_le (by rw [List.length_drop]; exact Nat.le_refl _)]
theorem eqN (a b : Nat) : eqD (.int (a : Int)) (.int (b : Int)) = some (.bool (decide (a = b))) := by
  rw [eqI2]
  by_cases h : a = b
  · subst h; simp
  · rw [decide_eq_false h, beq_eq_false_iff_ne.mpr (by omega)]
/-- what the program's run comes to -/
theorem met_run {M l : Nat} {B ws : List PyData} {w0 w1 : List PyData} {a0 a1 x0 : PyData} (hM : 0 < M) (hl : B.length = M) (lM : l ≤ M) (nums : ∀ x ∈ B, x = .none ∨ ∃ i, numV x = some i) (hx : B[0]? = some x0) (h0 : ws[0]? = some (.tuple w0)) (h1 : ws[1]? = some (.tuple w1)) (g0 : w0[0]? = some a0) (g1 : w1[0]? = some a1)
    (rg : ∀ o, numV x0 = some o → 0 ≤ o ∧ o < (M : Int)) :
    ((isN x0 || isBo x0 || isBo a0 || isBo a1) = true → g_are_all_met B [.tuple ws, .int (l : Int)] = some (.bool false, B)) ∧
    ((isN x0 || isBo x0 || isBo a0 || isBo a1) = false → ∃ o : Nat, x0 = .int (o : Int) ∧ o < M ∧ g_are_all_met B [.tuple ws, .int (l : Int)] = some (.bool (if l = ws.length then ((B.set o (.int (M : Int))).drop l).all PyData.truthy else (B.set o (.int (M : Int))).all PyData.truthy), (B.set o (.int (M : Int))).set o (.int 0))) := by
  have ix0 : ixD (.list B) (.int 0) = some x0 := ixLn (k := 0) hx
  have iy0 : ixD (.tuple ws) (.int 0) = some (.tuple w0) := ixTn (k := 0) h0
  have iy1 : ixD (.tuple ws) (.int 1) = some (.tuple w1) := ixTn (k := 1) h1
  have iz0 : ixD (.tuple w0) (.int 0) = some a0 := ixTn (k := 0) g0
  have iz1 : ixD (.tuple w1) (.int 0) = some a1 := ixTn (k := 0) g1
  have at0 := atom_num (nums x0 (List.mem_of_getElem? hx))
  constructor
  · intro h
    unfold g_are_all_met runM f_are_all_met
    cases e1 : isN x0 with
    | true => simp -implicitDefEqProofs only [eq_self, r_thn, r_tk, r_tk0, r_ret, r_lift, r_lift0, r_var, r_vk, r_bin, r_un, r_nil, r_cons, r_tup, r_of, r_call, r_tst, r_kt, r_ikT, r_ikF, r_ite, r_if, r_ife, r_and, r_or, r_not, r_vand, r_vor, r_vnot, r_chain, r_hkT, r_hkF, r_part, r_ok, r_sl, r_seq, r_skN, r_skR, r_skF, r_skB, r_skC, r_next, r_retS, r_rk, r_retF, r_rfk, r_drop, r_dk, r_asg, r_gk, r_gk2, gNm, r_tp, r_gs, r_qk, r_gs0, r_froz, r_frk, r_cmk, r_setI, r_stk, r_stk2, r_sti, r_pl, r_stj, r_aug, r_aug1, r_aug2, r_aug3, r_opN, r_par, r_prk, r_callN, r_tupRg, and_self, ixN0, ixN1, ixN2, r_peek, r_pk, r_pkI, r_pkB, r_pkS, r_pkN, r_tpeek, r_bk1, r_bk2, r_frz, r_fzk, r_own, owk, r_frkK, r_ownK, r_ixEd, r_ixEt, r_ixEl, r_inK, r_ninK, r_mk4, r_mk3, r_met, r_mk2, r_callM, r_mk2b, r_callM1, r_lenIs, r_callF, r_mat, r_mtk, r_mEnd, r_mCase, r_for, r_lk, r_items, r_itL, r_itT, r_rng, r_enum, r_zipM, zipM_ok, r_star, starL_ok, starT_ok, enumL_ok, enumT_ok, for_nil, r_lc, r_lck2, lc_nil, r_outM, r_outMn, r_outM1, r_outM1n, r_outD, r_outDf, r_outDn, r_outF, ixL0, ixL1, ixL2, ixT0, ixT1, ixT2, addI_ok, subI_ok, gtI_ok, geI_ok, leI_ok, ltI_ok, lenL_ok, lenT_ok, abs_ok, intB_ok, List.getElem?_cons_zero, List.getElem?_cons_succ, List.length_cons, List.length_nil, List.set_cons_zero, List.set_cons_succ, List.map_cons, List.map_nil, List.cons_append, List.nil_append, List.replicate_succ, List.replicate_zero, Nat.reduceAdd, Nat.reduceSub, Nat.reduceLT, Nat.reduceEqDiff, Option.bind_some, Option.bind_none, Option.map_some, Option.map_none, if_true, if_false, ite_true, ite_false, ↓reduceIte, Bool.not_true, Bool.not_false, ix0, r_lift, pk2_atom at0, isNone_ok, e1]
    | false =>
      cases e2 : isBo x0 with
      | true => simp -implicitDefEqProofs only [eq_self, r_thn, r_tk, r_tk0, r_ret, r_lift, r_lift0, r_var, r_vk, r_bin, r_un, r_nil, r_cons, r_tup, r_of, r_call, r_tst, r_kt, r_ikT, r_ikF, r_ite, r_if, r_ife, r_and, r_or, r_not, r_vand, r_vor, r_vnot, r_chain, r_hkT, r_hkF, r_part, r_ok, r_sl, r_seq, r_skN, r_skR, r_skF, r_skB, r_skC, r_next, r_retS, r_rk, r_retF, r_rfk, r_drop, r_dk, r_asg, r_gk, r_gk2, gNm, r_tp, r_gs, r_qk, r_gs0, r_froz, r_frk, r_cmk, r_setI, r_stk, r_stk2, r_sti, r_pl, r_stj, r_aug, r_aug1, r_aug2, r_aug3, r_opN, r_par, r_prk, r_callN, r_tupRg, and_self, ixN0, ixN1, ixN2, r_peek, r_pk, r_pkI, r_pkB, r_pkS, r_pkN, r_tpeek, r_bk1, r_bk2, r_frz, r_fzk, r_own, owk, r_frkK, r_ownK, r_ixEd, r_ixEt, r_ixEl, r_inK, r_ninK, r_mk4, r_mk3, r_met, r_mk2, r_callM, r_mk2b, r_callM1, r_lenIs, r_callF, r_mat, r_mtk, r_mEnd, r_mCase, r_for, r_lk, r_items, r_itL, r_itT, r_rng, r_enum, r_zipM, zipM_ok, r_star, starL_ok, starT_ok, enumL_ok, enumT_ok, for_nil, r_lc, r_lck2, lc_nil, r_outM, r_outMn, r_outM1, r_outM1n, r_outD, r_outDf, r_outDn, r_outF, ixL0, ixL1, ixL2, ixT0, ixT1, ixT2, addI_ok, subI_ok, gtI_ok, geI_ok, leI_ok, ltI_ok, lenL_ok, lenT_ok, abs_ok, intB_ok, List.getElem?_cons_zero, List.getElem?_cons_succ, List.length_cons, List.length_nil, List.set_cons_zero, List.set_cons_succ, List.map_cons, List.map_nil, List.cons_append, List.nil_append, List.replicate_succ, List.replicate_zero, Nat.reduceAdd, Nat.reduceSub, Nat.reduceLT, Nat.reduceEqDiff, Option.bind_some, Option.bind_none, Option.map_some, Option.map_none, if_true, if_false, ite_true, ite_false, ↓reduceIte, Bool.not_true, Bool.not_false, ix0, r_lift, pk2_atom at0, isNone_ok, e1, isBo_ok, e2]
      | false =>
        cases e3 : isBo a0 with
        | true => simp -implicitDefEqProofs only [eq_self, r_thn, r_tk, r_tk0, r_ret, r_lift, r_lift0, r_var, r_vk, r_bin, r_un, r_nil, r_cons, r_tup, r_of, r_call, r_tst, r_kt, r_ikT, r_ikF, r_ite, r_if, r_ife, r_and, r_or, r_not, r_vand, r_vor, r_vnot, r_chain, r_hkT, r_hkF, r_part, r_ok, r_sl, r_seq, r_skN, r_skR, r_skF, r_skB, r_skC, r_next, r_retS, r_rk, r_retF, r_rfk, r_drop, r_dk, r_asg, r_gk, r_gk2, gNm, r_tp, r_gs, r_qk, r_gs0, r_froz, r_frk, r_cmk, r_setI, r_stk, r_stk2, r_sti, r_pl, r_stj, r_aug, r_aug1, r_aug2, r_aug3, r_opN, r_par, r_prk, r_callN, r_tupRg, and_self, ixN0, ixN1, ixN2, r_peek, r_pk, r_pkI, r_pkB, r_pkS, r_pkN, r_tpeek, r_bk1, r_bk2, r_frz, r_fzk, r_own, owk, r_frkK, r_ownK, r_ixEd, r_ixEt, r_ixEl, r_inK, r_ninK, r_mk4, r_mk3, r_met, r_mk2, r_callM, r_mk2b, r_callM1, r_lenIs, r_callF, r_mat, r_mtk, r_mEnd, r_mCase, r_for, r_lk, r_items, r_itL, r_itT, r_rng, r_enum, r_zipM, zipM_ok, r_star, starL_ok, starT_ok, enumL_ok, enumT_ok, for_nil, r_lc, r_lck2, lc_nil, r_outM, r_outMn, r_outM1, r_outM1n, r_outD, r_outDf, r_outDn, r_outF, ixL0, ixL1, ixL2, ixT0, ixT1, ixT2, addI_ok, subI_ok, gtI_ok, geI_ok, leI_ok, ltI_ok, lenL_ok, lenT_ok, abs_ok, intB_ok, List.getElem?_cons_zero, List.getElem?_cons_succ, List.length_cons, List.length_nil, List.set_cons_zero, List.set_cons_succ, List.map_cons, List.map_nil, List.cons_append, List.nil_append, List.replicate_succ, List.replicate_zero, Nat.reduceAdd, Nat.reduceSub, Nat.reduceLT, Nat.reduceEqDiff, Option.bind_some, Option.bind_none, Option.map_some, Option.map_none, if_true, if_false, ite_true, ite_false, ↓reduceIte, Bool.not_true, Bool.not_false, ix0, r_lift, pk2_atom at0, isNone_ok, e1, isBo_ok, e2, iy0, iz0, e3]
        | false =>
          have e4 : isBo a1 = true := by rw [e1, e2, e3] at h; exact h
          simp -implicitDefEqProofs only [eq_self, r_thn, r_tk, r_tk0, r_ret, r_lift, r_lift0, r_var, r_vk, r_bin, r_un, r_nil, r_cons, r_tup, r_of, r_call, r_tst, r_kt, r_ikT, r_ikF, r_ite, r_if, r_ife, r_and, r_or, r_not, r_vand, r_vor, r_vnot, r_chain, r_hkT, r_hkF, r_part, r_ok, r_sl, r_seq, r_skN, r_skR, r_skF, r_skB, r_skC, r_next, r_retS, r_rk, r_retF, r_rfk, r_drop, r_dk, r_asg, r_gk, r_gk2, gNm, r_tp, r_gs, r_qk, r_gs0, r_froz, r_frk, r_cmk, r_setI, r_stk, r_stk2, r_sti, r_pl, r_stj, r_aug, r_aug1, r_aug2, r_aug3, r_opN, r_par, r_prk, r_callN, r_tupRg, and_self, ixN0, ixN1, ixN2, r_peek, r_pk, r_pkI, r_pkB, r_pkS, r_pkN, r_tpeek, r_bk1, r_bk2, r_frz, r_fzk, r_own, owk, r_frkK, r_ownK, r_ixEd, r_ixEt, r_ixEl, r_inK, r_ninK, r_mk4, r_mk3, r_met, r_mk2, r_callM, r_mk2b, r_callM1, r_lenIs, r_callF, r_mat, r_mtk, r_mEnd, r_mCase, r_for, r_lk, r_items, r_itL, r_itT, r_rng, r_enum, r_zipM, zipM_ok, r_star, starL_ok, starT_ok, enumL_ok, enumT_ok, for_nil, r_lc, r_lck2, lc_nil, r_outM, r_outMn, r_outM1, r_outM1n, r_outD, r_outDf, r_outDn, r_outF, ixL0, ixL1, ixL2, ixT0, ixT1, ixT2, addI_ok, subI_ok, gtI_ok, geI_ok, leI_ok, ltI_ok, lenL_ok, lenT_ok, abs_ok, intB_ok, List.getElem?_cons_zero, List.getElem?_cons_succ, List.length_cons, List.length_nil, List.set_cons_zero, List.set_cons_succ, List.map_cons, List.map_nil, List.cons_append, List.nil_append, List.replicate_succ, List.replicate_zero, Nat.reduceAdd, Nat.reduceSub, Nat.reduceLT, Nat.reduceEqDiff, Option.bind_some, Option.bind_none, Option.map_some, Option.map_none, if_true, if_false, ite_true, ite_false, ↓reduceIte, Bool.not_true, Bool.not_false, ix0, r_lift, pk2_atom at0, isNone_ok, e1, isBo_ok, e2, iy0, iz0, e3, iy1, iz1, e4]
  · intro h
    obtain ⟨⟨⟨e1, e2⟩, e3⟩, e4⟩ : ((isN x0 = false ∧ isBo x0 = false) ∧ isBo a0 = false) ∧ isBo a1 = false := by
      simpa only [Bool.or_eq_false_iff] using h
    obtain ⟨i, rfl⟩ : ∃ i, x0 = .int i := by
      rcases nums x0 (List.mem_of_getElem? hx) with rfl | ⟨i, hi⟩
      · cases e1
      · cases x0 with
        | int i => exact ⟨_, rfl⟩
        | bool b => cases e2
        | _ => cases hi
    obtain ⟨r1, r2⟩ := rg i rfl
    obtain ⟨o, rfl⟩ : ∃ o : Nat, i = (o : Int) := ⟨i.toNat, by omega⟩
    have ho : o < M := by omega
    refine ⟨o, rfl, ho, ?_⟩
    have p1 : ixN B.length (o : Int) = some o := Evl.ixN_nat (by omega)
    have nm1 : ∀ x ∈ B.set o (.int (M : Int)), smpl x = true := fun x hx => by
      rcases List.mem_or_eq_of_mem_set hx with hx | rfl
      · exact smpl_num (nums x hx)
      · rfl
    have len1 : (B.set o (.int (M : Int))).length = M := by rw [List.length_set]; exact hl
    have p2 : ixN (B.set o (.int (M : Int))).length (o : Int) = some o := Evl.ixN_nat (by omega)
    have aw1 : allV [.list (B.set o (.int (M : Int)))] = some (.bool ((B.set o (.int (M : Int))).all PyData.truthy)) := if_pos (List.all_eq_true.mpr nm1)
    have aw2 : allV [.list ((B.set o (.int (M : Int))).drop l)] = some (.bool (((B.set o (.int (M : Int))).drop l).all PyData.truthy)) := if_pos (List.all_eq_true.mpr fun x hx => nm1 x (List.mem_of_mem_drop hx))
    have sl : slD (.list (B.set o (.int (M : Int)))) (some (l : Int)) none = some (.list ((B.set o (.int (M : Int))).drop l)) := by
      show some (PyData.list (Tw.cutD _ _ _)) = _
      rw [cut_from _ (by rw [len1]; exact lM)]
    have q2 : isiD "bool" (.int (o : Int)) = some (.bool false) := rfl
    have q1 : isNoneD (.int (o : Int)) .none = some (.bool false) := rfl
    subst hl
    unfold g_are_all_met runM f_are_all_met
    by_cases c : l = ws.length
    · rw [if_pos c]
      have c' : decide (l = ws.length) = true := decide_eq_true c
      simp -implicitDefEqProofs only [eq_self, r_thn, r_tk, r_tk0, r_ret, r_lift, r_lift0, r_var, r_vk, r_bin, r_un, r_nil, r_cons, r_tup, r_of, r_call, r_tst, r_kt, r_ikT, r_ikF, r_ite, r_if, r_ife, r_and, r_or, r_not, r_vand, r_vor, r_vnot, r_chain, r_hkT, r_hkF, r_part, r_ok, r_sl, r_seq, r_skN, r_skR, r_skF, r_skB, r_skC, r_next, r_retS, r_rk, r_retF, r_rfk, r_drop, r_dk, r_asg, r_gk, r_gk2, gNm, r_tp, r_gs, r_qk, r_gs0, r_froz, r_frk, r_cmk, r_setI, r_stk, r_stk2, r_sti, r_pl, r_stj, r_aug, r_aug1, r_aug2, r_aug3, r_opN, r_par, r_prk, r_callN, r_tupRg, and_self, ixN0, ixN1, ixN2, r_peek, r_pk, r_pkI, r_pkB, r_pkS, r_pkN, r_tpeek, r_bk1, r_bk2, r_frz, r_fzk, r_own, owk, r_frkK, r_ownK, r_ixEd, r_ixEt, r_ixEl, r_inK, r_ninK, r_mk4, r_mk3, r_met, r_mk2, r_callM, r_mk2b, r_callM1, r_lenIs, r_callF, r_mat, r_mtk, r_mEnd, r_mCase, r_for, r_lk, r_items, r_itL, r_itT, r_rng, r_enum, r_zipM, zipM_ok, r_star, starL_ok, starT_ok, enumL_ok, enumT_ok, for_nil, r_lc, r_lck2, lc_nil, r_outM, r_outMn, r_outM1, r_outM1n, r_outD, r_outDf, r_outDn, r_outF, ixL0, ixL1, ixL2, ixT0, ixT1, ixT2, addI_ok, subI_ok, gtI_ok, geI_ok, leI_ok, ltI_ok, lenL_ok, lenT_ok, abs_ok, intB_ok, List.getElem?_cons_zero, List.getElem?_cons_succ, List.length_cons, List.length_nil, List.set_cons_zero, List.set_cons_succ, List.map_cons, List.map_nil, List.cons_append, List.nil_append, List.replicate_succ, List.replicate_zero, Nat.reduceAdd, Nat.reduceSub, Nat.reduceLT, Nat.reduceEqDiff, Option.bind_some, Option.bind_none, Option.map_some, Option.map_none, if_true, if_false, ite_true, ite_false, ↓reduceIte, Bool.not_true, Bool.not_false, ix0, q1, q2, isBo_ok, e2, iy0, iz0, e3, iy1, iz1, e4, p1, eqN, c', sl, aw2, p2]
    · rw [if_neg c]
      have c' : decide (l = ws.length) = false := decide_eq_false c
      simp -implicitDefEqProofs only [eq_self, r_thn, r_tk, r_tk0, r_ret, r_lift, r_lift0, r_var, r_vk, r_bin, r_un, r_nil, r_cons, r_tup, r_of, r_call, r_tst, r_kt, r_ikT, r_ikF, r_ite, r_if, r_ife, r_and, r_or, r_not, r_vand, r_vor, r_vnot, r_chain, r_hkT, r_hkF, r_part, r_ok, r_sl, r_seq, r_skN, r_skR, r_skF, r_skB, r_skC, r_next, r_retS, r_rk, r_retF, r_rfk, r_drop, r_dk, r_asg, r_gk, r_gk2, gNm, r_tp, r_gs, r_qk, r_gs0, r_froz, r_frk, r_cmk, r_setI, r_stk, r_stk2, r_sti, r_pl, r_stj, r_aug, r_aug1, r_aug2, r_aug3, r_opN, r_par, r_prk, r_callN, r_tupRg, and_self, ixN0, ixN1, ixN2, r_peek, r_pk, r_pkI, r_pkB, r_pkS, r_pkN, r_tpeek, r_bk1, r_bk2, r_frz, r_fzk, r_own, owk, r_frkK, r_ownK, r_ixEd, r_ixEt, r_ixEl, r_inK, r_ninK, r_mk4, r_mk3, r_met, r_mk2, r_callM, r_mk2b, r_callM1, r_lenIs, r_callF, r_mat, r_mtk, r_mEnd, r_mCase, r_for, r_lk, r_items, r_itL, r_itT, r_rng, r_enum, r_zipM, zipM_ok, r_star, starL_ok, starT_ok, enumL_ok, enumT_ok, for_nil, r_lc, r_lck2, lc_nil, r_outM, r_outMn, r_outM1, r_outM1n, r_outD, r_outDf, r_outDn, r_outF, ixL0, ixL1, ixL2, ixT0, ixT1, ixT2, addI_ok, subI_ok, gtI_ok, geI_ok, leI_ok, ltI_ok, lenL_ok, lenT_ok, abs_ok, intB_ok, List.getElem?_cons_zero, List.getElem?_cons_succ, List.length_cons, List.length_nil, List.set_cons_zero, List.set_cons_succ, List.map_cons, List.map_nil, List.cons_append, List.nil_append, List.replicate_succ, List.replicate_zero, Nat.reduceAdd, Nat.reduceSub, Nat.reduceLT, Nat.reduceEqDiff, Option.bind_some, Option.bind_none, Option.map_some, Option.map_none, if_true, if_false, ite_true, ite_false, ↓reduceIte, Bool.not_true, Bool.not_false, ix0, q1, q2, isBo_ok, e2, iy0, iz0, e3, iy1, iz1, e4, p1, eqN, c', aw1, p2]
end Lw

set_option Elab.async false
set_option linter.all false
set_option maxRecDepth 100000
set_option maxHeartbeats 4000000
namespace Lw
open PySem PySem.Spec PyProof.Rows L2 Tw
/-- the table of the hands across -/
structure Tab (M : Nat) (U : List (Int × Option Int)) (B : List PyData) : Prop where
  len : B.length = M
  two : ∀ v ∈ U, ∀ g, v.2 = some g → B[v.1.toNat]? = some (.int g) ∧ B[g.toNat]? = some (.int v.1)
  one : ∀ v ∈ U, v.2 = none → B[v.1.toNat]? = some .none
theorem way_first {w : PyData} {v : Int × Option Int} (h : wayN w = some v) : ∃ ds a, w = .tuple ds ∧ ds[0]? = some a ∧ numV a = some v.1 := by
  rcases wayN_inv h with ⟨a, rfl, ha, _⟩ | ⟨a, b, g, rfl, ha, _⟩
  · exact ⟨_, a, rfl, rfl, ha⟩
  · exact ⟨_, a, rfl, rfl, ha⟩
theorem mem_flat_inv {V : List (Int × Option Int)} {x : Int} (h : x ∈ flatW V) : ∃ v ∈ V, x = v.1 ∨ v.2 = some x := by
  obtain ⟨v, hv, hm⟩ := List.mem_flatMap.mp h
  refine ⟨v, hv, ?_⟩
  rcases List.mem_cons.mp hm with e | hm
  · exact .inl e
  · refine .inr ?_
    cases h : v.2 with
    | none => rw [h] at hm; cases hm
    | some g => rw [h] at hm; rw [List.mem_singleton.mp (show x ∈ [g] from hm)]
section
variable {M l : Nat} {ws B E : List PyData} {U : List (Int × Option Int)}
/-- where the hand 0 stands across -/
theorem zero_only (I : HI M ws U B E l) (nd : (flatW U).Nodup) {x0 x : PyData} {j : Nat} {o : Int} (hM : 0 < M) (h0 : B[0]? = some x0) (ho : numV x0 = some o) (hx : B[j]? = some x) (hz : numV x = some 0) (hj : j < M) : (j : Int) = o := by
  have hm : (j : Int) ∈ flatW U := (I.met j hj).mpr ⟨x, hx, notN_num hz⟩
  have uniq : ∀ {k : Nat} {y z : PyData}, B[k]? = some y → B[k]? = some z → y = z := fun a b => by rw [a] at b; exact Option.some.inj b
  obtain ⟨v, hv, e | e⟩ := mem_flat_inv hm
  · have v0 := (I.rng _ (mem_flat hv)).1
    have ej : v.1.toNat = j := by omega
    cases h2 : v.2 with
    | none =>
      obtain ⟨y, h3, h4⟩ := (I.tab nd v hv).2 h2
      rw [ej] at h3
      rw [← uniq hx h3, hz] at h4
      have := Option.some.inj h4
      have j0 : j = 0 := by omega
      subst j0
      rw [uniq hx h0, ho] at hz
      have := Option.some.inj hz
      omega
    | some g =>
      obtain ⟨y, h3, h4⟩ := ((I.tab nd v hv).1 g h2).1
      rw [ej] at h3
      rw [← uniq hx h3, hz] at h4
      have := Option.some.inj h4
      have := I.inn v hv g h2
      omega
  · obtain ⟨⟨y, h3, h4⟩, z, h5, h6⟩ := (I.tab nd v hv).1 _ e
    rw [Int.toNat_natCast] at h5
    rw [← uniq hx h5, hz] at h6
    have e0 := Option.some.inj h6
    rw [← e0] at h3
    rw [← uniq h0 (show B[0]? = some y from h3), ho] at h4
    exact (Option.some.inj h4).symm
theorem met_ok (I : HI M ws U B E l) (hU : waysN ws = some U) (hM : 3 < M) (hl : (flatW U).length = M) :
    ∃ c B', g_are_all_met B [.tuple ws, .int (l : Int)] = some (.bool c, B') ∧ (c = true → waysI ws = some U ∧ whole M U ∧ B' = B ∧ ∀ x ∈ B, ∃ i, x = .int i) ∧ (c = false → ¬ ∃ U', waysI ws = some U' ∧ whole M U') := by
  obtain ⟨w1, w2, w3⟩ := waysN_tup hU
  have fe := flat_ends U
  have e0 : 0 ≤ endsN U := by unfold endsN; omega
  have uI : ∀ U', waysI ws = some U' → U' = U ∧ ∀ x ∈ ws.flatMap handsT, ∃ i, x = .int i := fun U' h => by
    obtain ⟨a, b⟩ := waysI_N h
    rw [hU] at a
    exact ⟨(Option.some.inj a).symm, b⟩
  have h2 : 2 ≤ ws.length := by omega
  obtain ⟨d0, hd0⟩ : ∃ d, ws[0]? = some d := ⟨_, List.getElem?_eq_getElem (by omega)⟩
  obtain ⟨d1, hd1⟩ : ∃ d, ws[1]? = some d := ⟨_, List.getElem?_eq_getElem (by omega)⟩
  obtain ⟨x0, hx0⟩ : ∃ x, B[0]? = some x := ⟨_, List.getElem?_eq_getElem (by rw [I.len]; omega)⟩
  obtain ⟨v0, hv0, n0⟩ := waysN_get hU 0 d0 hd0
  obtain ⟨v1, hv1, n1⟩ := waysN_get hU 1 d1 hd1
  obtain ⟨r0, a0, rfl, g0, m0⟩ := way_first n0
  obtain ⟨r1, a1, rfl, g1, m1⟩ := way_first n1
  have rg : ∀ o, numV x0 = some o → 0 ≤ o ∧ o < (M : Int) := fun o h => I.rng _ (I.val x0 (List.mem_of_getElem? hx0) o h)
  have inH : ∀ {p : Nat} {r : List PyData} {a : PyData}, ws[p]? = some (.tuple r) → a ∈ r → a ∈ ws.flatMap handsT := fun h m => List.mem_flatMap.mpr ⟨_, List.mem_of_getElem? h, m⟩
  obtain ⟨R1, R2⟩ := met_run (by omega : 0 < M) I.len I.lM I.nums hx0 hd0 hd1 g0 g1 rg
  have noB : ∀ {a : PyData}, (∃ i, a = .int i) → isBo a = false := fun ⟨i, e⟩ => by rw [e]; rfl
  cases hc : isN x0 || isBo x0 || isBo a0 || isBo a1 with
  | true =>
    refine ⟨false, B, R1 hc, (fun z => nomatch z), fun _ => ?_⟩
    rintro ⟨U', h1, h2⟩
    obtain ⟨rfl, hi⟩ := uI U' h1
    have z0 : isN x0 = false := by
      have m : ((0 : Nat) : Int) ∈ flatW U' := h2.1.mem_iff.mpr (mem_rangeI.mpr (by omega))
      obtain ⟨y, h3, h4⟩ := (I.met 0 (by omega)).mp m
      rw [hx0] at h3
      cases h3
      exact h4
    have z1 : isBo x0 = false := by
      rcases I.raw x0 (List.mem_of_getElem? hx0) with rfl | h
      · rfl
      · exact noB (hi _ h)
    rw [z0, z1, noB (hi _ (inH hd0 (List.mem_of_getElem? g0))), noB (hi _ (inH hd1 (List.mem_of_getElem? g1)))] at hc
    cases hc
  | false =>
    obtain ⟨o, rfl, ho, run⟩ := R2 hc
    obtain ⟨⟨⟨_, _⟩, b0⟩, b1⟩ : ((isN (.int (o : Int)) = false ∧ isBo (.int (o : Int)) = false) ∧ isBo a0 = false) ∧ isBo a1 = false := by
      simpa only [Bool.or_eq_false_iff] using hc
    have lB := I.len
    have tr : ∀ (j : Nat) (x : PyData), (B.set o (.int (M : Int)))[j]? = some x → x.truthy = true → j < M → (j : Int) ∈ flatW U := fun j x h ht hj => by
      by_cases e : j = o
      · subst e
        exact I.val _ (List.mem_of_getElem? hx0) _ rfl
      · rw [List.getElem?_set_ne (Ne.symm e)] at h
        refine (I.met j hj).mpr ⟨x, h, ?_⟩
        cases hn : isN x with
        | false => rfl
        | true => rw [isN_eq hn] at ht; cases ht
    have len1 : (B.set o (.int (M : Int))).length = M := by rw [List.length_set]; exact lB
    refine ⟨_, _, run, fun hc => ?_, fun hc => ?_⟩
    · have cover : ∀ j : Nat, j < M → (j : Int) ∈ flatW U := fun j hj => by
        obtain ⟨x, hx⟩ : ∃ x, (B.set o (.int (M : Int)))[j]? = some x := ⟨_, List.getElem?_eq_getElem (by omega)⟩
        by_cases c : l = ws.length
        · rw [if_pos c] at hc
          by_cases hjl : j < l
          · exact I.low (by omega) j hjl
          · refine tr j x hx (List.all_eq_true.mp hc x ?_) hj
            refine List.mem_of_getElem? (i := j - l) ?_
            rw [List.getElem?_drop, show l + (j - l) = j by omega]
            exact hx
        · rw [if_neg c] at hc
          exact tr j x hx (List.all_eq_true.mp hc x (List.mem_of_getElem? hx)) hj
      have pm := perm_of_cover cover hl
      have nd : (flatW U).Nodup := pm.nodup_iff.mpr (nodup_rangeI M)
      have z0 : v0.1 = 0 := by
        obtain ⟨v, hv, e | e⟩ := mem_flat_inv (cover 0 (by omega))
        · obtain ⟨p, hp, ep⟩ := List.mem_iff_getElem.mp hv
          have hp' : U[p]? = some v := by rw [List.getElem?_eq_getElem hp, ep]
          have := first_ge I.ord (fun v hv => (I.rng _ (mem_flat hv)).1) p v hp'
          have p0 : p = 0 := by omega
          subst p0
          rw [hv0] at hp'
          cases hp'
          omega
        · have := I.inn v hv _ e
          have := (I.rng _ (mem_flat hv)).1
          omega
      have big : ∀ (y : PyData) (i : Int), numV y = some i → 2 ≤ i → isBo y = false := fun y i hy hi => by
        cases y with
        | bool b =>
          have : bI b = i := Option.some.inj hy
          cases b
          · have : (0 : Int) = i := this
            omega
          · have : (1 : Int) = i := this
            omega
        | _ => rfl
      have nb : ∀ x ∈ ws.flatMap handsT, isBo x = false := fun x hx => by
        obtain ⟨w, hw, hxw⟩ := List.mem_flatMap.mp hx
        obtain ⟨p, hp, e⟩ := List.mem_iff_getElem.mp hw
        have hp' : ws[p]? = some w := by rw [List.getElem?_eq_getElem hp, e]
        obtain ⟨v, hv, hn⟩ := waysN_get hU p w hp'
        have ge := first_ge I.ord (fun v hv => (I.rng _ (mem_flat hv)).1) p v hv
        have fst : ∀ {r : List PyData} {a : PyData}, w = .tuple (a :: r) → numV a = some v.1 → isBo a = false := fun {r a} e ha => by
          subst e
          match p, hp', ge with
          | 0, hp', _ => rw [hd0] at hp'; cases hp'; cases g0; exact b0
          | 1, hp', _ => rw [hd1] at hp'; cases hp'; cases g1; exact b1
          | p + 2, _, ge => exact big a _ ha (by omega)
        rcases wayN_inv hn with ⟨a, rfl, ha, _⟩ | ⟨a, b, g, rfl, ha, hb, hg, _⟩
        · rw [List.mem_singleton.mp (show x ∈ [a] from hxw)]
          exact fst rfl ha
        · rcases List.mem_cons.mp (show x ∈ [a, b] from hxw) with rfl | hxw
          · exact fst rfl ha
          · rw [List.mem_singleton.mp hxw]
            match p, hp', hv, ge with
            | 0, hp', hv, _ =>
              rw [hv0] at hv
              cases hv
              have := I.hd nd a b _ (List.mem_of_getElem? hp') ha
              rw [z0] at this
              have this : B[0]? = some b := this
              rw [hx0] at this
              cases this
              rfl
            | p + 1, _, _, ge => exact big b _ hb (by omega)
      have rawI : ∀ (x : PyData) (i : Int), x ∈ B → numV x = some i → x = .int i := fun x i hx hi => by
        refine num_int hi ?_
        rcases I.raw x hx with rfl | h
        · rfl
        · exact nb x h
      have bo : B[o]? = some (.int 0) := by
        cases h2 : v0.2 with
        | none =>
          obtain ⟨y, h3, h4⟩ := (I.tab nd v0 (List.mem_of_getElem? hv0)).2 h2
          rw [z0] at h3 h4
          rw [show B[(0 : Int).toNat]? = B[0]? from rfl, hx0] at h3
          cases h3
          have := Option.some.inj h4
          have o0 : o = 0 := by omega
          subst o0
          exact hx0
        | some g =>
          obtain ⟨⟨y, h3, h4⟩, z, h5, h6⟩ := (I.tab nd v0 (List.mem_of_getElem? hv0)).1 g h2
          rw [z0] at h3 h6
          rw [show B[(0 : Int).toNat]? = B[0]? from rfl, hx0] at h3
          cases h3
          have := Option.some.inj h4
          subst this
          rw [Int.toNat_natCast] at h5
          rw [h5, rawI z 0 (List.mem_of_getElem? h5) h6]
      refine ⟨waysN_I hU nb, ⟨pm, I.ord, I.inn⟩, ?_, fun x hx => ?_⟩
      · rw [List.set_set]
        refine List.ext_getElem? fun k => ?_
        by_cases e : k = o
        · subst e
          rw [List.getElem?_set_self (by omega), bo]
        · exact List.getElem?_set_ne (Ne.symm e)
      · obtain ⟨p, hp, e⟩ := List.mem_iff_getElem.mp hx
        have hp' : B[p]? = some x := by rw [List.getElem?_eq_getElem hp, e]
        obtain ⟨y, h3, h4⟩ := (I.met p (by omega)).mp (cover p (by omega))
        rw [hp'] at h3
        cases h3
        rcases I.nums x hx with rfl | ⟨i, hi⟩
        · cases h4
        · exact ⟨i, rawI x i hx hi⟩
    · rintro ⟨U', h1, h2⟩
      obtain ⟨rfl, hi⟩ := uI U' h1
      have nd : (flatW U').Nodup := h2.1.nodup_iff.mpr (nodup_rangeI M)
      have all : ∀ x ∈ B.set o (.int (M : Int)), x.truthy = true := fun x hx => by
        obtain ⟨p, hp, e⟩ := List.mem_iff_getElem.mp hx
        have hp' : (B.set o (.int (M : Int)))[p]? = some x := by rw [List.getElem?_eq_getElem hp, e]
        by_cases ep : p = o
        · subst ep
          rw [List.getElem?_set_self (by omega)] at hp'
          cases hp'
          rw [truthy_num (show numV (.int (M : Int)) = some (M : Int) from rfl), decide_eq_false (by omega)]
          rfl
        · rw [List.getElem?_set_ne (Ne.symm ep)] at hp'
          have hpM : p < M := by omega
          obtain ⟨y, h3, h4⟩ := (I.met p hpM).mp (h2.1.mem_iff.mpr (mem_rangeI.mpr (by omega)))
          rw [hp'] at h3
          cases h3
          rcases I.nums x (List.mem_of_getElem? hp') with rfl | ⟨i, hi⟩
          · cases h4
          · rw [truthy_num hi, Bool.not_eq_true', decide_eq_false_iff_not]
            intro z
            subst z
            have := zero_only I nd (by omega) hx0 rfl hp' hi hpM
            omega
      by_cases c : l = ws.length
      · rw [if_pos c] at hc
        rw [List.all_eq_true.mpr fun x hx => all x (List.mem_of_mem_drop hx)] at hc
        cases hc
      · rw [if_neg c, List.all_eq_true.mpr all] at hc
        cases hc
end
/-- ends have none across -/
theorem ends_run {t s1 s3 s4 s5 s7 s8 s9 s10 : Sl} : ∀ (E : List PyData) (ks : List Nat) (B : List PyData) (s6 : Sl), E.map numV = ks.map (fun k : Nat => some (k : Int)) → (∀ k ∈ ks, k < B.length) →
    ∃ s6', forF (gNm 6) b2_hands_across E [t, s1, .m (.l B), s3, s4, s5, s6, s7, s8, s9, s10] = some (.nx [t, s1, .m (.l (ks.foldl (fun B k => B.set k .none) B)), s3, s4, s5, s6', s7, s8, s9, s10])
  | [], ks, B, s6, h, _ => by
    have : ks = [] := by cases ks with
      | nil => rfl
      | cons k ks => cases h
    subst this
    exact ⟨s6, rfl⟩
  | e :: E, ks, B, s6, h, hk => by
    match ks, h, hk with
    | k :: ks, h, hk =>
      rw [List.map_cons, List.map_cons] at h
      obtain ⟨h1, h2⟩ := List.cons.inj h
      have p := pl_num h1 (hk k (List.mem_cons_self ..))
      obtain ⟨s6', ih⟩ := ends_run (t := t) (s1 := s1) (s3 := s3) (s4 := s4) (s5 := s5) (s7 := s7) (s8 := s8) (s9 := s9) (s10 := s10) E ks (B.set k .none) (.d e) h2 fun j hj => by rw [List.length_set]; exact hk j (List.mem_cons_of_mem _ hj)
      have hg : gNm 6 e [t, s1, .m (.l B), s3, s4, s5, s6, s7, s8, s9, s10] = some [t, s1, .m (.l B), s3, s4, s5, .d e, s7, s8, s9, s10] := rfl
      have hb : b2_hands_across [t, s1, .m (.l B), s3, s4, s5, .d e, s7, s8, s9, s10] = some (.nx [t, s1, .m (.l (B.set k .none)), s3, s4, s5, .d e, s7, s8, s9, s10]) := by
        unfold b2_hands_across
        simp -implicitDefEqProofs only [eq_self, r_thn, r_tk, r_tk0, r_ret, r_lift, r_lift0, r_var, r_vk, r_bin, r_un, r_nil, r_cons, r_tup, r_of, r_call, r_tst, r_kt, r_ikT, r_ikF, r_ite, r_if, r_ife, r_and, r_or, r_not, r_vand, r_vor, r_vnot, r_chain, r_hkT, r_hkF, r_part, r_ok, r_sl, r_seq, r_skN, r_skR, r_skF, r_skB, r_skC, r_next, r_retS, r_rk, r_retF, r_rfk, r_drop, r_dk, r_asg, r_gk, r_gk2, gNm, r_tp, r_gs, r_qk, r_gs0, r_froz, r_frk, r_cmk, r_setI, r_stk, r_stk2, r_sti, r_pl, r_stj, r_aug, r_aug1, r_aug2, r_aug3, r_opN, r_par, r_prk, r_callN, r_tupRg, and_self, ixN0, ixN1, ixN2, r_peek, r_pk, r_pkI, r_pkB, r_pkS, r_pkN, r_tpeek, r_bk1, r_bk2, r_frz, r_fzk, r_own, owk, r_frkK, r_ownK, r_ixEd, r_ixEt, r_ixEl, r_inK, r_ninK, r_mk4, r_mk3, r_met, r_mk2, r_callM, r_mk2b, r_callM1, r_lenIs, r_callF, r_mat, r_mtk, r_mEnd, r_mCase, r_for, r_lk, r_items, r_itL, r_itT, r_rng, r_enum, r_zipM, zipM_ok, r_star, starL_ok, starT_ok, enumL_ok, enumT_ok, for_nil, r_lc, r_lck2, lc_nil, r_outM, r_outMn, r_outM1, r_outM1n, r_outD, r_outDf, r_outDn, r_outF, ixL0, ixL1, ixL2, ixT0, ixT1, ixT2, addI_ok, subI_ok, gtI_ok, geI_ok, leI_ok, ltI_ok, lenL_ok, lenT_ok, abs_ok, intB_ok, List.getElem?_cons_zero, List.getElem?_cons_succ, List.length_cons, List.length_nil, List.set_cons_zero, List.set_cons_succ, List.map_cons, List.map_nil, List.cons_append, List.nil_append, List.replicate_succ, List.replicate_zero, Nat.reduceAdd, Nat.reduceSub, Nat.reduceLT, Nat.reduceEqDiff, Option.bind_some, Option.bind_none, Option.map_some, Option.map_none, if_true, if_false, ite_true, ite_false, ↓reduceIte, Bool.not_true, Bool.not_false, p]
      exact ⟨s6', by rw [for_nx hg hb, ih, List.foldl_cons]⟩
theorem fold_get (ks : List Nat) : ∀ (B : List PyData) (j : Nat), (ks.foldl (fun B k => B.set k PyData.none) B).length = B.length ∧ (ks.foldl (fun B k => B.set k PyData.none) B)[j]? = if j ∈ ks ∧ j < B.length then some .none else B[j]? := by
  induction ks with
  | nil => exact fun B j => ⟨rfl, by rw [if_neg fun z => nomatch z.1]; rfl⟩
  | cons k ks ih =>
    intro B j
    obtain ⟨h1, h2⟩ := ih (B.set k .none) j
    rw [List.foldl_cons]
    refine ⟨h1.trans List.length_set, ?_⟩
    rw [h2, List.length_set]
    by_cases hj : j < B.length
    · by_cases e : j ∈ ks
      · rw [if_pos ⟨e, hj⟩, if_pos ⟨List.mem_cons_of_mem _ e, hj⟩]
      · rw [if_neg fun z => e z.1]
        by_cases ek : j = k
        · subst ek
          rw [if_pos ⟨List.mem_cons_self .., hj⟩, List.getElem?_set_self hj]
        · rw [List.getElem?_set_ne (Ne.symm ek), if_neg]
          rintro ⟨z, _⟩
          rcases List.mem_cons.mp z with z | z
          · exact ek z
          · exact e z
    · rw [if_neg fun z => hj z.2, if_neg fun z => hj z.2]
      rw [List.getElem?_eq_none_iff.mpr (by rw [List.length_set]; omega), List.getElem?_eq_none_iff.mpr (by omega)]
theorem ha_row {n : Nat} {ws : List PyData} (h1 : n ≤ 60) (hz : ws.length ≤ 30000) :
    (∃ U B, waysI ws = some U ∧ whole (4 * n) U ∧ g_hands_across [.tuple [.int (n : Int), .tuple ws]] = some (.list B) ∧ Tab (4 * n) U B) ∨
    (g_hands_across [.tuple [.int (n : Int), .tuple ws]] = some .none ∧ ¬ ∃ U, waysI ws = some U ∧ whole (4 * n) U) := by
  have m4 : mulI (.int 4) (.int (n : Int)) = some (.int ((4 * n : Nat) : Int)) := mul_ok 3 7 (by decide) (by decide) (by decide) (by decide) (by omega) (by omega) (by decide)
  have m2 : mulI (.int 2) (.int ((ws.length : Nat) : Int)) = some (.int (2 * (ws.length : Int))) := mul_ok 2 15 (by decide) (by decide) (by decide) (by decide) (by omega) (by omega) (by decide)
  have l2 : eqD (.int ((2 : Nat) : Int)) (.int 2) = some (.bool true) := rfl
  have n2 : neD (.int ((2 : Nat) : Int)) (.int 2) = some (.bool false) := rfl
  have tup : ∀ d : List PyData, isiD "tuple" (.tuple d) = some (.bool true) := fun _ => rfl
  have ii : isiD "int" (.int (n : Int)) = some (.bool true) := rfl
  have ib : isiD "bool" (.int (n : Int)) = some (.bool false) := rfl
  have c0 : decide ((0 : Int) ≤ (n : Int)) = true := decide_eq_true (by omega)
  have c1 : decide ((n : Int) ≤ 60) = true := decide_eq_true (by omega)
  have s1 : Tw.sizeOk 1 = true := rfl
  have s0 : Tw.sizeOk 0 = true := rfl
  have rp : repN (.list [.none]) (.int ((4 * n : Nat) : Int)) = some (List.replicate (4 * n) .none) := by
    have f : ∀ k : Nat, (List.replicate k [PyData.none]).flatten = List.replicate k .none := fun k => by
      induction k with
      | zero => rfl
      | succ k ih => rw [List.replicate_succ, List.flatten_cons, ih, List.replicate_succ]; rfl
    unfold repN
    dsimp only
    rw [Int.toNat_natCast, f, if_pos ⟨by omega, by omega, by rw [List.length_singleton]; omega⟩]
  have R := ways_run (t := .d (.tuple [.int (n : Int), .tuple ws])) (s6 := .un) (s7 := .d (.int (n : Int))) (s8 := .d (.tuple ws)) (M := 4 * n) ws [] [] _ _ 0 .un .un .un (HI.start (4 * n)) (by rw [List.length_nil]; omega)
  rw [show (((0 : Nat) : Int)) = 0 from rfl] at R
  generalize List.replicate (4 * n) PyData.none = R0 at rp R
  rcases R with ⟨U, B, E, l, s5, s9, s10, u1, I, uE, u3⟩ | ⟨⟨ρ, u1⟩, u2⟩
  · rw [List.nil_append, List.nil_append] at I
    obtain ⟨w1, w2, w3⟩ := waysN_tup u1
    have fe := flat_ends U
    have Ee : (E.length : Int) = endsN U := by
      have := congrArg List.length I.ends
      rw [List.length_map, List.length_map] at this
      unfold endsN
      omega
    have lE : (2 * (ws.length : Int) - ((4 * n : Nat) : Int) = (E.length : Int)) ↔ (flatW U).length = 4 * n := by omega
    have uI : ∀ U', waysI ws = some U' → U' = U := fun U' h => by
      have := (waysI_N h).1
      rw [u1] at this
      exact (Option.some.inj this).symm
    have notW : (flatW U).length ≠ 4 * n → ¬ ∃ U', waysI ws = some U' ∧ whole (4 * n) U' := fun hl => by
      rintro ⟨U', h, hW⟩
      rw [uI U' h] at hW
      have := hW.1.length_eq
      rw [len_rangeI] at this
      exact hl this
    by_cases hl : (flatW U).length = 4 * n
    · have ne0 : neD (.int (E.length : Int)) (.int (2 * (ws.length : Int) - ((4 * n : Nat) : Int))) = some (.bool false) := by
        rw [ne_num, lE.mpr hl]
        rw [decide_eq_true (show numV (.int (E.length : Int)) = some (E.length : Int) from rfl)]
        rfl
      -- the last steps
      obtain ⟨ks, hks⟩ : ∃ ks : List Nat, ks = ((U.filter fun v => v.2.isNone).map fun v => v.1.toNat) := ⟨_, rfl⟩
      have ek : E.map numV = ks.map (fun k : Nat => some (k : Int)) := by
        rw [I.ends, hks, List.map_map]
        refine List.map_congr_left fun v hv => ?_
        have := (I.rng _ (mem_flat (List.mem_filter.mp hv).1)).1
        show some v.1 = some ((v.1.toNat : Nat) : Int)
        rw [Int.toNat_of_nonneg this]
      have kl : ∀ k ∈ ks, k < B.length := fun k hk => by
        rw [hks] at hk
        obtain ⟨v, hv, rfl⟩ := List.mem_map.mp hk
        have := I.rng _ (mem_flat (List.mem_filter.mp hv).1)
        rw [I.len]
        omega
      obtain ⟨s6', er⟩ := ends_run (t := .d (.tuple [.int (n : Int), .tuple ws])) (s1 := .d (.int ((4 * n : Nat) : Int))) (s3 := .d (.list E)) (s4 := .d (.int (l : Int))) (s5 := s5) (s7 := .d (.int (n : Int))) (s8 := .d (.tuple ws)) (s9 := s9) (s10 := s10) E ks B .un ek kl
      have tab : waysI ws = some U → whole (4 * n) U → (∀ x ∈ B, ∃ i, x = .int i) → Tab (4 * n) U (ks.foldl (fun B k => B.set k PyData.none) B) := fun hI hW aI => by
        have nd : (flatW U).Nodup := hW.1.nodup_iff.mpr (nodup_rangeI _)
        have lB := I.len
        have exact' : ∀ {k : Nat} {x : PyData} {i : Int}, B[k]? = some x → numV x = some i → B[k]? = some (.int i) := fun {k x i} hx hi => by
          obtain ⟨j, rfl⟩ := aI x (List.mem_of_getElem? hx)
          cases hi
          exact hx
        have inK : ∀ {v : Int × Option Int} {j : Nat}, v ∈ U → v.2 = none → v.1.toNat = j → j ∈ ks := fun {v j} hv h2 e => by
          rw [hks]
          exact List.mem_map.mpr ⟨v, List.mem_filter.mpr ⟨hv, by rw [h2]; rfl⟩, e⟩
        have offK : ∀ {j : Nat} {i : Int}, B[j]? = some (.int i) → i ≠ (j : Int) → j ∉ ks := fun {j i} hj ne hk => by
          rw [hks] at hk
          obtain ⟨v, hv, e⟩ := List.mem_map.mp hk
          obtain ⟨hv, h2⟩ := List.mem_filter.mp hv
          have h2' : v.2 = none := by
            cases h : v.2 with
            | none => rfl
            | some g => rw [h] at h2; cases h2
          obtain ⟨y, h3, h4⟩ := (I.tab nd v hv).2 h2'
          have := (I.rng _ (mem_flat hv)).1
          rw [e, hj] at h3
          cases h3
          have := Option.some.inj h4
          omega
        refine ⟨(fold_get ks B 0).1.trans lB, fun v hv g e => ?_, fun v hv e => ?_⟩
        · obtain ⟨⟨x, a1, a2⟩, y, a3, a4⟩ := (I.tab nd v hv).1 g e
          have b1 := exact' a1 a2
          have b2 := exact' a3 a4
          have r1 := I.rng _ (mem_flat hv)
          have r2 := I.rng _ (mem_flat2 hv e)
          have lt := I.inn v hv g e
          refine ⟨?_, ?_⟩
          · rw [(fold_get ks B _).2, if_neg fun z => offK b1 (by omega) z.1]
            exact b1
          · rw [(fold_get ks B _).2, if_neg fun z => offK b2 (by omega) z.1]
            exact b2
        · have r1 := I.rng _ (mem_flat hv)
          rw [(fold_get ks B _).2, if_pos ⟨inK hv e rfl, by rw [lB]; omega⟩]
      by_cases hn : n = 0
      · subst hn
        have p0 : decide ((0 : Int) < ((0 : Nat) : Int)) = false := rfl
        have fl : flatW U = [] := List.length_eq_zero_iff.mp hl
        have U0 : U = [] := by
          cases hU : U with
          | nil => rfl
          | cons v V => rw [hU] at fl; cases fl
        have ws0 : ws = [] := List.length_eq_zero_iff.mp (by rw [← w3, U0]; rfl)
        have hI : waysI ws = some U := by rw [ws0, U0]; rfl
        have hW : whole (4 * 0) U := by rw [U0]; exact ⟨List.Perm.refl _, .nil, fun v hv => nomatch hv⟩
        refine .inl ⟨U, _, hI, hW, ?_, tab hI hW fun x hx => ?_⟩
        · unfold g_hands_across runP f_hands_across
          simp -implicitDefEqProofs only [eq_self, r_thn, r_tk, r_tk0, r_ret, r_lift, r_lift0, r_var, r_vk, r_bin, r_un, r_nil, r_cons, r_tup, r_of, r_call, r_tst, r_kt, r_ikT, r_ikF, r_ite, r_if, r_ife, r_and, r_or, r_not, r_vand, r_vor, r_vnot, r_chain, r_hkT, r_hkF, r_part, r_ok, r_sl, r_seq, r_skN, r_skR, r_skF, r_skB, r_skC, r_next, r_retS, r_rk, r_retF, r_rfk, r_drop, r_dk, r_asg, r_gk, r_gk2, gNm, r_tp, r_gs, r_qk, r_gs0, r_froz, r_frk, r_cmk, r_setI, r_stk, r_stk2, r_sti, r_pl, r_stj, r_aug, r_aug1, r_aug2, r_aug3, r_opN, r_par, r_prk, r_callN, r_tupRg, and_self, ixN0, ixN1, ixN2, r_peek, r_pk, r_pkI, r_pkB, r_pkS, r_pkN, r_tpeek, r_bk1, r_bk2, r_frz, r_fzk, r_own, owk, r_frkK, r_ownK, r_ixEd, r_ixEt, r_ixEl, r_inK, r_ninK, r_mk4, r_mk3, r_met, r_mk2, r_callM, r_mk2b, r_callM1, r_lenIs, r_callF, r_mat, r_mtk, r_mEnd, r_mCase, r_for, r_lk, r_items, r_itL, r_itT, r_rng, r_enum, r_zipM, zipM_ok, r_star, starL_ok, starT_ok, enumL_ok, enumT_ok, for_nil, r_lc, r_lck2, lc_nil, r_outM, r_outMn, r_outM1, r_outM1n, r_outD, r_outDf, r_outDn, r_outF, ixL0, ixL1, ixL2, ixT0, ixT1, ixT2, addI_ok, subI_ok, gtI_ok, geI_ok, leI_ok, ltI_ok, lenL_ok, lenT_ok, abs_ok, intB_ok, List.getElem?_cons_zero, List.getElem?_cons_succ, List.length_cons, List.length_nil, List.set_cons_zero, List.set_cons_succ, List.map_cons, List.map_nil, List.cons_append, List.nil_append, List.replicate_succ, List.replicate_zero, Nat.reduceAdd, Nat.reduceSub, Nat.reduceLT, Nat.reduceEqDiff, Option.bind_some, Option.bind_none, Option.map_some, Option.map_none, if_true, if_false, ite_true, ite_false, ↓reduceIte, Bool.not_true, Bool.not_false, tup, n2, ii, ib, c0, c1, m4, s1, s0, rp, u3, m2, ne0, p0, er]
        · have : B = [] := List.length_eq_zero_iff.mp I.len
          rw [this] at hx
          cases hx
      · have p0 : decide ((0 : Int) < (n : Int)) = true := decide_eq_true (by omega)
        obtain ⟨c, B', g1, g2, g3⟩ := met_ok I u1 (by omega) hl
        cases c with
        | true =>
          obtain ⟨hI, hW, e, aI⟩ := g2 rfl
          subst e
          refine .inl ⟨U, _, hI, hW, ?_, tab hI hW aI⟩
          unfold g_hands_across runP f_hands_across
          simp -implicitDefEqProofs only [eq_self, r_thn, r_tk, r_tk0, r_ret, r_lift, r_lift0, r_var, r_vk, r_bin, r_un, r_nil, r_cons, r_tup, r_of, r_call, r_tst, r_kt, r_ikT, r_ikF, r_ite, r_if, r_ife, r_and, r_or, r_not, r_vand, r_vor, r_vnot, r_chain, r_hkT, r_hkF, r_part, r_ok, r_sl, r_seq, r_skN, r_skR, r_skF, r_skB, r_skC, r_next, r_retS, r_rk, r_retF, r_rfk, r_drop, r_dk, r_asg, r_gk, r_gk2, gNm, r_tp, r_gs, r_qk, r_gs0, r_froz, r_frk, r_cmk, r_setI, r_stk, r_stk2, r_sti, r_pl, r_stj, r_aug, r_aug1, r_aug2, r_aug3, r_opN, r_par, r_prk, r_callN, r_tupRg, and_self, ixN0, ixN1, ixN2, r_peek, r_pk, r_pkI, r_pkB, r_pkS, r_pkN, r_tpeek, r_bk1, r_bk2, r_frz, r_fzk, r_own, owk, r_frkK, r_ownK, r_ixEd, r_ixEt, r_ixEl, r_inK, r_ninK, r_mk4, r_mk3, r_met, r_mk2, r_callM, r_mk2b, r_callM1, r_lenIs, r_callF, r_mat, r_mtk, r_mEnd, r_mCase, r_for, r_lk, r_items, r_itL, r_itT, r_rng, r_enum, r_zipM, zipM_ok, r_star, starL_ok, starT_ok, enumL_ok, enumT_ok, for_nil, r_lc, r_lck2, lc_nil, r_outM, r_outMn, r_outM1, r_outM1n, r_outD, r_outDf, r_outDn, r_outF, ixL0, ixL1, ixL2, ixT0, ixT1, ixT2, addI_ok, subI_ok, gtI_ok, geI_ok, leI_ok, ltI_ok, lenL_ok, lenT_ok, abs_ok, intB_ok, List.getElem?_cons_zero, List.getElem?_cons_succ, List.length_cons, List.length_nil, List.set_cons_zero, List.set_cons_succ, List.map_cons, List.map_nil, List.cons_append, List.nil_append, List.replicate_succ, List.replicate_zero, Nat.reduceAdd, Nat.reduceSub, Nat.reduceLT, Nat.reduceEqDiff, Option.bind_some, Option.bind_none, Option.map_some, Option.map_none, if_true, if_false, ite_true, ite_false, ↓reduceIte, Bool.not_true, Bool.not_false, tup, n2, ii, ib, c0, c1, m4, s1, s0, rp, u3, m2, ne0, p0, g1, er]
        | false =>
          refine .inr ⟨?_, g3 rfl⟩
          unfold g_hands_across runP f_hands_across
          simp -implicitDefEqProofs only [eq_self, r_thn, r_tk, r_tk0, r_ret, r_lift, r_lift0, r_var, r_vk, r_bin, r_un, r_nil, r_cons, r_tup, r_of, r_call, r_tst, r_kt, r_ikT, r_ikF, r_ite, r_if, r_ife, r_and, r_or, r_not, r_vand, r_vor, r_vnot, r_chain, r_hkT, r_hkF, r_part, r_ok, r_sl, r_seq, r_skN, r_skR, r_skF, r_skB, r_skC, r_next, r_retS, r_rk, r_retF, r_rfk, r_drop, r_dk, r_asg, r_gk, r_gk2, gNm, r_tp, r_gs, r_qk, r_gs0, r_froz, r_frk, r_cmk, r_setI, r_stk, r_stk2, r_sti, r_pl, r_stj, r_aug, r_aug1, r_aug2, r_aug3, r_opN, r_par, r_prk, r_callN, r_tupRg, and_self, ixN0, ixN1, ixN2, r_peek, r_pk, r_pkI, r_pkB, r_pkS, r_pkN, r_tpeek, r_bk1, r_bk2, r_frz, r_fzk, r_own, owk, r_frkK, r_ownK, r_ixEd, r_ixEt, r_ixEl, r_inK, r_ninK, r_mk4, r_mk3, r_met, r_mk2, r_callM, r_mk2b, r_callM1, r_lenIs, r_callF, r_mat, r_mtk, r_mEnd, r_mCase, r_for, r_lk, r_items, r_itL, r_itT, r_rng, r_enum, r_zipM, zipM_ok, r_star, starL_ok, starT_ok, enumL_ok, enumT_ok, for_nil, r_lc, r_lck2, lc_nil, r_outM, r_outMn, r_outM1, r_outM1n, r_outD, r_outDf, r_outDn, r_outF, ixL0, ixL1, ixL2, ixT0, ixT1, ixT2, addI_ok, subI_ok, gtI_ok, geI_ok, leI_ok, ltI_ok, lenL_ok, lenT_ok, abs_ok, intB_ok, List.getElem?_cons_zero, List.getElem?_cons_succ, List.length_cons, List.length_nil, List.set_cons_zero, List.set_cons_succ, List.map_cons, List.map_nil, List.cons_append, List.nil_append, List.replicate_succ, List.replicate_zero, Nat.reduceAdd, Nat.reduceSub, Nat.reduceLT, Nat.reduceEqDiff, Option.bind_some, Option.bind_none, Option.map_some, Option.map_none, if_true, if_false, ite_true, ite_false, ↓reduceIte, Bool.not_true, Bool.not_false, tup, n2, ii, ib, c0, c1, m4, s1, s0, rp, u3, m2, ne0, p0, g1]
    · have ne0 : neD (.int (E.length : Int)) (.int (2 * (ws.length : Int) - ((4 * n : Nat) : Int))) = some (.bool true) := by
        rw [ne_num, decide_eq_false (show ¬ numV (.int (E.length : Int)) = some (2 * (ws.length : Int) - ((4 * n : Nat) : Int)) from fun z => hl (lE.mp (Option.some.inj z).symm))]
        rfl
      refine .inr ⟨?_, notW hl⟩
      unfold g_hands_across runP f_hands_across
      simp -implicitDefEqProofs only [eq_self, r_thn, r_tk, r_tk0, r_ret, r_lift, r_lift0, r_var, r_vk, r_bin, r_un, r_nil, r_cons, r_tup, r_of, r_call, r_tst, r_kt, r_ikT, r_ikF, r_ite, r_if, r_ife, r_and, r_or, r_not, r_vand, r_vor, r_vnot, r_chain, r_hkT, r_hkF, r_part, r_ok, r_sl, r_seq, r_skN, r_skR, r_skF, r_skB, r_skC, r_next, r_retS, r_rk, r_retF, r_rfk, r_drop, r_dk, r_asg, r_gk, r_gk2, gNm, r_tp, r_gs, r_qk, r_gs0, r_froz, r_frk, r_cmk, r_setI, r_stk, r_stk2, r_sti, r_pl, r_stj, r_aug, r_aug1, r_aug2, r_aug3, r_opN, r_par, r_prk, r_callN, r_tupRg, and_self, ixN0, ixN1, ixN2, r_peek, r_pk, r_pkI, r_pkB, r_pkS, r_pkN, r_tpeek, r_bk1, r_bk2, r_frz, r_fzk, r_own, owk, r_frkK, r_ownK, r_ixEd, r_ixEt, r_ixEl, r_inK, r_ninK, r_mk4, r_mk3, r_met, r_mk2, r_callM, r_mk2b, r_callM1, r_lenIs, r_callF, r_mat, r_mtk, r_mEnd, r_mCase, r_for, r_lk, r_items, r_itL, r_itT, r_rng, r_enum, r_zipM, zipM_ok, r_star, starL_ok, starT_ok, enumL_ok, enumT_ok, for_nil, r_lc, r_lck2, lc_nil, r_outM, r_outMn, r_outM1, r_outM1n, r_outD, r_outDf, r_outDn, r_outF, ixL0, ixL1, ixL2, ixT0, ixT1, ixT2, addI_ok, subI_ok, gtI_ok, geI_ok, leI_ok, ltI_ok, lenL_ok, lenT_ok, abs_ok, intB_ok, List.getElem?_cons_zero, List.getElem?_cons_succ, List.length_cons, List.length_nil, List.set_cons_zero, List.set_cons_succ, List.map_cons, List.map_nil, List.cons_append, List.nil_append, List.replicate_succ, List.replicate_zero, Nat.reduceAdd, Nat.reduceSub, Nat.reduceLT, Nat.reduceEqDiff, Option.bind_some, Option.bind_none, Option.map_some, Option.map_none, if_true, if_false, ite_true, ite_false, ↓reduceIte, Bool.not_true, Bool.not_false, tup, n2, ii, ib, c0, c1, m4, s1, s0, rp, u3, m2, ne0]
  · refine .inr ⟨?_, ?_⟩
    · unfold g_hands_across runP f_hands_across
      simp -implicitDefEqProofs only [eq_self, r_thn, r_tk, r_tk0, r_ret, r_lift, r_lift0, r_var, r_vk, r_bin, r_un, r_nil, r_cons, r_tup, r_of, r_call, r_tst, r_kt, r_ikT, r_ikF, r_ite, r_if, r_ife, r_and, r_or, r_not, r_vand, r_vor, r_vnot, r_chain, r_hkT, r_hkF, r_part, r_ok, r_sl, r_seq, r_skN, r_skR, r_skF, r_skB, r_skC, r_next, r_retS, r_rk, r_retF, r_rfk, r_drop, r_dk, r_asg, r_gk, r_gk2, gNm, r_tp, r_gs, r_qk, r_gs0, r_froz, r_frk, r_cmk, r_setI, r_stk, r_stk2, r_sti, r_pl, r_stj, r_aug, r_aug1, r_aug2, r_aug3, r_opN, r_par, r_prk, r_callN, r_tupRg, and_self, ixN0, ixN1, ixN2, r_peek, r_pk, r_pkI, r_pkB, r_pkS, r_pkN, r_tpeek, r_bk1, r_bk2, r_frz, r_fzk, r_own, owk, r_frkK, r_ownK, r_ixEd, r_ixEt, r_ixEl, r_inK, r_ninK, r_mk4, r_mk3, r_met, r_mk2, r_callM, r_mk2b, r_callM1, r_lenIs, r_callF, r_mat, r_mtk, r_mEnd, r_mCase, r_for, r_lk, r_items, r_itL, r_itT, r_rng, r_enum, r_zipM, zipM_ok, r_star, starL_ok, starT_ok, enumL_ok, enumT_ok, for_nil, r_lc, r_lck2, lc_nil, r_outM, r_outMn, r_outM1, r_outM1n, r_outD, r_outDf, r_outDn, r_outF, ixL0, ixL1, ixL2, ixT0, ixT1, ixT2, addI_ok, subI_ok, gtI_ok, geI_ok, leI_ok, ltI_ok, lenL_ok, lenT_ok, abs_ok, intB_ok, List.getElem?_cons_zero, List.getElem?_cons_succ, List.length_cons, List.length_nil, List.set_cons_zero, List.set_cons_succ, List.map_cons, List.map_nil, List.cons_append, List.nil_append, List.replicate_succ, List.replicate_zero, Nat.reduceAdd, Nat.reduceSub, Nat.reduceLT, Nat.reduceEqDiff, Option.bind_some, Option.bind_none, Option.map_some, Option.map_none, if_true, if_false, ite_true, ite_false, ↓reduceIte, Bool.not_true, Bool.not_false, tup, n2, ii, ib, c0, c1, m4, s1, s0, rp, u1]
    · rintro ⟨U, h, hW⟩
      exact u2 ⟨U, (waysI_N h).1, hW⟩
/-- anything else -/
theorem ha_odd {x : PyData} (h : ∀ (n : Nat) ws, x = .tuple [.int (n : Int), .tuple ws] → ¬ n ≤ 60) : g_hands_across [x] = some .none := by
  have no : isiD "tuple" x = some (.bool false) → g_hands_across [x] = some .none := fun q => by
    unfold g_hands_across runP f_hands_across
    simp -implicitDefEqProofs only [eq_self, r_thn, r_tk, r_tk0, r_ret, r_lift, r_lift0, r_var, r_vk, r_bin, r_un, r_nil, r_cons, r_tup, r_of, r_call, r_tst, r_kt, r_ikT, r_ikF, r_ite, r_if, r_ife, r_and, r_or, r_not, r_vand, r_vor, r_vnot, r_chain, r_hkT, r_hkF, r_part, r_ok, r_sl, r_seq, r_skN, r_skR, r_skF, r_skB, r_skC, r_next, r_retS, r_rk, r_retF, r_rfk, r_drop, r_dk, r_asg, r_gk, r_gk2, gNm, r_tp, r_gs, r_qk, r_gs0, r_froz, r_frk, r_cmk, r_setI, r_stk, r_stk2, r_sti, r_pl, r_stj, r_aug, r_aug1, r_aug2, r_aug3, r_opN, r_par, r_prk, r_callN, r_tupRg, and_self, ixN0, ixN1, ixN2, r_peek, r_pk, r_pkI, r_pkB, r_pkS, r_pkN, r_tpeek, r_bk1, r_bk2, r_frz, r_fzk, r_own, owk, r_frkK, r_ownK, r_ixEd, r_ixEt, r_ixEl, r_inK, r_ninK, r_mk4, r_mk3, r_met, r_mk2, r_callM, r_mk2b, r_callM1, r_lenIs, r_callF, r_mat, r_mtk, r_mEnd, r_mCase, r_for, r_lk, r_items, r_itL, r_itT, r_rng, r_enum, r_zipM, zipM_ok, r_star, starL_ok, starT_ok, enumL_ok, enumT_ok, for_nil, r_lc, r_lck2, lc_nil, r_outM, r_outMn, r_outM1, r_outM1n, r_outD, r_outDf, r_outDn, r_outF, ixL0, ixL1, ixL2, ixT0, ixT1, ixT2, addI_ok, subI_ok, gtI_ok, geI_ok, leI_ok, ltI_ok, lenL_ok, lenT_ok, abs_ok, intB_ok, List.getElem?_cons_zero, List.getElem?_cons_succ, List.length_cons, List.length_nil, List.set_cons_zero, List.set_cons_succ, List.map_cons, List.map_nil, List.cons_append, List.nil_append, List.replicate_succ, List.replicate_zero, Nat.reduceAdd, Nat.reduceSub, Nat.reduceLT, Nat.reduceEqDiff, Option.bind_some, Option.bind_none, Option.map_some, Option.map_none, if_true, if_false, ite_true, ite_false, ↓reduceIte, Bool.not_true, Bool.not_false, q]
  cases x with
  | tuple ds =>
    have tup : ∀ d : List PyData, isiD "tuple" (.tuple d) = some (.bool true) := fun _ => rfl
    have ln : ds.length ≠ 2 → g_hands_across [.tuple ds] = some .none := fun hl => by
      have q : neD (.int (ds.length : Int)) (.int 2) = some (.bool true) := by
        rw [ne_num, decide_eq_false (fun z => hl (by have := Option.some.inj z; omega))]
        rfl
      unfold g_hands_across runP f_hands_across
      simp -implicitDefEqProofs only [eq_self, r_thn, r_tk, r_tk0, r_ret, r_lift, r_lift0, r_var, r_vk, r_bin, r_un, r_nil, r_cons, r_tup, r_of, r_call, r_tst, r_kt, r_ikT, r_ikF, r_ite, r_if, r_ife, r_and, r_or, r_not, r_vand, r_vor, r_vnot, r_chain, r_hkT, r_hkF, r_part, r_ok, r_sl, r_seq, r_skN, r_skR, r_skF, r_skB, r_skC, r_next, r_retS, r_rk, r_retF, r_rfk, r_drop, r_dk, r_asg, r_gk, r_gk2, gNm, r_tp, r_gs, r_qk, r_gs0, r_froz, r_frk, r_cmk, r_setI, r_stk, r_stk2, r_sti, r_pl, r_stj, r_aug, r_aug1, r_aug2, r_aug3, r_opN, r_par, r_prk, r_callN, r_tupRg, and_self, ixN0, ixN1, ixN2, r_peek, r_pk, r_pkI, r_pkB, r_pkS, r_pkN, r_tpeek, r_bk1, r_bk2, r_frz, r_fzk, r_own, owk, r_frkK, r_ownK, r_ixEd, r_ixEt, r_ixEl, r_inK, r_ninK, r_mk4, r_mk3, r_met, r_mk2, r_callM, r_mk2b, r_callM1, r_lenIs, r_callF, r_mat, r_mtk, r_mEnd, r_mCase, r_for, r_lk, r_items, r_itL, r_itT, r_rng, r_enum, r_zipM, zipM_ok, r_star, starL_ok, starT_ok, enumL_ok, enumT_ok, for_nil, r_lc, r_lck2, lc_nil, r_outM, r_outMn, r_outM1, r_outM1n, r_outD, r_outDf, r_outDn, r_outF, ixL0, ixL1, ixL2, ixT0, ixT1, ixT2, addI_ok, subI_ok, gtI_ok, geI_ok, leI_ok, ltI_ok, lenL_ok, lenT_ok, abs_ok, intB_ok, List.getElem?_cons_zero, List.getElem?_cons_succ, List.length_cons, List.length_nil, List.set_cons_zero, List.set_cons_succ, List.map_cons, List.map_nil, List.cons_append, List.nil_append, List.replicate_succ, List.replicate_zero, Nat.reduceAdd, Nat.reduceSub, Nat.reduceLT, Nat.reduceEqDiff, Option.bind_some, Option.bind_none, Option.map_some, Option.map_none, if_true, if_false, ite_true, ite_false, ↓reduceIte, Bool.not_true, Bool.not_false, tup, q]
    match ds, ln with
    | [], ln => exact ln (by decide)
    | [a], ln => exact ln (by simp)
    | a :: b :: c :: r, ln => exact ln (by simp)
    | [a, b], _ =>
      have n2 : neD (.int ((2 : Nat) : Int)) (.int 2) = some (.bool false) := rfl
      by_cases hi : ∃ i, a = .int i
      · obtain ⟨i, rfl⟩ := hi
        have ii : isiD "int" (.int i) = some (.bool true) := rfl
        have ib : isiD "bool" (.int i) = some (.bool false) := rfl
        by_cases h0 : 0 ≤ i
        · have c0 : decide ((0 : Int) ≤ i) = true := decide_eq_true h0
          by_cases h6 : i ≤ 60
          · have c1 : decide (i ≤ 60) = true := decide_eq_true h6
            have nt : isiD "tuple" b = some (.bool false) → g_hands_across [.tuple [.int i, b]] = some .none := fun qb => by
              unfold g_hands_across runP f_hands_across
              simp -implicitDefEqProofs only [eq_self, r_thn, r_tk, r_tk0, r_ret, r_lift, r_lift0, r_var, r_vk, r_bin, r_un, r_nil, r_cons, r_tup, r_of, r_call, r_tst, r_kt, r_ikT, r_ikF, r_ite, r_if, r_ife, r_and, r_or, r_not, r_vand, r_vor, r_vnot, r_chain, r_hkT, r_hkF, r_part, r_ok, r_sl, r_seq, r_skN, r_skR, r_skF, r_skB, r_skC, r_next, r_retS, r_rk, r_retF, r_rfk, r_drop, r_dk, r_asg, r_gk, r_gk2, gNm, r_tp, r_gs, r_qk, r_gs0, r_froz, r_frk, r_cmk, r_setI, r_stk, r_stk2, r_sti, r_pl, r_stj, r_aug, r_aug1, r_aug2, r_aug3, r_opN, r_par, r_prk, r_callN, r_tupRg, and_self, ixN0, ixN1, ixN2, r_peek, r_pk, r_pkI, r_pkB, r_pkS, r_pkN, r_tpeek, r_bk1, r_bk2, r_frz, r_fzk, r_own, owk, r_frkK, r_ownK, r_ixEd, r_ixEt, r_ixEl, r_inK, r_ninK, r_mk4, r_mk3, r_met, r_mk2, r_callM, r_mk2b, r_callM1, r_lenIs, r_callF, r_mat, r_mtk, r_mEnd, r_mCase, r_for, r_lk, r_items, r_itL, r_itT, r_rng, r_enum, r_zipM, zipM_ok, r_star, starL_ok, starT_ok, enumL_ok, enumT_ok, for_nil, r_lc, r_lck2, lc_nil, r_outM, r_outMn, r_outM1, r_outM1n, r_outD, r_outDf, r_outDn, r_outF, ixL0, ixL1, ixL2, ixT0, ixT1, ixT2, addI_ok, subI_ok, gtI_ok, geI_ok, leI_ok, ltI_ok, lenL_ok, lenT_ok, abs_ok, intB_ok, List.getElem?_cons_zero, List.getElem?_cons_succ, List.length_cons, List.length_nil, List.set_cons_zero, List.set_cons_succ, List.map_cons, List.map_nil, List.cons_append, List.nil_append, List.replicate_succ, List.replicate_zero, Nat.reduceAdd, Nat.reduceSub, Nat.reduceLT, Nat.reduceEqDiff, Option.bind_some, Option.bind_none, Option.map_some, Option.map_none, if_true, if_false, ite_true, ite_false, ↓reduceIte, Bool.not_true, Bool.not_false, tup, n2, ii, ib, c0, c1, qb]
            cases b with
            | tuple ws =>
              exfalso
              refine h i.toNat ws ?_ (by omega)
              rw [Int.toNat_of_nonneg h0]
            | _ => exact nt rfl
          · have c1 : decide (i ≤ 60) = false := decide_eq_false h6
            unfold g_hands_across runP f_hands_across
            simp -implicitDefEqProofs only [eq_self, r_thn, r_tk, r_tk0, r_ret, r_lift, r_lift0, r_var, r_vk, r_bin, r_un, r_nil, r_cons, r_tup, r_of, r_call, r_tst, r_kt, r_ikT, r_ikF, r_ite, r_if, r_ife, r_and, r_or, r_not, r_vand, r_vor, r_vnot, r_chain, r_hkT, r_hkF, r_part, r_ok, r_sl, r_seq, r_skN, r_skR, r_skF, r_skB, r_skC, r_next, r_retS, r_rk, r_retF, r_rfk, r_drop, r_dk, r_asg, r_gk, r_gk2, gNm, r_tp, r_gs, r_qk, r_gs0, r_froz, r_frk, r_cmk, r_setI, r_stk, r_stk2, r_sti, r_pl, r_stj, r_aug, r_aug1, r_aug2, r_aug3, r_opN, r_par, r_prk, r_callN, r_tupRg, and_self, ixN0, ixN1, ixN2, r_peek, r_pk, r_pkI, r_pkB, r_pkS, r_pkN, r_tpeek, r_bk1, r_bk2, r_frz, r_fzk, r_own, owk, r_frkK, r_ownK, r_ixEd, r_ixEt, r_ixEl, r_inK, r_ninK, r_mk4, r_mk3, r_met, r_mk2, r_callM, r_mk2b, r_callM1, r_lenIs, r_callF, r_mat, r_mtk, r_mEnd, r_mCase, r_for, r_lk, r_items, r_itL, r_itT, r_rng, r_enum, r_zipM, zipM_ok, r_star, starL_ok, starT_ok, enumL_ok, enumT_ok, for_nil, r_lc, r_lck2, lc_nil, r_outM, r_outMn, r_outM1, r_outM1n, r_outD, r_outDf, r_outDn, r_outF, ixL0, ixL1, ixL2, ixT0, ixT1, ixT2, addI_ok, subI_ok, gtI_ok, geI_ok, leI_ok, ltI_ok, lenL_ok, lenT_ok, abs_ok, intB_ok, List.getElem?_cons_zero, List.getElem?_cons_succ, List.length_cons, List.length_nil, List.set_cons_zero, List.set_cons_succ, List.map_cons, List.map_nil, List.cons_append, List.nil_append, List.replicate_succ, List.replicate_zero, Nat.reduceAdd, Nat.reduceSub, Nat.reduceLT, Nat.reduceEqDiff, Option.bind_some, Option.bind_none, Option.map_some, Option.map_none, if_true, if_false, ite_true, ite_false, ↓reduceIte, Bool.not_true, Bool.not_false, tup, n2, ii, ib, c0, c1]
        · have c0 : decide ((0 : Int) ≤ i) = false := decide_eq_false h0
          unfold g_hands_across runP f_hands_across
          simp -implicitDefEqProofs only [eq_self, r_thn, r_tk, r_tk0, r_ret, r_lift, r_lift0, r_var, r_vk, r_bin, r_un, r_nil, r_cons, r_tup, r_of, r_call, r_tst, r_kt, r_ikT, r_ikF, r_ite, r_if, r_ife, r_and, r_or, r_not, r_vand, r_vor, r_vnot, r_chain, r_hkT, r_hkF, r_part, r_ok, r_sl, r_seq, r_skN, r_skR, r_skF, r_skB, r_skC, r_next, r_retS, r_rk, r_retF, r_rfk, r_drop, r_dk, r_asg, r_gk, r_gk2, gNm, r_tp, r_gs, r_qk, r_gs0, r_froz, r_frk, r_cmk, r_setI, r_stk, r_stk2, r_sti, r_pl, r_stj, r_aug, r_aug1, r_aug2, r_aug3, r_opN, r_par, r_prk, r_callN, r_tupRg, and_self, ixN0, ixN1, ixN2, r_peek, r_pk, r_pkI, r_pkB, r_pkS, r_pkN, r_tpeek, r_bk1, r_bk2, r_frz, r_fzk, r_own, owk, r_frkK, r_ownK, r_ixEd, r_ixEt, r_ixEl, r_inK, r_ninK, r_mk4, r_mk3, r_met, r_mk2, r_callM, r_mk2b, r_callM1, r_lenIs, r_callF, r_mat, r_mtk, r_mEnd, r_mCase, r_for, r_lk, r_items, r_itL, r_itT, r_rng, r_enum, r_zipM, zipM_ok, r_star, starL_ok, starT_ok, enumL_ok, enumT_ok, for_nil, r_lc, r_lck2, lc_nil, r_outM, r_outMn, r_outM1, r_outM1n, r_outD, r_outDf, r_outDn, r_outF, ixL0, ixL1, ixL2, ixT0, ixT1, ixT2, addI_ok, subI_ok, gtI_ok, geI_ok, leI_ok, ltI_ok, lenL_ok, lenT_ok, abs_ok, intB_ok, List.getElem?_cons_zero, List.getElem?_cons_succ, List.length_cons, List.length_nil, List.set_cons_zero, List.set_cons_succ, List.map_cons, List.map_nil, List.cons_append, List.nil_append, List.replicate_succ, List.replicate_zero, Nat.reduceAdd, Nat.reduceSub, Nat.reduceLT, Nat.reduceEqDiff, Option.bind_some, Option.bind_none, Option.map_some, Option.map_none, if_true, if_false, ite_true, ite_false, ↓reduceIte, Bool.not_true, Bool.not_false, tup, n2, ii, ib, c0]
      · have st : isiD "int" a = some (.bool false) ∨ (isiD "int" a = some (.bool true) ∧ isiD "bool" a = some (.bool true)) := by
          cases a with
          | int i => exact absurd ⟨i, rfl⟩ hi
          | bool b => exact .inr ⟨rfl, rfl⟩
          | _ => exact .inl rfl
        rcases st with q | ⟨q, q2⟩
        · unfold g_hands_across runP f_hands_across
          simp -implicitDefEqProofs only [eq_self, r_thn, r_tk, r_tk0, r_ret, r_lift, r_lift0, r_var, r_vk, r_bin, r_un, r_nil, r_cons, r_tup, r_of, r_call, r_tst, r_kt, r_ikT, r_ikF, r_ite, r_if, r_ife, r_and, r_or, r_not, r_vand, r_vor, r_vnot, r_chain, r_hkT, r_hkF, r_part, r_ok, r_sl, r_seq, r_skN, r_skR, r_skF, r_skB, r_skC, r_next, r_retS, r_rk, r_retF, r_rfk, r_drop, r_dk, r_asg, r_gk, r_gk2, gNm, r_tp, r_gs, r_qk, r_gs0, r_froz, r_frk, r_cmk, r_setI, r_stk, r_stk2, r_sti, r_pl, r_stj, r_aug, r_aug1, r_aug2, r_aug3, r_opN, r_par, r_prk, r_callN, r_tupRg, and_self, ixN0, ixN1, ixN2, r_peek, r_pk, r_pkI, r_pkB, r_pkS, r_pkN, r_tpeek, r_bk1, r_bk2, r_frz, r_fzk, r_own, owk, r_frkK, r_ownK, r_ixEd, r_ixEt, r_ixEl, r_inK, r_ninK, r_mk4, r_mk3, r_met, r_mk2, r_callM, r_mk2b, r_callM1, r_lenIs, r_callF, r_mat, r_mtk, r_mEnd, r_mCase, r_for, r_lk, r_items, r_itL, r_itT, r_rng, r_enum, r_zipM, zipM_ok, r_star, starL_ok, starT_ok, enumL_ok, enumT_ok, for_nil, r_lc, r_lck2, lc_nil, r_outM, r_outMn, r_outM1, r_outM1n, r_outD, r_outDf, r_outDn, r_outF, ixL0, ixL1, ixL2, ixT0, ixT1, ixT2, addI_ok, subI_ok, gtI_ok, geI_ok, leI_ok, ltI_ok, lenL_ok, lenT_ok, abs_ok, intB_ok, List.getElem?_cons_zero, List.getElem?_cons_succ, List.length_cons, List.length_nil, List.set_cons_zero, List.set_cons_succ, List.map_cons, List.map_nil, List.cons_append, List.nil_append, List.replicate_succ, List.replicate_zero, Nat.reduceAdd, Nat.reduceSub, Nat.reduceLT, Nat.reduceEqDiff, Option.bind_some, Option.bind_none, Option.map_some, Option.map_none, if_true, if_false, ite_true, ite_false, ↓reduceIte, Bool.not_true, Bool.not_false, tup, n2, q]
        · unfold g_hands_across runP f_hands_across
          simp -implicitDefEqProofs only [eq_self, r_thn, r_tk, r_tk0, r_ret, r_lift, r_lift0, r_var, r_vk, r_bin, r_un, r_nil, r_cons, r_tup, r_of, r_call, r_tst, r_kt, r_ikT, r_ikF, r_ite, r_if, r_ife, r_and, r_or, r_not, r_vand, r_vor, r_vnot, r_chain, r_hkT, r_hkF, r_part, r_ok, r_sl, r_seq, r_skN, r_skR, r_skF, r_skB, r_skC, r_next, r_retS, r_rk, r_retF, r_rfk, r_drop, r_dk, r_asg, r_gk, r_gk2, gNm, r_tp, r_gs, r_qk, r_gs0, r_froz, r_frk, r_cmk, r_setI, r_stk, r_stk2, r_sti, r_pl, r_stj, r_aug, r_aug1, r_aug2, r_aug3, r_opN, r_par, r_prk, r_callN, r_tupRg, and_self, ixN0, ixN1, ixN2, r_peek, r_pk, r_pkI, r_pkB, r_pkS, r_pkN, r_tpeek, r_bk1, r_bk2, r_frz, r_fzk, r_own, owk, r_frkK, r_ownK, r_ixEd, r_ixEt, r_ixEl, r_inK, r_ninK, r_mk4, r_mk3, r_met, r_mk2, r_callM, r_mk2b, r_callM1, r_lenIs, r_callF, r_mat, r_mtk, r_mEnd, r_mCase, r_for, r_lk, r_items, r_itL, r_itT, r_rng, r_enum, r_zipM, zipM_ok, r_star, starL_ok, starT_ok, enumL_ok, enumT_ok, for_nil, r_lc, r_lck2, lc_nil, r_outM, r_outMn, r_outM1, r_outM1n, r_outD, r_outDf, r_outDn, r_outF, ixL0, ixL1, ixL2, ixT0, ixT1, ixT2, addI_ok, subI_ok, gtI_ok, geI_ok, leI_ok, ltI_ok, lenL_ok, lenT_ok, abs_ok, intB_ok, List.getElem?_cons_zero, List.getElem?_cons_succ, List.length_cons, List.length_nil, List.set_cons_zero, List.set_cons_succ, List.map_cons, List.map_nil, List.cons_append, List.nil_append, List.replicate_succ, List.replicate_zero, Nat.reduceAdd, Nat.reduceSub, Nat.reduceLT, Nat.reduceEqDiff, Option.bind_some, Option.bind_none, Option.map_some, Option.map_none, if_true, if_false, ite_true, ite_false, ↓reduceIte, Bool.not_true, Bool.not_false, tup, n2, q, q2]
  | _ => exact no rfl
end Lw

set_option Elab.async false
set_option linter.all false
set_option maxRecDepth 100000
set_option maxHeartbeats 4000000
namespace Lw
open PySem PySem.Spec PyProof.Rows L2 Tw
structure WebOk (m : Nat) (V : List (Int × Option Int)) : Prop where
  m : m ≤ 61
  len : V.length ≤ 130
  one : ∀ w ∈ V, 0 ≤ w.1 ∧ w.1 < 1000
  two : ∀ w ∈ V, ∀ g, w.2 = some g → 0 ≤ g ∧ g < 1000
def handsW (v : Int × Option Int) : List Int := v.1 :: v.2.toList
theorem flat_ge : ∀ V : List (Int × Option Int), V.length ≤ (flatW V).length
  | [] => Nat.le_refl _
  | v :: V => by
    have := flat_ge V
    show V.length + 1 ≤ (v.1 :: v.2.toList ++ flatW V).length
    rw [List.length_append, List.length_cons]
    omega
theorem Drawn.web {most m : Nat} {Bs : List (List Bool)} {S : List (Int × Option Int)} (D : Drawn most m Bs S) (h : most ≤ 30) : WebOk m S := by
  have hm := D.le
  have hp := D.perm
  have hl : (flatW S).length = 4 * m := by rw [hp.length_eq, List.length_map, List.length_range]
  have inr : ∀ x ∈ flatW S, 0 ≤ x ∧ x < 1000 := fun x hx => by
    obtain ⟨i, hi, rfl⟩ := List.mem_map.mp (hp.mem_iff.mp hx)
    have := List.mem_range.mp hi
    omega
  refine ⟨by omega, by have := flat_ge S; omega, fun w hw => inr _ (mem_flat hw), fun w hw g e => inr g (List.mem_flatMap.mpr ⟨w, hw, ?_⟩)⟩
  rw [e]
  simp
def Thing (d : PyData) : Prop := ∃ l c : Bool, (l && c) = false ∧ Fn l c 30000 60 d
theorem way_fn {l c : Bool} {w : Int × Option Int} (h1 : 0 ≤ w.1 ∧ w.1 < 1000) (h2 : ∀ g, w.2 = some g → 0 ≤ g ∧ g < 1000) : Fn l c 45 1 (wayD w) := by
  obtain ⟨a, b⟩ := w
  have h1 : 0 ≤ a ∧ a < 1000 := h1
  have fa : Fn l c 20 0 (.int a) := .sint (Nat.lt_of_lt_of_le (m := 1000) (by omega) (by decide)) (Nat.le_refl _)
  cases b with
  | none => exact Fn.tup ((FnL.cons fa (W2 := 0) .nil).wide (by decide) (Nat.le_refl _))
  | some g =>
    have h3 := h2 g rfl
    have fg : Fn l c 20 0 (.int g) := .sint (Nat.lt_of_lt_of_le (m := 1000) (by omega) (by decide)) (Nat.le_refl _)
    exact Fn.tup ((FnL.cons fa (FnL.cons fg (W2 := 0) .nil)).wide (by decide) (Nat.le_refl _))
theorem ways_fn {l c : Bool} {m : Nat} {V : List (Int × Option Int)} (h : WebOk m V) : FnL l c 6000 1 (V.map wayD) :=
  (FnL.all (W1 := 45) 130 (by rw [List.length_map]; exact h.len) fun d hd => by
    obtain ⟨w, hw, rfl⟩ := List.mem_map.mp hd
    exact way_fn (h.one w hw) (h.two w hw)).wide (by decide) (Nat.le_refl _)
theorem many_fn {l c : Bool} {i : Int} (h : -10 ≤ i ∧ i < 1000) : Fn l c 20 0 (.int i) := .sint (Nat.lt_of_lt_of_le (m := 1000) (by omega) (by decide)) (Nat.le_refl _)
theorem web_thing {m : Nat} {V : List (Int × Option Int)} (h : WebOk m V) : Thing (webD m V) := by
  have hm := h.m
  refine ⟨false, false, rfl, ?_⟩
  exact (Fn.tup (FnL.cons ((many_fn (by omega)).wide (Nat.le_refl _) (by decide : 0 ≤ 2)) (FnL.cons (Fn.tup (ways_fn h)) (W2 := 0) .nil))).wide (by decide) (by decide)
theorem pick {L : List PyData} {r : Int} (h0 : 0 ≤ r) (h1 : r < (L.length : Int)) : ∃ d, ixD (.list L) (.int r) = some d ∧ d ∈ L := by
  obtain ⟨j, rfl⟩ : ∃ j : Nat, r = (j : Int) := ⟨r.toNat, by omega⟩
  have hj : j < L.length := by omega
  exact ⟨L[j], ixLn (List.getElem?_eq_getElem hj), List.getElem_mem hj⟩
theorem addT_all {a b : List PyData} (h : a.length + b.length ≤ 100000) : addD (.tuple a) (.tuple b) = some (.tuple (a ++ b)) := if_pos (decide_eq_true h)
theorem cut_len (ds : List PyData) (lo hi : Option Int) : (Tw.cutD ds lo hi).length ≤ ds.length := by
  unfold Tw.cutD
  rw [List.length_take, List.length_drop]
  omega
theorem slT_ok {ds : List PyData} {lo hi : Option Int} : slD (.tuple ds) lo hi = some (.tuple (Tw.cutD ds lo hi)) := rfl
theorem max_ok {i j : Int} : maxD [.int i, .int j] = some (.int (if j > i then j else i)) := rfl
theorem pair_thing {l c : Bool} {a b : PyData} (hlc : (l && c) = false) (ha : Fn l c 1000 5 a) (hb : Fn l c 20000 40 b) : Thing (.tuple [a, b]) :=
  ⟨l, c, hlc, (Fn.tup (FnL.cons (ha.wide (Nat.le_refl _) (by decide : 5 ≤ 40)) (FnL.cons hb (W2 := 0) .nil))).wide (by decide) (by decide)⟩
theorem eqS_ok {x y : Str} : eqD (.str x) (.str y) = some (.bool (x == y)) := rfl
theorem repr_ok {d : PyData} (h : shownOk d = true) : reprD [d] = some (.str d.shown) := if_pos h
theorem thing_shown {d : PyData} (h : Thing d) : shownOk d = true := by
  obtain ⟨l, c, hlc, f⟩ := h
  exact (f.wide (W1 := 60000) (by decide) (Nat.le_refl _)).ok hlc
theorem Drawn.whole {most m : Nat} {Bs : List (List Bool)} {S : List (Int × Option Int)} (D : Drawn most m Bs S) : whole (4 * m) S := ⟨D.perm, D.rise, D.ord⟩
theorem waysI_map : ∀ {V : List (Int × Option Int)}, ordW V → waysI (V.map wayD) = some V
  | [], _ => rfl
  | v :: V, h => by
    have h1 : wayI (wayD v) = some v := by
      obtain ⟨a, b⟩ := v
      cases b with
      | none => rfl
      | some g => exact if_pos (h _ (List.mem_cons_self ..) g rfl)
    show (wayI (wayD v)).bind _ = _
    rw [h1, Option.bind_some, waysI_map fun w hw => h w (List.mem_cons_of_mem _ hw)]
    rfl
/-- the table of a web -/
theorem ha_web {m : Nat} {V : List (Int × Option Int)} (hm : m ≤ 60) (W : whole (4 * m) V) : ∃ B, g_hands_across [webD m V] = some (.list B) ∧ Tab (4 * m) V B := by
  have hl : V.length ≤ 240 := by
    have := flat_ge V
    have q := W.1.length_eq
    unfold rangeI at q
    rw [List.length_map, List.length_range] at q
    omega
  rcases ha_row (ws := V.map wayD) hm (by rw [List.length_map]; omega) with ⟨U, B, h1, _, h3, h4⟩ | ⟨_, h2⟩
  · rw [waysI_map W.2.2] at h1
    cases h1
    exact ⟨B, h3, h4⟩
  · exact absurd ⟨V, waysI_map W.2.2, W⟩ h2
end Lw

set_option linter.all false
namespace Lw
/-! ### walks by mates and ways -/
structure Net (n : Nat) (X : Int → Option Int) (T : Int → Int) : Prop where
  tin : ∀ h, 0 ≤ h ∧ h < (n : Int) → 0 ≤ T h ∧ T h < (n : Int)
  tt : ∀ h, 0 ≤ h ∧ h < (n : Int) → T (T h) = h
  tne : ∀ h, 0 ≤ h ∧ h < (n : Int) → T h ≠ h
  xin : ∀ h g, 0 ≤ h ∧ h < (n : Int) → X h = some g → 0 ≤ g ∧ g < (n : Int)
  xx : ∀ h g, 0 ≤ h ∧ h < (n : Int) → X h = some g → X g = some h
  xne : ∀ h, 0 ≤ h ∧ h < (n : Int) → X h ≠ some h
section
variable {n : Nat} {X : Int → Option Int} {T : Int → Int}
def Path (X : Int → Option Int) (T : Int → Int) (l : List Int) : Prop := ∀ (i : Nat) (a b : Int), l[i]? = some a → l[i + 1]? = some b → X (T a) = some b
def inH (n : Nat) (l : List Int) : Prop := ∀ x ∈ l, 0 ≤ x ∧ x < (n : Int)
theorem inH.at {l : List Int} (h : inH n l) {i : Nat} {a : Int} (e : l[i]? = some a) : 0 ≤ a ∧ a < (n : Int) := h a (List.mem_of_getElem? e)
theorem Path.back (N : Net n X T) {l : List Int} (P : Path X T l) (I : inH n l) {i : Nat} {a b : Int} (h1 : l[i]? = some a) (h2 : l[i + 1]? = some b) : X b = some (T a) := N.xx _ _ (N.tin _ (I.at h1)) (P i a b h1 h2)
/-- none is a mate of another one -/
theorem Path.apart (N : Net n X T) {l : List Int} (P : Path X T l) (I : inH n l) : ∀ (d i : Nat) (a b : Int), l[i]? = some a → l[i + d]? = some b → b ≠ T a
  | 0, i, a, b, h1, h2, e => by
    rw [Nat.add_zero, h1] at h2
    cases h2
    exact N.tne a (I.at h1) e.symm
  | 1, i, a, b, h1, h2, e => by
    have := P i a b h1 h2
    subst e
    exact N.xne _ (N.tin _ (I.at h1)) this
  | d + 2, i, a, b, h1, h2, e => by
    have hl : i + (d + 2) < l.length := (List.getElem?_eq_some_iff.mp h2).1
    have h3 : l[i + 1]? = some (l[i + 1]'(by omega)) := List.getElem?_eq_getElem (by omega)
    have h4 : l[i + 1 + d]? = some (l[i + 1 + d]'(by omega)) := List.getElem?_eq_getElem (by omega)
    have q1 := P i a _ h1 h3
    have q2 := Path.back N P I (i := i + 1 + d) h4 (by rw [show i + 1 + d + 1 = i + (d + 2) by omega]; exact h2)
    subst e
    rw [q1] at q2
    have q3 := Option.some.inj q2
    refine Path.apart N P I d (i + 1) _ _ h3 h4 ?_
    rw [q3, N.tt _ (I.at h4)]
structure Walk (n : Nat) (X : Int → Option Int) (T : Int → Int) (first : Int) (l : List Int) : Prop where
  hd : l[0]? = some first
  path : Path X T l
  inr : inH n l
  later : ∀ (i : Nat) (b : Int), l[i + 1]? = some b → b ≠ first
theorem Walk.inj (N : Net n X T) {first : Int} {l : List Int} (W : Walk n X T first l) : ∀ (i j : Nat) (a : Int), l[i]? = some a → l[j]? = some a → i = j
  | 0, 0, _, _, _ => rfl
  | 0, j + 1, a, h1, h2 => by
    rw [W.hd] at h1
    cases h1
    exact absurd rfl (W.later j _ h2)
  | i + 1, 0, a, h1, h2 => by
    rw [W.hd] at h2
    cases h2
    exact absurd rfl (W.later i _ h1)
  | i + 1, j + 1, a, h1, h2 => by
    have li : i + 1 < l.length := (List.getElem?_eq_some_iff.mp h1).1
    have lj : j + 1 < l.length := (List.getElem?_eq_some_iff.mp h2).1
    have e1 : l[i]? = some (l[i]'(by omega)) := List.getElem?_eq_getElem (by omega)
    have e2 : l[j]? = some (l[j]'(by omega)) := List.getElem?_eq_getElem (by omega)
    have b1 := Path.back N W.path W.inr e1 h1
    have b2 := Path.back N W.path W.inr e2 h2
    rw [b1] at b2
    have q := congrArg T (Option.some.inj b2)
    rw [N.tt _ (W.inr.at e1), N.tt _ (W.inr.at e2)] at q
    rw [← q] at e2
    rw [Walk.inj N W i j _ e1 e2]
theorem Walk.nd (N : Net n X T) {first : Int} {l : List Int} (W : Walk n X T first l) : l.Nodup := by
  refine List.pairwise_iff_getElem.mpr fun i j hi hj hij e => ?_
  have e1 : l[i]? = some l[i] := List.getElem?_eq_getElem hi
  have e2 : l[j]? = some l[j] := List.getElem?_eq_getElem hj
  rw [← e] at e2
  have := Walk.inj N W i j _ e1 e2
  omega
theorem in_len : ∀ (n : Nat) (l : List Int), l.Nodup → inH n l → l.length ≤ n := fun n l nd h => by
  have nr : ((List.range n).map fun i : Nat => (i : Int)).Nodup := List.Pairwise.map (R := (· ≠ ·)) (fun i : Nat => (i : Int)) (fun a b h z => h (by exact_mod_cast z)) List.nodup_range
  have p : l.Perm (((List.range n).map fun i : Nat => (i : Int)).filter fun r => decide (r ∈ l)) := by
    refine (List.perm_ext_iff_of_nodup nd (List.Nodup.sublist List.filter_sublist nr)).mpr fun a => ?_
    rw [List.mem_filter, decide_eq_true_eq]
    refine ⟨fun q => ⟨?_, q⟩, fun q => q.2⟩
    have := h a q
    exact List.mem_map.mpr ⟨a.toNat, List.mem_range.mpr (by omega), by omega⟩
  rw [p.length_eq]
  refine Nat.le_trans (List.length_filter_le _ _) ?_
  rw [List.length_map, List.length_range]
  exact Nat.le_refl _
def wk (X : Int → Option Int) (T : Int → Int) (first : Int) : Nat → Int → Option (List Int)
  | 0, _ => none
  | k + 1, a => match X (T a) with
    | none => some [a]
    | some g => if g = first then some [a] else (wk X T first k g).map (a :: ·)
/-- where it ends -/
def Ends (X : Int → Option Int) (T : Int → Int) (first : Int) (l : List Int) : Prop := ∃ z, l[l.length - 1]? = some z ∧ (X (T z) = none ∨ X (T z) = some first)
theorem wk_ok (N : Net n X T) {first : Int} : ∀ (k : Nat) (vs : List Int) (a : Int), Walk n X T first (vs ++ [a]) → n < vs.length + 1 + k → ∃ l, wk X T first k a = some l ∧ l[0]? = some a ∧ Walk n X T first (vs ++ l) ∧ Ends X T first (vs ++ l)
  | 0, vs, a, W, h => by
    have := in_len n _ (W.nd N) W.inr
    rw [List.length_append, List.length_singleton] at this
    omega
  | k + 1, vs, a, W, h => by
    have la : (vs ++ [a])[(vs ++ [a]).length - 1]? = some a := by
      rw [List.length_append, List.length_singleton, Nat.add_sub_cancel, List.getElem?_append_right (Nat.le_refl _), Nat.sub_self]
      rfl
    have ina := W.inr a (List.mem_append_right _ (List.mem_singleton.mpr rfl))
    cases hx : X (T a) with
    | none => exact ⟨[a], by unfold wk; rw [hx], rfl, W, a, la, .inl hx⟩
    | some g =>
      by_cases hg : g = first
      · exact ⟨[a], by unfold wk; rw [hx]; exact if_pos hg, rfl, W, a, la, .inr (by rw [hx, hg])⟩
      · have W2 : Walk n X T first ((vs ++ [a]) ++ [g]) := by
          have gl : ∀ {i : Nat} {b : Int}, ((vs ++ [a]) ++ [g])[i]? = some b → (i < (vs ++ [a]).length ∧ (vs ++ [a])[i]? = some b) ∨ (i = (vs ++ [a]).length ∧ b = g) := fun {i b} e => by
            by_cases c : i < (vs ++ [a]).length
            · rw [List.getElem?_append_left c] at e
              exact .inl ⟨c, e⟩
            · have : i < ((vs ++ [a]) ++ [g]).length := (List.getElem?_eq_some_iff.mp e).1
              rw [List.length_append, List.length_singleton] at this
              have ei : i = (vs ++ [a]).length := by omega
              rw [ei, List.getElem?_append_right (Nat.le_refl _), Nat.sub_self] at e
              cases e
              exact .inr ⟨ei, rfl⟩
          refine ⟨?_, fun i x y h1 h2 => ?_, fun x hx' => ?_, fun i b e => ?_⟩
          · rw [List.getElem?_append_left (by rw [List.length_append, List.length_singleton]; omega)]
            exact W.hd
          · rcases gl h2 with ⟨_, h2⟩ | ⟨ei, rfl⟩
            · rcases gl h1 with ⟨_, h1⟩ | ⟨e1, _⟩
              · exact W.path i x y h1 h2
              · have := (List.getElem?_eq_some_iff.mp h2).1
                omega
            · rcases gl h1 with ⟨_, h1⟩ | ⟨e1, _⟩
              · rw [show i = (vs ++ [a]).length - 1 by omega, la] at h1
                cases h1
                exact hx
              · omega
          · rcases List.mem_append.mp hx' with h | h
            · exact W.inr x h
            · rw [List.mem_singleton.mp h]
              exact N.xin _ _ (N.tin _ ina) hx
          · rcases gl e with ⟨_, e⟩ | ⟨_, rfl⟩
            · exact W.later i b e
            · exact hg
        obtain ⟨l, e1, e2, W3, E⟩ := wk_ok N k (vs ++ [a]) g W2 (by rw [List.length_append, List.length_singleton]; omega)
        refine ⟨a :: l, ?_, rfl, ?_, ?_⟩
        · unfold wk
          rw [hx]
          show (if g = first then _ else _) = _
          rw [if_neg hg, e1]
          rfl
        · rw [List.append_assoc] at W3
          exact W3
        · rw [List.append_assoc] at E
          exact E
/-- from any hand a walk comes to an end, or round -/
theorem wk_all (N : Net n X T) {first : Int} (h : 0 ≤ first ∧ first < (n : Int)) : ∃ l, wk X T first (n + 1) first = some l ∧ Walk n X T first l ∧ Ends X T first l := by
  have W : Walk n X T first ([] ++ [first]) := ⟨rfl, fun i a b h1 h2 => by
    have := (List.getElem?_eq_some_iff.mp h2).1
    simp at this, fun x hx => by rw [List.mem_singleton.mp hx]; exact h, fun i b e => by
    have := (List.getElem?_eq_some_iff.mp e).1
    simp at this⟩
  obtain ⟨l, e1, e2, W2, E⟩ := wk_ok N (n + 1) [] first W (by rw [List.length_nil]; omega)
  exact ⟨l, e1, W2, E⟩
end
end Lw

set_option linter.all false
namespace Lw
section
variable {n : Nat} {X : Int → Option Int} {T : Int → Int}
/-! ### rows of hands, one walk behind another -/
def rowL (T : Int → Int) (l : List Int) : List Int := l.flatMap fun a => [a, T a]
theorem mem_row {l : List Int} {h : Int} : h ∈ rowL T l ↔ ∃ a ∈ l, h = a ∨ h = T a := by
  unfold rowL
  rw [List.mem_flatMap]
  simp only [List.mem_cons, List.not_mem_nil, or_false]
/-- a set of hands that mates and ways do not leave -/
structure Clo (n : Nat) (X : Int → Option Int) (T : Int → Int) (F : List Int) : Prop where
  inr : inH n F
  t : ∀ h ∈ F, T h ∈ F
  x : ∀ h ∈ F, ∀ g, X h = some g → g ∈ F
theorem Clo.back (N : Net n X T) {F : List Int} (C : Clo n X T F) {first : Int} {l : List Int} (W : Walk n X T first l) : ∀ (i : Nat) (a : Int), l[i]? = some a → a ∈ F → first ∈ F
  | 0, a, e, h => by
    rw [W.hd] at e
    cases e
    exact h
  | i + 1, a, e, h => by
    have li : i + 1 < l.length := (List.getElem?_eq_some_iff.mp e).1
    have e1 : l[i]? = some (l[i]'(by omega)) := List.getElem?_eq_getElem (by omega)
    have b := Path.back N W.path W.inr e1 e
    have q := C.t _ (C.x a h _ b)
    rw [N.tt _ (W.inr.at e1)] at q
    exact Clo.back N C W i _ e1 q
theorem Clo.away (N : Net n X T) {F : List Int} (C : Clo n X T F) {first : Int} {l : List Int} (W : Walk n X T first l) (hf : first ∉ F) : ∀ h ∈ rowL T l, h ∉ F := fun h hh q => by
  obtain ⟨a, ha, e⟩ := mem_row.mp hh
  obtain ⟨i, hi⟩ := List.mem_iff_getElem?.mp ha
  rcases e with rfl | rfl
  · exact hf (C.back N W i _ hi q)
  · have := C.t _ q
    rw [N.tt _ (W.inr a ha)] at this
    exact hf (C.back N W i _ hi this)
theorem Walk.row_nd (N : Net n X T) {first : Int} {l : List Int} (W : Walk n X T first l) : (rowL T l).Nodup := by
  unfold rowL
  refine List.pairwise_flatMap.mpr ⟨fun a ha => ?_, ?_⟩
  · have := N.tne a (W.inr a ha)
    simp only [List.pairwise_cons, List.mem_singleton, forall_eq, List.not_mem_nil, false_implies, implies_true, List.Pairwise.nil, and_true]
    exact fun z => this z.symm
  · refine List.pairwise_iff_getElem.mpr fun i j hi hj hij => ?_
    have e1 : l[i]? = some l[i] := List.getElem?_eq_getElem hi
    have e2 : l[j]? = some l[j] := List.getElem?_eq_getElem hj
    have ap := Path.apart N W.path W.inr (j - i) i _ _ e1 (by rw [show i + (j - i) = j by omega]; exact e2)
    have ne : l[i] ≠ l[j] := fun e => by
      rw [← e] at e2
      have := Walk.inj N W i j _ e1 e2
      omega
    have t1 := N.tt _ (W.inr.at e1)
    have t2 := N.tt _ (W.inr.at e2)
    intro x hx y hy
    simp only [List.mem_cons, List.not_mem_nil, or_false] at hx hy
    rcases hx with rfl | rfl <;> rcases hy with rfl | rfl
    · exact ne
    · intro e
      exact ap (by rw [e, t2])
    · exact fun e => ap e.symm
    · intro e
      have := congrArg T e
      rw [t1, t2] at this
      exact ne this
/-- one more row -/
theorem Clo.more (N : Net n X T) {F : List Int} (C : Clo n X T F) {first : Int} {l : List Int} (W : Walk n X T first l) (E : Ends X T first l) (hf : first ∉ F) (he : X first = none ∨ ∀ h, 0 ≤ h ∧ h < (n : Int) → X h = none → h ∈ F) : Clo n X T (F ++ rowL T l) := by
  obtain ⟨z, hz, ez⟩ := E
  have iz := W.inr.at hz
  have rnd : X first = none ∨ X (T z) = some first := by
    rcases he with he | he
    · exact .inl he
    · rcases ez with ez | ez
      · have q := C.t _ (he _ (N.tin _ iz) ez)
        rw [N.tt _ iz] at q
        exact absurd (C.back N W _ _ hz q) hf
      · exact .inr ez
  have inrow : ∀ {i : Nat} {a : Int}, l[i]? = some a → a ∈ rowL T l ∧ T a ∈ rowL T l := fun {i a} e => ⟨mem_row.mpr ⟨a, List.mem_of_getElem? e, .inl rfl⟩, mem_row.mpr ⟨a, List.mem_of_getElem? e, .inr rfl⟩⟩
  refine ⟨fun x hx => ?_, fun h hh => ?_, fun h hh g e => ?_⟩
  · rcases List.mem_append.mp hx with hx | hx
    · exact C.inr x hx
    · obtain ⟨a, ha, rfl | rfl⟩ := mem_row.mp hx
      · exact W.inr _ ha
      · exact N.tin _ (W.inr _ ha)
  · rcases List.mem_append.mp hh with hh | hh
    · exact List.mem_append_left _ (C.t h hh)
    · refine List.mem_append_right _ ?_
      obtain ⟨a, ha, rfl | rfl⟩ := mem_row.mp hh
      · exact mem_row.mpr ⟨_, ha, .inr rfl⟩
      · rw [N.tt _ (W.inr _ ha)]
        exact mem_row.mpr ⟨_, ha, .inl rfl⟩
  · rcases List.mem_append.mp hh with hh | hh
    · exact List.mem_append_left _ (C.x h hh g e)
    · refine List.mem_append_right _ ?_
      obtain ⟨a, ha, q⟩ := mem_row.mp hh
      obtain ⟨i, hi⟩ := List.mem_iff_getElem?.mp ha
      rcases q with rfl | rfl
      · cases i with
        | zero =>
          rw [W.hd] at hi
          cases hi
          rcases rnd with r | r
          · rw [r] at e
            cases e
          · rw [N.xx _ _ (N.tin _ iz) r] at e
            cases e
            exact (inrow hz).2
        | succ i =>
          have li : i + 1 < l.length := (List.getElem?_eq_some_iff.mp hi).1
          have e1 : l[i]? = some (l[i]'(by omega)) := List.getElem?_eq_getElem (by omega)
          rw [Path.back N W.path W.inr e1 hi] at e
          cases e
          exact (inrow e1).2
      · by_cases c : i + 1 < l.length
        · have e1 : l[i + 1]? = some l[i + 1] := List.getElem?_eq_getElem c
          rw [W.path i a _ hi e1] at e
          cases e
          exact (inrow e1).1
        · have li : i < l.length := (List.getElem?_eq_some_iff.mp hi).1
          rw [show l.length - 1 = i by omega, hi] at hz
          cases hz
          rcases ez with r | r
          · rw [r] at e
            cases e
          · rw [r] at e
            cases e
            exact (inrow W.hd).1
/-- what is known of a row that is told -/
def IsRow (n : Nat) (X : Int → Option Int) (T : Int → Int) (r : List Int) : Prop := ∃ first l, r = rowL T l ∧ Walk n X T first l ∧ Ends X T first l ∧ wk X T first (n + 1) first = some l ∧ (0 ≤ first ∧ first < (n : Int)) ∧ (X first = none ∨ X first ≠ none)
def stepR (n : Nat) (X : Int → Option Int) (T : Int → Int) (rows : List (List Int)) (first : Int) : List (List Int) := if first ∈ rows.flatten then rows else rows ++ [rowL T ((wk X T first (n + 1) first).getD [])]
structure Fam (n : Nat) (X : Int → Option Int) (T : Int → Int) (rows : List (List Int)) : Prop where
  clo : Clo n X T rows.flatten
  nd : rows.flatten.Nodup
  row : ∀ r ∈ rows, IsRow n X T r
theorem Fam.nil : Fam n X T [] := ⟨⟨fun x hx => (nomatch hx), fun h hh => (nomatch hh), fun h hh => (nomatch hh)⟩, List.Pairwise.nil, fun r hr => (nomatch hr)⟩
theorem Fam.step (N : Net n X T) {rows : List (List Int)} (M : Fam n X T rows) {first : Int} (h : 0 ≤ first ∧ first < (n : Int)) (he : X first = none ∨ ∀ h, 0 ≤ h ∧ h < (n : Int) → X h = none → h ∈ rows.flatten) : Fam n X T (stepR n X T rows first) ∧ first ∈ (stepR n X T rows first).flatten ∧ ∀ x ∈ rows.flatten, x ∈ (stepR n X T rows first).flatten := by
  unfold stepR
  by_cases c : first ∈ rows.flatten
  · rw [if_pos c]
    exact ⟨M, c, fun _ q => q⟩
  · rw [if_neg c]
    obtain ⟨l, e, W, E⟩ := wk_all N h
    rw [e, Option.getD_some, List.flatten_append, List.flatten_singleton]
    refine ⟨⟨?_, ?_, fun r hr => ?_⟩, List.mem_append_right _ (mem_row.mpr ⟨first, List.mem_of_getElem? W.hd, .inl rfl⟩), fun x q => List.mem_append_left _ q⟩
    · rw [List.flatten_append, List.flatten_singleton]
      exact M.clo.more N W E c he
    · rw [List.flatten_append, List.flatten_singleton]
      refine List.nodup_append.mpr ⟨M.nd, W.row_nd N, fun x hx y hy z => ?_⟩
      subst z
      exact M.clo.away N W c x hy hx
    · rcases List.mem_append.mp hr with hr | hr
      · exact M.row r hr
      · rw [List.mem_singleton.mp hr]
        exact ⟨first, l, rfl, W, E, e, h, Classical.em _⟩
end
end Lw

set_option Elab.async false
set_option linter.all false
set_option maxRecDepth 100000
set_option maxHeartbeats 4000000
namespace Lw
open PySem PySem.Spec PyProof.Rows L2 Tw
/-! ### a web with a mating as a net -/
def bitOf (x : Int) : Int := if x = 0 then 1 else if x = 1 then 3 else 2
def mateT (x r : Int) : Int := if x = 0 then (if r = 0 then 1 else if r = 1 then 0 else if r = 2 then 3 else 2) else if x = 1 then (if r = 0 then 3 else if r = 1 then 2 else if r = 2 then 1 else 0) else (if r = 0 then 2 else if r = 1 then 3 else if r = 2 then 0 else 1)
def xorAll : Bool := (List.range 60).all fun p => [(0 : Int), 1, 2].all fun x => [(0 : Int), 1, 2, 3].all fun r => Builtin.bitXor (4 * (p : Int) + r) (bitOf x) == 4 * (p : Int) + mateT x r
theorem xorAll_ok : xorAll = true := by decide +kernel
def three (x : Int) : Prop := x = 0 ∨ x = 1 ∨ x = 2
theorem xor_ok {h x : Int} (h0 : 0 ≤ h) (h1 : h < 240) (hx : three x) : Builtin.bitXor h (bitOf x) = h - h % 4 + mateT x (h % 4) := by
  have a := List.all_eq_true.mp xorAll_ok (h / 4).toNat (List.mem_range.mpr (by omega))
  have b := List.all_eq_true.mp a x (by rcases hx with rfl | rfl | rfl <;> simp)
  have c := List.all_eq_true.mp b (h % 4) (by
    have : h % 4 = 0 ∨ h % 4 = 1 ∨ h % 4 = 2 ∨ h % 4 = 3 := by omega
    rcases this with e | e | e | e <;> rw [e] <;> simp)
  have d := eq_of_beq c
  have e : 4 * (((h / 4).toNat : Nat) : Int) = h - h % 4 := by omega
  rw [e, show h - h % 4 + h % 4 = h by omega] at d
  exact d
structure Mat (m : Nat) (M : List Int) : Prop where
  len : M.length = m
  all : ∀ x ∈ M, three x
def atM (M : List Int) (h : Int) : Int := M.getD (h / 4).toNat 0
def TM (M : List Int) (h : Int) : Int := h - h % 4 + mateT (atM M h) (h % 4)
def XB (B : List PyData) (h : Int) : Option Int := match B[h.toNat]? with
  | some (.int g) => some g
  | _ => none
theorem mate_facts {x r : Int} (hx : three x) (hr : 0 ≤ r ∧ r < 4) : 0 ≤ mateT x r ∧ mateT x r < 4 ∧ mateT x r ≠ r ∧ mateT x (mateT x r) = r := by
  have c : r = 0 ∨ r = 1 ∨ r = 2 ∨ r = 3 := by omega
  rcases hx with rfl | rfl | rfl <;> rcases c with rfl | rfl | rfl | rfl <;> decide
section
variable {m : Nat} {V : List (Int × Option Int)} {M : List Int} {B : List PyData}
theorem atM_ok (hM : Mat m M) {h : Int} (h0 : 0 ≤ h) (h1 : h < 4 * (m : Int)) : three (atM M h) ∧ M[(h / 4).toNat]? = some (atM M h) := by
  have : (h / 4).toNat < M.length := by rw [hM.len]; omega
  have e : M[(h / 4).toNat]? = some M[(h / 4).toNat] := List.getElem?_eq_getElem this
  unfold atM
  rw [List.getD_eq_getElem?_getD, e]
  exact ⟨hM.all _ (List.getElem_mem this), rfl⟩
/-- each hand stands in a way -/
theorem XB_way (W : whole (4 * m) V) (t : Tab (4 * m) V B) {h : Int} (h0 : 0 ≤ h ∧ h < ((4 * m : Nat) : Int)) : (B[h.toNat]? = some .none ∧ (h, none) ∈ V) ∨ ∃ g, B[h.toNat]? = some (.int g) ∧ B[g.toNat]? = some (.int h) ∧ (0 ≤ g ∧ g < ((4 * m : Nat) : Int)) ∧ g ≠ h := by
  have hf : h ∈ flatW V := W.1.mem_iff.mpr (mem_rangeI.mpr h0)
  obtain ⟨v, hv, hh⟩ := List.mem_flatMap.mp hf
  have inr : ∀ x ∈ flatW V, 0 ≤ x ∧ x < ((4 * m : Nat) : Int) := fun x hx => mem_rangeI.mp (W.1.mem_iff.mp hx)
  obtain ⟨a, b⟩ := v
  cases b with
  | none =>
    have : h = a := by simpa using hh
    subst this
    exact .inl ⟨t.one _ hv rfl, hv⟩
  | some g =>
    have c : h = a ∨ h = g := by simpa using hh
    obtain ⟨e1, e2⟩ := t.two _ hv g rfl
    have lt := W.2.2 _ hv g rfl
    have lt : a < g := lt
    have ia := inr a (mem_flat hv)
    have ig := inr g (List.mem_flatMap.mpr ⟨_, hv, by simp⟩)
    rcases c with rfl | rfl
    · exact .inr ⟨g, e1, e2, ig, by omega⟩
    · exact .inr ⟨a, e2, e1, ia, by omega⟩
theorem net_of (W : whole (4 * m) V) (t : Tab (4 * m) V B) (hM : Mat m M) : Net (4 * m) (XB B) (TM M) := by
  have xb : ∀ {h g : Int}, 0 ≤ h ∧ h < ((4 * m : Nat) : Int) → XB B h = some g → B[h.toNat]? = some (.int g) ∧ B[g.toNat]? = some (.int h) ∧ (0 ≤ g ∧ g < ((4 * m : Nat) : Int)) ∧ g ≠ h := fun {h g} h0 e => by
    unfold XB at e
    rcases XB_way W t h0 with ⟨q, _⟩ | ⟨g', q1, q2, q3, q4⟩
    · rw [q] at e
      cases e
    · rw [q1] at e
      cases e
      exact ⟨q1, q2, q3, q4⟩
  have tm : ∀ {h : Int}, 0 ≤ h ∧ h < ((4 * m : Nat) : Int) → (0 ≤ TM M h ∧ TM M h < ((4 * m : Nat) : Int)) ∧ TM M h / 4 = h / 4 ∧ TM M h % 4 = mateT (atM M h) (h % 4) ∧ TM M h ≠ h ∧ TM M (TM M h) = h := fun {h} h0 => by
    obtain ⟨tx, _⟩ := atM_ok hM h0.1 (by omega)
    obtain ⟨a, b, c, d⟩ := mate_facts tx (r := h % 4) (by omega)
    have e0 : TM M h = h - h % 4 + mateT (atM M h) (h % 4) := rfl
    have e1 : TM M h / 4 = h / 4 := by omega
    have e2 : TM M h % 4 = mateT (atM M h) (h % 4) := by omega
    refine ⟨by omega, e1, e2, by omega, ?_⟩
    have e3 : atM M (TM M h) = atM M h := by
      unfold atM
      rw [e1]
    have e4 : TM M (TM M h) = TM M h - TM M h % 4 + mateT (atM M (TM M h)) (TM M h % 4) := rfl
    rw [e4, e3, e2, d]
    omega
  refine ⟨fun h h0 => (tm h0).1, fun h h0 => (tm h0).2.2.2.2, fun h h0 => (tm h0).2.2.2.1, fun h g h0 e => (xb h0 e).2.2.1, fun h g h0 e => ?_, fun h h0 e => (xb h0 e).2.2.2 rfl⟩
  unfold XB
  rw [(xb h0 e).2.1]
/-! ### a strand, walked by the program -/
def xD : Option Int → PyData
  | some g => .int g
  | none => .none
theorem XB_ix (W : whole (4 * m) V) (t : Tab (4 * m) V B) {h : Int} (h0 : 0 ≤ h ∧ h < ((4 * m : Nat) : Int)) : ixD (.list B) (.int h) = some (xD (XB B h)) := by
  obtain ⟨k, rfl⟩ : ∃ k : Nat, h = (k : Int) := ⟨h.toNat, by omega⟩
  have e : B[((k : Int)).toNat]? = B[k]? := by rw [Int.toNat_natCast]
  unfold XB
  rcases XB_way W t h0 with ⟨q, _⟩ | ⟨g', q1, _, _, _⟩
  · rw [q]
    rw [e] at q
    exact ixLn q
  · rw [q1]
    rw [e] at q1
    exact ixLn q1
end
end Lw

set_option Elab.async false
set_option linter.all false
set_option maxRecDepth 100000
set_option maxHeartbeats 4000000
namespace Lw
open PySem PySem.Spec PyProof.Rows L2 Tw
/-! ### rows of whole numbers, sorted -/
theorem eq_of_rise : ∀ {A B : List Int}, A.Pairwise (· < ·) → B.Pairwise (· < ·) → (∀ x, x ∈ A ↔ x ∈ B) → A = B
  | [], [], _, _, _ => rfl
  | [], b :: B, _, _, h => nomatch (h b).mpr (List.mem_cons_self ..)
  | a :: A, [], _, _, h => nomatch (h a).mp (List.mem_cons_self ..)
  | a :: A, b :: B, pa, pb, h => by
    obtain ⟨a1, a2⟩ := List.pairwise_cons.mp pa
    obtain ⟨b1, b2⟩ := List.pairwise_cons.mp pb
    have e : a = b := by
      rcases List.mem_cons.mp ((h a).mp (List.mem_cons_self ..)) with q | q
      · exact q
      · rcases List.mem_cons.mp ((h b).mpr (List.mem_cons_self ..)) with r | r
        · exact r.symm
        · have := a1 b r
          have := b1 a q
          omega
    subst e
    rw [eq_of_rise a2 b2 fun x => ⟨fun hx => ?_, fun hx => ?_⟩]
    · rcases List.mem_cons.mp ((h x).mp (List.mem_cons_of_mem _ hx)) with rfl | q
      · have := a1 x hx
        omega
      · exact q
    · rcases List.mem_cons.mp ((h x).mpr (List.mem_cons_of_mem _ hx)) with rfl | q
      · have := b1 x hx
        omega
      · exact q
def sortI (L : List Int) : List Int := L.mergeSort fun a b => decide (a ≤ b)
theorem le_int (a b : Int) : decide (a ≤ b) = PySem.W.dataLe false id (.int a) (.int b) := by
  show _ = !PyProof.Rows.lexLt itemOrd [.inl b] [.inl a]
  show _ = !(itemLt (.inl b) (.inl a) || (!itemLt (.inl a) (.inl b) && PyProof.Rows.lexLt itemOrd [] []))
  have e1 : itemLt (.inl b) (.inl a) = decide (b < a) := rfl
  have e2 : PyProof.Rows.lexLt itemOrd [] [] = false := rfl
  rw [e1, e2, Bool.and_false, Bool.or_false]
  by_cases h : a ≤ b
  · rw [decide_eq_true h, decide_eq_false (by omega)]
    rfl
  · rw [decide_eq_false h, decide_eq_true (by omega)]
    rfl
theorem ints_sortOk (L : List Int) : sortOk (intsD L) = true := by
  unfold sortOk intsD
  rw [Bool.and_eq_true, Bool.and_eq_true, Bool.or_eq_true]
  refine ⟨⟨?_, .inr ?_⟩, ?_⟩
  · unfold allAlikeB
    refine List.all_eq_true.mpr fun d hd => List.all_eq_true.mpr fun e he => ?_
    obtain ⟨v, _, rfl⟩ := List.mem_map.mp hd
    obtain ⟨w, _, rfl⟩ := List.mem_map.mp he
    rfl
  · refine List.all_eq_true.mpr fun d hd => ?_
    obtain ⟨v, _, rfl⟩ := List.mem_map.mp hd
    rfl
  · refine List.all_eq_true.mpr fun d hd => ?_
    obtain ⟨v, _, rfl⟩ := List.mem_map.mp hd
    rfl
theorem rise_ints {L : List Int} (h : L.Pairwise (· < ·)) : sortedD [.list (intsD L)] = some (.list (intsD L)) := by
  show (if sortOk (intsD L) = true then some (PyData.list (srt (intsD L))) else none) = _
  rw [if_pos (ints_sortOk L)]
  unfold srt intsD
  rw [← List.map_mergeSort (r := fun a b => decide (a ≤ b)) (s := PySem.W.dataLe false id) (f := PyData.int) fun a _ b _ => le_int a b, List.mergeSort_of_pairwise (h.imp fun q => decide_eq_true (by omega))]
theorem cast_up {L : List Nat} (h : L.Pairwise (· < ·)) : (L.map fun h : Nat => (h : Int)).Pairwise (· < ·) := List.Pairwise.map (R := (· < ·)) (fun h : Nat => (h : Int)) (fun a b q => by omega) h
theorem sortI_ok (L : List Int) : sortedD [.list (intsD L)] = some (.list (intsD (sortI L))) := by
  show (if sortOk (intsD L) = true then some (PyData.list (srt (intsD L))) else none) = _
  rw [if_pos (ints_sortOk L)]
  unfold srt intsD sortI
  rw [← List.map_mergeSort (r := fun a b => decide (a ≤ b)) (s := PySem.W.dataLe false id) (f := PyData.int) fun a _ b _ => le_int a b]
theorem sortI_range {L : List Int} {n : Nat} (nd : L.Nodup) (h : ∀ x, x ∈ L ↔ 0 ≤ x ∧ x < (n : Int)) : sortI L = rangeI n := by
  have p : (sortI L).Perm L := List.mergeSort_perm _ _
  have s : (sortI L).Pairwise (fun a b => decide (a ≤ b) = true) := List.pairwise_mergeSort (le := fun a b : Int => decide (a ≤ b)) (fun a b c h1 h2 => decide_eq_true (by have := of_decide_eq_true h1; have := of_decide_eq_true h2; omega)) (fun a b => by
    by_cases q : a ≤ b
    · rw [decide_eq_true q, Bool.true_or]
    · rw [decide_eq_true (show b ≤ a by omega), Bool.or_true]) L
  have n1 : (sortI L).Nodup := p.nodup_iff.mpr nd
  refine eq_of_rise ?_ (cast_up List.pairwise_lt_range) fun x => ?_
  · exact (s.and n1).imp fun q => by have := of_decide_eq_true q.1; have := q.2; omega
  · rw [p.mem_iff, h, mem_rangeI]
theorem sortI_perm (L : List Int) : (sortI L).Perm L := List.mergeSort_perm _ _
theorem sortI_up {L : List Int} (nd : L.Nodup) : (sortI L).Pairwise (· < ·) := by
  have s : (sortI L).Pairwise (fun a b => decide (a ≤ b) = true) := List.pairwise_mergeSort (le := fun a b : Int => decide (a ≤ b)) (fun a b c h1 h2 => decide_eq_true (by have := of_decide_eq_true h1; have := of_decide_eq_true h2; omega)) (fun a b => by
    by_cases q : a ≤ b
    · rw [decide_eq_true q, Bool.true_or]
    · rw [decide_eq_true (show b ≤ a by omega), Bool.or_true]) L
  have n1 : (sortI L).Nodup := (sortI_perm L).nodup_iff.mpr nd
  exact (s.and n1).imp fun q => by have := of_decide_eq_true q.1; have := q.2; omega
end Lw

set_option Elab.async false
set_option linter.all false
set_option maxRecDepth 100000
set_option maxHeartbeats 4000000
namespace Lw
open PySem PySem.Spec PyProof.Rows L2 Tw
/-! ### the way of a hand, and its number -/
def inW (v : Int × Option Int) (h : Int) : Prop := v.1 = h ∨ v.2 = some h
instance (v : Int × Option Int) (h : Int) : Decidable (inW v h) := by unfold inW; infer_instance
theorem flat_cons (v : Int × Option Int) (V : List (Int × Option Int)) : flatW (v :: V) = (v.1 :: v.2.toList) ++ flatW V := rfl
theorem inW_flat : ∀ {V : List (Int × Option Int)} {j : Nat} {v : Int × Option Int} {h : Int}, V[j]? = some v → inW v h → h ∈ flatW V
  | [], _, _, _, e, _ => by cases e
  | u :: V, 0, v, h, e, i => by
    cases e
    rw [flat_cons]
    rcases i with rfl | i
    · exact List.mem_append_left _ (List.mem_cons_self ..)
    · exact List.mem_append_left _ (List.mem_cons_of_mem _ (by rw [i]; exact List.mem_cons_self ..))
  | u :: V, j + 1, v, h, e, i => by
    rw [flat_cons]
    exact List.mem_append_right _ (inW_flat (V := V) (j := j) e i)
theorem inW_hands {v : Int × Option Int} {h : Int} (i : inW v h) : h ∈ v.1 :: v.2.toList := by
  rcases i with rfl | i
  · exact List.mem_cons_self ..
  · exact List.mem_cons_of_mem _ (by rw [i]; exact List.mem_cons_self ..)
theorem way_one : ∀ {V : List (Int × Option Int)} {i j : Nat} {v w : Int × Option Int} {h : Int}, (flatW V).Nodup → V[i]? = some v → V[j]? = some w → inW v h → inW w h → i = j
  | [], _, _, _, _, _, _, e, _, _, _ => by cases e
  | u :: V, 0, 0, _, _, _, _, _, _, _, _ => rfl
  | u :: V, 0, j + 1, v, w, h, nd, e1, e2, i1, i2 => by
    cases e1
    rw [flat_cons] at nd
    exact absurd rfl ((List.nodup_append.mp nd).2.2 h (inW_hands i1) h (inW_flat (V := V) (j := j) e2 i2))
  | u :: V, i + 1, 0, v, w, h, nd, e1, e2, i1, i2 => by
    cases e2
    rw [flat_cons] at nd
    exact absurd rfl ((List.nodup_append.mp nd).2.2 h (inW_hands i2) h (inW_flat (V := V) (j := i) e1 i1))
  | u :: V, i + 1, j + 1, v, w, h, nd, e1, e2, i1, i2 => by
    rw [flat_cons] at nd
    rw [way_one (V := V) (List.nodup_append.mp nd).2.1 e1 e2 i1 i2]
theorem rangeI_nd (n : Nat) : (rangeI n).Nodup := List.Pairwise.map (R := fun a b : Nat => a ≠ b) _ (fun a b h => by show (a : Int) ≠ (b : Int); omega) List.nodup_range
section
variable {m : Nat} {V : List (Int × Option Int)}
theorem whole_nd (W : whole (4 * m) V) : (flatW V).Nodup := W.1.nodup_iff.mpr (rangeI_nd _)
theorem way_has (W : whole (4 * m) V) {h : Int} (h0 : 0 ≤ h ∧ h < ((4 * m : Nat) : Int)) : ∃ (j : Nat) (v : Int × Option Int), V[j]? = some v ∧ inW v h := by
  obtain ⟨v, hv, e⟩ := mem_flat_inv (W.1.mem_iff.mpr (mem_rangeI.mpr h0))
  obtain ⟨j, hj, ej⟩ := List.getElem_of_mem hv
  exact ⟨j, v, by rw [List.getElem?_eq_getElem hj, ej], e.imp (fun q => q.symm) id⟩
theorem hand_in (W : whole (4 * m) V) {j : Nat} {v : Int × Option Int} {h : Int} (e : V[j]? = some v) (i : inW v h) : 0 ≤ h ∧ h < ((4 * m : Nat) : Int) :=
  mem_rangeI.mp (W.1.mem_iff.mp (inW_flat e i))
theorem rise_at (W : whole (4 * m) V) {i j : Nat} {v w : Int × Option Int} (e1 : V[i]? = some v) (e2 : V[j]? = some w) (h : i < j) : v.1 < w.1 := by
  obtain ⟨h1, rfl⟩ := List.getElem?_eq_some_iff.mp e1
  obtain ⟨h2, rfl⟩ := List.getElem?_eq_some_iff.mp e2
  exact List.pairwise_iff_getElem.mp W.2.1 i j h1 h2 h
theorem num_le (W : whole (4 * m) V) : ∀ {j : Nat} {v : Int × Option Int}, V[j]? = some v → (j : Int) ≤ v.1
  | 0, v, e => (hand_in W e (.inl rfl)).1
  | j + 1, v, e => by
    have hj : j < V.length := by have := (List.getElem?_eq_some_iff.mp e).1; omega
    have a := num_le W (List.getElem?_eq_getElem hj)
    have b := rise_at W (List.getElem?_eq_getElem hj) e (Nat.lt_succ_self j)
    omega
theorem range_lt (a : Nat) : ∀ n : Nat, a ≤ n → ((rangeI n).filter fun x => decide (x < (a : Int))).length = a
  | 0, h => by
    have : a = 0 := by omega
    subst this
    rfl
  | n + 1, h => by
    have e : rangeI (n + 1) = rangeI n ++ [(n : Int)] := by unfold rangeI; rw [List.range_succ, List.map_append]; rfl
    rw [e, List.filter_append, List.length_append]
    by_cases q : a = n + 1
    · subst q
      have e1 : (rangeI n).filter (fun x => decide (x < ((n + 1 : Nat) : Int))) = rangeI n := List.filter_eq_self.mpr fun x hx => decide_eq_true (by have := mem_rangeI.mp hx; omega)
      have e2 : [(n : Int)].filter (fun x => decide (x < ((n + 1 : Nat) : Int))) = [(n : Int)] := List.filter_eq_self.mpr fun x hx => decide_eq_true (by rw [List.mem_singleton.mp hx]; omega)
      rw [e1, e2]
      unfold rangeI
      rw [List.length_map, List.length_range]
      rfl
    · have e2 : [(n : Int)].filter (fun x => decide (x < (a : Int))) = [] := List.filter_eq_nil_iff.mpr fun x hx => by
        rw [List.mem_singleton.mp hx, decide_eq_true_eq]
        omega
      rw [e2, range_lt a n (by omega)]
      rfl
theorem flat_le : ∀ V : List (Int × Option Int), (flatW V).length ≤ 2 * V.length
  | [] => Nat.le_refl _
  | (a, none) :: V => by
    have := flat_le V
    rw [flat_cons, List.length_append, List.length_cons]
    show 1 + _ ≤ 2 * (V.length + 1)
    omega
  | (a, some g) :: V => by
    have := flat_le V
    rw [flat_cons, List.length_append, List.length_cons]
    show 2 + _ ≤ 2 * (V.length + 1)
    omega
theorem first_le (W : whole (4 * m) V) {j : Nat} {v : Int × Option Int} (e : V[j]? = some v) : v.1 ≤ 2 * (j : Int) := by
  obtain ⟨a0, a1⟩ := hand_in W e (.inl rfl)
  have e1 : ((flatW V).filter fun x => decide (x < ((v.1.toNat : Nat) : Int))).length = v.1.toNat := by
    rw [(W.1.filter _).length_eq]
    exact range_lt _ _ (by omega)
  have e2 : flatW V = flatW (V.take j) ++ flatW (V.drop j) := by
    rw [← flatW_app, List.take_append_drop]
  have e3 : (flatW (V.drop j)).filter (fun x => decide (x < ((v.1.toNat : Nat) : Int))) = [] := List.filter_eq_nil_iff.mpr fun x hx => by
    obtain ⟨w, hw, q⟩ := mem_flat_inv hx
    obtain ⟨i, hi, ei⟩ := List.getElem_of_mem hw
    have ew : V[j + i]? = some w := by rw [← ei, ← List.getElem?_eq_getElem hi, List.getElem?_drop]
    have c : v.1 ≤ w.1 := by
      rcases Nat.eq_zero_or_pos i with z | z
      · subst z
        rw [Nat.add_zero, e] at ew
        cases ew
        exact Int.le_refl _
      · exact Int.le_of_lt (rise_at W e ew (by omega))
    have d : w.1 ≤ x := by
      rcases q with rfl | q
      · exact Int.le_refl _
      · exact Int.le_of_lt (W.2.2 w (List.mem_of_getElem? ew) x q)
    rw [decide_eq_true_eq]
    omega
  rw [e2, List.filter_append, e3, List.append_nil] at e1
  have l1 := List.length_filter_le (fun x : Int => decide (x < ((v.1.toNat : Nat) : Int))) (flatW (V.take j))
  have l2 := flat_le (V.take j)
  have l3 : (V.take j).length ≤ j := by rw [List.length_take]; omega
  omega
/-- the number of the way of a hand -/
def wI (V : List (Int × Option Int)) (h : Int) : Nat := V.findIdx fun v => decide (inW v h)
theorem wI_eq (W : whole (4 * m) V) {j : Nat} {v : Int × Option Int} {h : Int} (e : V[j]? = some v) (i : inW v h) : wI V h = j := by
  have hj := (List.getElem?_eq_some_iff.mp e).1
  have hv := (List.getElem?_eq_some_iff.mp e).2
  have hex : ∃ x ∈ V, decide (inW x h) = true := ⟨v, List.mem_of_getElem? e, decide_eq_true i⟩
  have hlt : wI V h < V.length := List.findIdx_lt_length.mpr hex
  have ok : decide (inW (V[wI V h]'hlt) h) = true := List.findIdx_getElem (w := hlt)
  exact way_one (whole_nd W) (List.getElem?_eq_getElem hlt) e (of_decide_eq_true ok) i
theorem wI_ok (W : whole (4 * m) V) {h : Int} (h0 : 0 ≤ h ∧ h < ((4 * m : Nat) : Int)) : ∃ v, V[wI V h]? = some v ∧ inW v h := by
  obtain ⟨j, v, e, i⟩ := way_has W h0
  rw [wI_eq W e i]
  exact ⟨v, e, i⟩
end
end Lw

set_option Elab.async false
set_option linter.all false
set_option maxRecDepth 100000
set_option maxHeartbeats 8000000
namespace Lw
open PySem PySem.Spec PyProof.Rows L2 Tw
/-! ### way_number -/
theorem eqv_wayA (v w : Int × Option Int) : PyData.eqv (wayD v) (wayD w) = decide (v = w) := by
  obtain ⟨a, b⟩ := v
  obtain ⟨c, d⟩ := w
  cases b <;> cases d <;> simp [wayD, PyData.eqv, PyData.eqvAll] <;> (by_cases h : a = c <;> simp [h]) <;> exact Bool.eq_iff_iff.mpr (by simp)
theorem lay_way (v : Int × Option Int) : (wayD v).canLay0 = true := by
  obtain ⟨a, b⟩ := v
  cases b <;> rfl
theorem lay_waysA : ∀ V : List (Int × Option Int), PyData.canLayAll0 (V.map wayD) = true
  | [] => rfl
  | v :: V => by
    show ((wayD v).canLay0 && PyData.canLayAll0 (V.map wayD)) = true
    rw [lay_way, lay_waysA V]
    rfl
theorem layB_way (v : Int × Option Int) (V : List (Int × Option Int)) : Tw.layB (wayD v) (V.map wayD) = true := by
  have d : (wayD v).depth ≤ 60 := by
    obtain ⟨a, b⟩ := v
    cases b <;> (show 1 ≤ 60; decide)
  unfold Tw.layB
  rw [lay_way, lay_waysA, decide_eq_true d]
  rfl
section
variable {m : Nat} {V : List (Int × Option Int)} {B : List PyData}
theorem index_way (W : whole (4 * m) V) {j lo : Nat} {v : Int × Option Int} (e : V[j]? = some v) (h : lo ≤ j) : indexN ((V.map wayD).drop lo) (wayD v) = some (j - lo) := by
  have hj := (List.getElem?_eq_some_iff.mp e).1
  unfold indexN
  refine List.findIdx?_eq_some_iff_getElem.mpr ⟨?_, ?_, fun i hi => ?_⟩
  · rw [List.length_drop, List.length_map]
    omega
  · have q : ((V.map wayD).drop lo)[j - lo]? = some (wayD v) := by
      rw [List.getElem?_drop, show lo + (j - lo) = j by omega, List.getElem?_map, e]
      rfl
    rw [(List.getElem?_eq_some_iff.mp q).2, eqv_wayA, decide_eq_true rfl]
  · have hw : lo + i < V.length := by omega
    have q : ((V.map wayD).drop lo)[i]? = some (wayD V[lo + i]) := by
      rw [List.getElem?_drop, List.getElem?_map, List.getElem?_eq_getElem hw]
      rfl
    rw [(List.getElem?_eq_some_iff.mp q).2, eqv_wayA]
    have : ¬ V[lo + i] = v := fun z => by
      have := rise_at W (List.getElem?_eq_getElem hw) e (by omega)
      rw [z] at this
      omega
    simp [this]
theorem tix_way (W : whole (4 * m) V) {j : Nat} {v : Int × Option Int} (e : V[j]? = some v) : tixC [.tuple (V.map wayD), wayD v, .int ((v.1 + 1) / 2)] = some (.int (j : Nat)) := by
  have h1 := first_le W e
  have h2 := (hand_in W e (.inl rfl)).1
  show (if Tw.layB (wayD v) (V.map wayD) = true ∧ 0 ≤ (v.1 + 1) / 2 then (indexN ((V.map wayD).drop ((v.1 + 1) / 2).toNat) (wayD v)).map fun j => PyData.int ((((v.1 + 1) / 2).toNat + j : Nat)) else none) = _
  rw [if_pos ⟨layB_way v V, by omega⟩, index_way W e (by omega)]
  show some (PyData.int ((((v.1 + 1) / 2).toNat + (j - ((v.1 + 1) / 2).toNat) : Nat))) = _
  rw [show ((v.1 + 1) / 2).toNat + (j - ((v.1 + 1) / 2).toNat) = j by omega]
theorem int2 (a b : Int) : ltD (.int a) (.int b) = some (.bool (decide (a < b))) := lt_num rfl rfl
theorem ix_ways {j : Int} {v : Int × Option Int} (h0 : 0 ≤ j) (e : V[j.toNat]? = some v) : ixD (.tuple (V.map wayD)) (.int j) = some (wayD v) := by
  obtain ⟨k, rfl⟩ : ∃ k : Nat, j = (k : Int) := ⟨j.toNat, by omega⟩
  rw [Int.toNat_natCast] at e
  exact ixTn (by rw [List.getElem?_map, e]; rfl)
theorem ix_way0 (v : Int × Option Int) : ixD (wayD v) (.int 0) = some (.int v.1) := by
  obtain ⟨a, b⟩ := v
  cases b <;> rfl
theorem wayn_ok (W : whole (4 * m) V) (t : Tab (4 * m) V B) (hV : V.length ≤ 60000) (hm : m ≤ 60) {h : Int} (h0 : 0 ≤ h ∧ h < ((4 * m : Nat) : Int)) : g_way_number [webD m V, .list B, .int h] = some (.int (wI V h : Nat)) := by
  obtain ⟨j, v, e, i⟩ := way_has W h0
  rw [wI_eq W e i]
  obtain ⟨a0, a1⟩ := hand_in W e (.inl rfl)
  have hv := List.mem_of_getElem? e
  have hx := XB_ix W t h0
  have hixa : ∀ g, v.2 = some g → ixD (.list B) (.int v.1) = some (.int g) := fun g q => by
    have q1 := (t.two v hv g q).1
    obtain ⟨k, hk⟩ : ∃ k : Nat, v.1 = (k : Int) := ⟨v.1.toNat, by omega⟩
    rw [hk] at q1 ⊢
    rw [Int.toNat_natCast] at q1
    exact ixLn q1
  have ix1 : ixD (webD m V) (.int 1) = some (.tuple (V.map wayD)) := rfl
  have ln : lenD [.tuple (V.map wayD)] = some (.int (V.length : Nat)) := by
    show some (PyData.int ((V.map wayD).length : Nat)) = _
    rw [List.length_map]
  have ad : addD (.int v.1) (.int 1) = some (.int (v.1 + 1)) := add_num rfl
  have fd : fdivD (.int (v.1 + 1)) (.int 2) = some (.int ((v.1 + 1) / 2)) := by
    show (if (0 : Int) < 2 ∧ (2 : Int).natAbs.log2 < 9000 then some (PyData.int ((v.1 + 1) / 2)) else none) = _
    rw [if_pos (by decide)]
  have s1 : Tw.sizeOk 1 = true := rfl
  have s2 : Tw.sizeOk 2 = true := rfl
  have tx := tix_way W e
  -- what stands at the place of the first hand
  have look : (∃ u, v.1 < (V.length : Int) ∧ ixD (.tuple (V.map wayD)) (.int v.1) = some (wayD u) ∧ ((u.1 = v.1 ∧ v.1 = (j : Int)) ∨ u.1 ≠ v.1)) ∨ ¬ v.1 < (V.length : Int) := by
    by_cases q : v.1 < (V.length : Int)
    · have hl : v.1.toNat < V.length := by omega
      refine .inl ⟨V[v.1.toNat], q, ix_ways a0 (List.getElem?_eq_getElem hl), ?_⟩
      by_cases z : (V[v.1.toNat]).1 = v.1
      · have := way_one (whole_nd W) (List.getElem?_eq_getElem hl) e (.inl z) (.inl rfl)
        exact .inl ⟨z, by omega⟩
      · exact .inr z
    · exact .inr q
  obtain ⟨a, b⟩ := v
  have fst : (h = a ∧ (ltD (.int h) (xD b) = some (.bool true) ∨ b = none) ∧ XB B h = b) ∨ (∃ g, b = some g ∧ h = g ∧ XB B h = some a ∧ a < g) := by
    rcases i with q | q
    · have q' : a = h := q
      subst q'
      refine .inl ⟨rfl, ?_, ?_⟩
      · cases b with
        | none => exact .inr rfl
        | some g =>
          refine .inl ?_
          show ltD (.int a) (.int g) = _
          rw [int2, decide_eq_true (W.2.2 _ hv g rfl)]
      · unfold XB
        cases b with
        | none => rw [t.one _ hv rfl]
        | some g => rw [(t.two _ hv g rfl).1]
    · have q' : b = some h := q
      subst q'
      refine .inr ⟨h, rfl, rfl, ?_, W.2.2 _ hv h rfl⟩
      unfold XB
      rw [(t.two _ hv h rfl).2]
  unfold g_way_number runP f_way_number
  rcases fst with ⟨rfl, hb, hxb⟩ | ⟨g, rfl, rfl, hxb, hag⟩
  · rw [hxb] at hx
    cases b with
    | none =>
      have n1 : isNoneD (xD none) .none = some (.bool true) := rfl
      have n2 : isNoneD .none .none = some (.bool true) := rfl
      rcases look with ⟨u, q1, q2, (⟨q3, q4⟩ | q3)⟩ | q1
      · have lt := int2 h (V.length : Int)
        rw [decide_eq_true q1] at lt
        have e0 := ix_way0 u
        have ee : eqD (.int u.1) (.int h) = some (.bool true) := by rw [q3, eqI2, beq_self_eq_true]
        simp -implicitDefEqProofs only [eq_self, r_thn, r_tk, r_tk0, r_ret, r_lift, r_lift0, r_var, r_vk, r_bin, r_un, r_nil, r_cons, r_tup, r_of, r_call, r_tst, r_kt, r_ikT, r_ikF, r_ite, r_if, r_ife, r_and, r_or, r_not, r_vand, r_vor, r_vnot, r_chain, r_hkT, r_hkF, r_part, r_ok, r_sl, r_seq, r_skN, r_skR, r_skF, r_skB, r_skC, r_next, r_retS, r_rk, r_retF, r_rfk, r_drop, r_dk, r_asg, r_gk, r_gk2, gNm, r_tp, r_gs, r_qk, r_gs0, r_froz, r_frk, r_cmk, r_setI, r_stk, r_stk2, r_sti, r_pl, r_stj, r_aug, r_aug1, r_aug2, r_aug3, r_opN, r_par, r_prk, r_callN, r_tupRg, and_self, ixN0, ixN1, ixN2, r_peek, r_pk, r_pkI, r_pkB, r_pkS, r_pkN, r_tpeek, r_bk1, r_bk2, r_frz, r_fzk, r_own, owk, r_frkK, r_ownK, r_ixEd, r_ixEt, r_ixEl, r_inK, r_ninK, r_mk4, r_mk3, r_met, r_mk2, r_callM, r_mk2b, r_callM1, r_lenIs, r_callF, r_mat, r_mtk, r_mEnd, r_mCase, r_for, r_lk, r_items, r_itL, r_itT, r_rng, r_enum, r_zipM, zipM_ok, r_star, starL_ok, starT_ok, enumL_ok, enumT_ok, for_nil, r_lc, r_lck2, lc_nil, r_outM, r_outMn, r_outM1, r_outM1n, r_outD, r_outDf, r_outDn, r_outF, ixL0, ixL1, ixL2, ixT0, ixT1, ixT2, addI_ok, subI_ok, gtI_ok, geI_ok, leI_ok, ltI_ok, lenL_ok, lenT_ok, abs_ok, intB_ok, List.getElem?_cons_zero, List.getElem?_cons_succ, List.length_cons, List.length_nil, List.set_cons_zero, List.set_cons_succ, List.map_cons, List.map_nil, List.cons_append, List.nil_append, List.replicate_succ, List.replicate_zero, Nat.reduceAdd, Nat.reduceSub, Nat.reduceLT, Nat.reduceEqDiff, Option.bind_some, Option.bind_none, Option.map_some, Option.map_none, if_true, if_false, ite_true, ite_false, ↓reduceIte, Bool.not_true, Bool.not_false, ix1, hx, n1, n2, xD, lt, ln, q2, e0, ee]
        exact congrArg (fun z => some (PyData.int z)) q4
      · have lt := int2 h (V.length : Int)
        rw [decide_eq_true q1] at lt
        have e0 := ix_way0 u
        have ee : eqD (.int u.1) (.int h) = some (.bool false) := by rw [eqI2, beq_eq_false_iff_ne.mpr q3]
        simp -implicitDefEqProofs only [eq_self, r_thn, r_tk, r_tk0, r_ret, r_lift, r_lift0, r_var, r_vk, r_bin, r_un, r_nil, r_cons, r_tup, r_of, r_call, r_tst, r_kt, r_ikT, r_ikF, r_ite, r_if, r_ife, r_and, r_or, r_not, r_vand, r_vor, r_vnot, r_chain, r_hkT, r_hkF, r_part, r_ok, r_sl, r_seq, r_skN, r_skR, r_skF, r_skB, r_skC, r_next, r_retS, r_rk, r_retF, r_rfk, r_drop, r_dk, r_asg, r_gk, r_gk2, gNm, r_tp, r_gs, r_qk, r_gs0, r_froz, r_frk, r_cmk, r_setI, r_stk, r_stk2, r_sti, r_pl, r_stj, r_aug, r_aug1, r_aug2, r_aug3, r_opN, r_par, r_prk, r_callN, r_tupRg, and_self, ixN0, ixN1, ixN2, r_peek, r_pk, r_pkI, r_pkB, r_pkS, r_pkN, r_tpeek, r_bk1, r_bk2, r_frz, r_fzk, r_own, owk, r_frkK, r_ownK, r_ixEd, r_ixEt, r_ixEl, r_inK, r_ninK, r_mk4, r_mk3, r_met, r_mk2, r_callM, r_mk2b, r_callM1, r_lenIs, r_callF, r_mat, r_mtk, r_mEnd, r_mCase, r_for, r_lk, r_items, r_itL, r_itT, r_rng, r_enum, r_zipM, zipM_ok, r_star, starL_ok, starT_ok, enumL_ok, enumT_ok, for_nil, r_lc, r_lck2, lc_nil, r_outM, r_outMn, r_outM1, r_outM1n, r_outD, r_outDf, r_outDn, r_outF, ixL0, ixL1, ixL2, ixT0, ixT1, ixT2, addI_ok, subI_ok, gtI_ok, geI_ok, leI_ok, ltI_ok, lenL_ok, lenT_ok, abs_ok, intB_ok, List.getElem?_cons_zero, List.getElem?_cons_succ, List.length_cons, List.length_nil, List.set_cons_zero, List.set_cons_succ, List.map_cons, List.map_nil, List.cons_append, List.nil_append, List.replicate_succ, List.replicate_zero, Nat.reduceAdd, Nat.reduceSub, Nat.reduceLT, Nat.reduceEqDiff, Option.bind_some, Option.bind_none, Option.map_some, Option.map_none, if_true, if_false, ite_true, ite_false, ↓reduceIte, Bool.not_true, Bool.not_false, ix1, hx, n1, n2, xD, lt, ln, q2, e0, ee, ad, fd, s1, show PyData.tuple [.int h] = wayD (h, none) from rfl, tx]
      · have lt := int2 h (V.length : Int)
        rw [decide_eq_false q1] at lt
        simp -implicitDefEqProofs only [eq_self, r_thn, r_tk, r_tk0, r_ret, r_lift, r_lift0, r_var, r_vk, r_bin, r_un, r_nil, r_cons, r_tup, r_of, r_call, r_tst, r_kt, r_ikT, r_ikF, r_ite, r_if, r_ife, r_and, r_or, r_not, r_vand, r_vor, r_vnot, r_chain, r_hkT, r_hkF, r_part, r_ok, r_sl, r_seq, r_skN, r_skR, r_skF, r_skB, r_skC, r_next, r_retS, r_rk, r_retF, r_rfk, r_drop, r_dk, r_asg, r_gk, r_gk2, gNm, r_tp, r_gs, r_qk, r_gs0, r_froz, r_frk, r_cmk, r_setI, r_stk, r_stk2, r_sti, r_pl, r_stj, r_aug, r_aug1, r_aug2, r_aug3, r_opN, r_par, r_prk, r_callN, r_tupRg, and_self, ixN0, ixN1, ixN2, r_peek, r_pk, r_pkI, r_pkB, r_pkS, r_pkN, r_tpeek, r_bk1, r_bk2, r_frz, r_fzk, r_own, owk, r_frkK, r_ownK, r_ixEd, r_ixEt, r_ixEl, r_inK, r_ninK, r_mk4, r_mk3, r_met, r_mk2, r_callM, r_mk2b, r_callM1, r_lenIs, r_callF, r_mat, r_mtk, r_mEnd, r_mCase, r_for, r_lk, r_items, r_itL, r_itT, r_rng, r_enum, r_zipM, zipM_ok, r_star, starL_ok, starT_ok, enumL_ok, enumT_ok, for_nil, r_lc, r_lck2, lc_nil, r_outM, r_outMn, r_outM1, r_outM1n, r_outD, r_outDf, r_outDn, r_outF, ixL0, ixL1, ixL2, ixT0, ixT1, ixT2, addI_ok, subI_ok, gtI_ok, geI_ok, leI_ok, ltI_ok, lenL_ok, lenT_ok, abs_ok, intB_ok, List.getElem?_cons_zero, List.getElem?_cons_succ, List.length_cons, List.length_nil, List.set_cons_zero, List.set_cons_succ, List.map_cons, List.map_nil, List.cons_append, List.nil_append, List.replicate_succ, List.replicate_zero, Nat.reduceAdd, Nat.reduceSub, Nat.reduceLT, Nat.reduceEqDiff, Option.bind_some, Option.bind_none, Option.map_some, Option.map_none, if_true, if_false, ite_true, ite_false, ↓reduceIte, Bool.not_true, Bool.not_false, ix1, hx, n1, n2, xD, lt, ln, ad, fd, s1, show PyData.tuple [.int h] = wayD (h, none) from rfl, tx]
    | some g =>
      have n1 : isNoneD (.int g) .none = some (.bool false) := rfl
      have l0 : ltD (.int h) (.int g) = some (.bool true) := hb.resolve_right (by simp)
      have hg := hixa g rfl
      rcases look with ⟨u, q1, q2, (⟨q3, q4⟩ | q3)⟩ | q1
      · have lt := int2 h (V.length : Int)
        rw [decide_eq_true q1] at lt
        have e0 := ix_way0 u
        have ee : eqD (.int u.1) (.int h) = some (.bool true) := by rw [q3, eqI2, beq_self_eq_true]
        simp -implicitDefEqProofs only [eq_self, r_thn, r_tk, r_tk0, r_ret, r_lift, r_lift0, r_var, r_vk, r_bin, r_un, r_nil, r_cons, r_tup, r_of, r_call, r_tst, r_kt, r_ikT, r_ikF, r_ite, r_if, r_ife, r_and, r_or, r_not, r_vand, r_vor, r_vnot, r_chain, r_hkT, r_hkF, r_part, r_ok, r_sl, r_seq, r_skN, r_skR, r_skF, r_skB, r_skC, r_next, r_retS, r_rk, r_retF, r_rfk, r_drop, r_dk, r_asg, r_gk, r_gk2, gNm, r_tp, r_gs, r_qk, r_gs0, r_froz, r_frk, r_cmk, r_setI, r_stk, r_stk2, r_sti, r_pl, r_stj, r_aug, r_aug1, r_aug2, r_aug3, r_opN, r_par, r_prk, r_callN, r_tupRg, and_self, ixN0, ixN1, ixN2, r_peek, r_pk, r_pkI, r_pkB, r_pkS, r_pkN, r_tpeek, r_bk1, r_bk2, r_frz, r_fzk, r_own, owk, r_frkK, r_ownK, r_ixEd, r_ixEt, r_ixEl, r_inK, r_ninK, r_mk4, r_mk3, r_met, r_mk2, r_callM, r_mk2b, r_callM1, r_lenIs, r_callF, r_mat, r_mtk, r_mEnd, r_mCase, r_for, r_lk, r_items, r_itL, r_itT, r_rng, r_enum, r_zipM, zipM_ok, r_star, starL_ok, starT_ok, enumL_ok, enumT_ok, for_nil, r_lc, r_lck2, lc_nil, r_outM, r_outMn, r_outM1, r_outM1n, r_outD, r_outDf, r_outDn, r_outF, ixL0, ixL1, ixL2, ixT0, ixT1, ixT2, addI_ok, subI_ok, gtI_ok, geI_ok, leI_ok, ltI_ok, lenL_ok, lenT_ok, abs_ok, intB_ok, List.getElem?_cons_zero, List.getElem?_cons_succ, List.length_cons, List.length_nil, List.set_cons_zero, List.set_cons_succ, List.map_cons, List.map_nil, List.cons_append, List.nil_append, List.replicate_succ, List.replicate_zero, Nat.reduceAdd, Nat.reduceSub, Nat.reduceLT, Nat.reduceEqDiff, Option.bind_some, Option.bind_none, Option.map_some, Option.map_none, if_true, if_false, ite_true, ite_false, ↓reduceIte, Bool.not_true, Bool.not_false, ix1, hx, n1, l0, xD, lt, ln, q2, e0, ee]
        exact congrArg (fun z => some (PyData.int z)) q4
      · have lt := int2 h (V.length : Int)
        rw [decide_eq_true q1] at lt
        have e0 := ix_way0 u
        have ee : eqD (.int u.1) (.int h) = some (.bool false) := by rw [eqI2, beq_eq_false_iff_ne.mpr q3]
        simp -implicitDefEqProofs only [eq_self, r_thn, r_tk, r_tk0, r_ret, r_lift, r_lift0, r_var, r_vk, r_bin, r_un, r_nil, r_cons, r_tup, r_of, r_call, r_tst, r_kt, r_ikT, r_ikF, r_ite, r_if, r_ife, r_and, r_or, r_not, r_vand, r_vor, r_vnot, r_chain, r_hkT, r_hkF, r_part, r_ok, r_sl, r_seq, r_skN, r_skR, r_skF, r_skB, r_skC, r_next, r_retS, r_rk, r_retF, r_rfk, r_drop, r_dk, r_asg, r_gk, r_gk2, gNm, r_tp, r_gs, r_qk, r_gs0, r_froz, r_frk, r_cmk, r_setI, r_stk, r_stk2, r_sti, r_pl, r_stj, r_aug, r_aug1, r_aug2, r_aug3, r_opN, r_par, r_prk, r_callN, r_tupRg, and_self, ixN0, ixN1, ixN2, r_peek, r_pk, r_pkI, r_pkB, r_pkS, r_pkN, r_tpeek, r_bk1, r_bk2, r_frz, r_fzk, r_own, owk, r_frkK, r_ownK, r_ixEd, r_ixEt, r_ixEl, r_inK, r_ninK, r_mk4, r_mk3, r_met, r_mk2, r_callM, r_mk2b, r_callM1, r_lenIs, r_callF, r_mat, r_mtk, r_mEnd, r_mCase, r_for, r_lk, r_items, r_itL, r_itT, r_rng, r_enum, r_zipM, zipM_ok, r_star, starL_ok, starT_ok, enumL_ok, enumT_ok, for_nil, r_lc, r_lck2, lc_nil, r_outM, r_outMn, r_outM1, r_outM1n, r_outD, r_outDf, r_outDn, r_outF, ixL0, ixL1, ixL2, ixT0, ixT1, ixT2, addI_ok, subI_ok, gtI_ok, geI_ok, leI_ok, ltI_ok, lenL_ok, lenT_ok, abs_ok, intB_ok, List.getElem?_cons_zero, List.getElem?_cons_succ, List.length_cons, List.length_nil, List.set_cons_zero, List.set_cons_succ, List.map_cons, List.map_nil, List.cons_append, List.nil_append, List.replicate_succ, List.replicate_zero, Nat.reduceAdd, Nat.reduceSub, Nat.reduceLT, Nat.reduceEqDiff, Option.bind_some, Option.bind_none, Option.map_some, Option.map_none, if_true, if_false, ite_true, ite_false, ↓reduceIte, Bool.not_true, Bool.not_false, ix1, hx, n1, l0, xD, lt, ln, q2, e0, ee, ad, fd, s2, hg, show PyData.tuple [.int h, .int g] = wayD (h, some g) from rfl, tx]
      · have lt := int2 h (V.length : Int)
        rw [decide_eq_false q1] at lt
        simp -implicitDefEqProofs only [eq_self, r_thn, r_tk, r_tk0, r_ret, r_lift, r_lift0, r_var, r_vk, r_bin, r_un, r_nil, r_cons, r_tup, r_of, r_call, r_tst, r_kt, r_ikT, r_ikF, r_ite, r_if, r_ife, r_and, r_or, r_not, r_vand, r_vor, r_vnot, r_chain, r_hkT, r_hkF, r_part, r_ok, r_sl, r_seq, r_skN, r_skR, r_skF, r_skB, r_skC, r_next, r_retS, r_rk, r_retF, r_rfk, r_drop, r_dk, r_asg, r_gk, r_gk2, gNm, r_tp, r_gs, r_qk, r_gs0, r_froz, r_frk, r_cmk, r_setI, r_stk, r_stk2, r_sti, r_pl, r_stj, r_aug, r_aug1, r_aug2, r_aug3, r_opN, r_par, r_prk, r_callN, r_tupRg, and_self, ixN0, ixN1, ixN2, r_peek, r_pk, r_pkI, r_pkB, r_pkS, r_pkN, r_tpeek, r_bk1, r_bk2, r_frz, r_fzk, r_own, owk, r_frkK, r_ownK, r_ixEd, r_ixEt, r_ixEl, r_inK, r_ninK, r_mk4, r_mk3, r_met, r_mk2, r_callM, r_mk2b, r_callM1, r_lenIs, r_callF, r_mat, r_mtk, r_mEnd, r_mCase, r_for, r_lk, r_items, r_itL, r_itT, r_rng, r_enum, r_zipM, zipM_ok, r_star, starL_ok, starT_ok, enumL_ok, enumT_ok, for_nil, r_lc, r_lck2, lc_nil, r_outM, r_outMn, r_outM1, r_outM1n, r_outD, r_outDf, r_outDn, r_outF, ixL0, ixL1, ixL2, ixT0, ixT1, ixT2, addI_ok, subI_ok, gtI_ok, geI_ok, leI_ok, ltI_ok, lenL_ok, lenT_ok, abs_ok, intB_ok, List.getElem?_cons_zero, List.getElem?_cons_succ, List.length_cons, List.length_nil, List.set_cons_zero, List.set_cons_succ, List.map_cons, List.map_nil, List.cons_append, List.nil_append, List.replicate_succ, List.replicate_zero, Nat.reduceAdd, Nat.reduceSub, Nat.reduceLT, Nat.reduceEqDiff, Option.bind_some, Option.bind_none, Option.map_some, Option.map_none, if_true, if_false, ite_true, ite_false, ↓reduceIte, Bool.not_true, Bool.not_false, ix1, hx, n1, l0, xD, lt, ln, ad, fd, s2, hg, show PyData.tuple [.int h, .int g] = wayD (h, some g) from rfl, tx]
  · rw [hxb] at hx
    have n1 : isNoneD (.int a) .none = some (.bool false) := rfl
    have l0 : ltD (.int h) (.int a) = some (.bool false) := by rw [int2, decide_eq_false (by omega)]
    have hg := hixa h rfl
    rcases look with ⟨u, q1, q2, (⟨q3, q4⟩ | q3)⟩ | q1
    · have lt := int2 a (V.length : Int)
      rw [decide_eq_true q1] at lt
      have e0 := ix_way0 u
      have ee : eqD (.int u.1) (.int a) = some (.bool true) := by rw [q3, eqI2, beq_self_eq_true]
      simp -implicitDefEqProofs only [eq_self, r_thn, r_tk, r_tk0, r_ret, r_lift, r_lift0, r_var, r_vk, r_bin, r_un, r_nil, r_cons, r_tup, r_of, r_call, r_tst, r_kt, r_ikT, r_ikF, r_ite, r_if, r_ife, r_and, r_or, r_not, r_vand, r_vor, r_vnot, r_chain, r_hkT, r_hkF, r_part, r_ok, r_sl, r_seq, r_skN, r_skR, r_skF, r_skB, r_skC, r_next, r_retS, r_rk, r_retF, r_rfk, r_drop, r_dk, r_asg, r_gk, r_gk2, gNm, r_tp, r_gs, r_qk, r_gs0, r_froz, r_frk, r_cmk, r_setI, r_stk, r_stk2, r_sti, r_pl, r_stj, r_aug, r_aug1, r_aug2, r_aug3, r_opN, r_par, r_prk, r_callN, r_tupRg, and_self, ixN0, ixN1, ixN2, r_peek, r_pk, r_pkI, r_pkB, r_pkS, r_pkN, r_tpeek, r_bk1, r_bk2, r_frz, r_fzk, r_own, owk, r_frkK, r_ownK, r_ixEd, r_ixEt, r_ixEl, r_inK, r_ninK, r_mk4, r_mk3, r_met, r_mk2, r_callM, r_mk2b, r_callM1, r_lenIs, r_callF, r_mat, r_mtk, r_mEnd, r_mCase, r_for, r_lk, r_items, r_itL, r_itT, r_rng, r_enum, r_zipM, zipM_ok, r_star, starL_ok, starT_ok, enumL_ok, enumT_ok, for_nil, r_lc, r_lck2, lc_nil, r_outM, r_outMn, r_outM1, r_outM1n, r_outD, r_outDf, r_outDn, r_outF, ixL0, ixL1, ixL2, ixT0, ixT1, ixT2, addI_ok, subI_ok, gtI_ok, geI_ok, leI_ok, ltI_ok, lenL_ok, lenT_ok, abs_ok, intB_ok, List.getElem?_cons_zero, List.getElem?_cons_succ, List.length_cons, List.length_nil, List.set_cons_zero, List.set_cons_succ, List.map_cons, List.map_nil, List.cons_append, List.nil_append, List.replicate_succ, List.replicate_zero, Nat.reduceAdd, Nat.reduceSub, Nat.reduceLT, Nat.reduceEqDiff, Option.bind_some, Option.bind_none, Option.map_some, Option.map_none, if_true, if_false, ite_true, ite_false, ↓reduceIte, Bool.not_true, Bool.not_false, ix1, hx, n1, l0, xD, lt, ln, q2, e0, ee]
      exact congrArg (fun z => some (PyData.int z)) q4
    · have lt := int2 a (V.length : Int)
      rw [decide_eq_true q1] at lt
      have e0 := ix_way0 u
      have ee : eqD (.int u.1) (.int a) = some (.bool false) := by rw [eqI2, beq_eq_false_iff_ne.mpr q3]
      simp -implicitDefEqProofs only [eq_self, r_thn, r_tk, r_tk0, r_ret, r_lift, r_lift0, r_var, r_vk, r_bin, r_un, r_nil, r_cons, r_tup, r_of, r_call, r_tst, r_kt, r_ikT, r_ikF, r_ite, r_if, r_ife, r_and, r_or, r_not, r_vand, r_vor, r_vnot, r_chain, r_hkT, r_hkF, r_part, r_ok, r_sl, r_seq, r_skN, r_skR, r_skF, r_skB, r_skC, r_next, r_retS, r_rk, r_retF, r_rfk, r_drop, r_dk, r_asg, r_gk, r_gk2, gNm, r_tp, r_gs, r_qk, r_gs0, r_froz, r_frk, r_cmk, r_setI, r_stk, r_stk2, r_sti, r_pl, r_stj, r_aug, r_aug1, r_aug2, r_aug3, r_opN, r_par, r_prk, r_callN, r_tupRg, and_self, ixN0, ixN1, ixN2, r_peek, r_pk, r_pkI, r_pkB, r_pkS, r_pkN, r_tpeek, r_bk1, r_bk2, r_frz, r_fzk, r_own, owk, r_frkK, r_ownK, r_ixEd, r_ixEt, r_ixEl, r_inK, r_ninK, r_mk4, r_mk3, r_met, r_mk2, r_callM, r_mk2b, r_callM1, r_lenIs, r_callF, r_mat, r_mtk, r_mEnd, r_mCase, r_for, r_lk, r_items, r_itL, r_itT, r_rng, r_enum, r_zipM, zipM_ok, r_star, starL_ok, starT_ok, enumL_ok, enumT_ok, for_nil, r_lc, r_lck2, lc_nil, r_outM, r_outMn, r_outM1, r_outM1n, r_outD, r_outDf, r_outDn, r_outF, ixL0, ixL1, ixL2, ixT0, ixT1, ixT2, addI_ok, subI_ok, gtI_ok, geI_ok, leI_ok, ltI_ok, lenL_ok, lenT_ok, abs_ok, intB_ok, List.getElem?_cons_zero, List.getElem?_cons_succ, List.length_cons, List.length_nil, List.set_cons_zero, List.set_cons_succ, List.map_cons, List.map_nil, List.cons_append, List.nil_append, List.replicate_succ, List.replicate_zero, Nat.reduceAdd, Nat.reduceSub, Nat.reduceLT, Nat.reduceEqDiff, Option.bind_some, Option.bind_none, Option.map_some, Option.map_none, if_true, if_false, ite_true, ite_false, ↓reduceIte, Bool.not_true, Bool.not_false, ix1, hx, n1, l0, xD, lt, ln, q2, e0, ee, ad, fd, s2, hg, show PyData.tuple [.int a, .int h] = wayD (a, some h) from rfl, tx]
    · have lt := int2 a (V.length : Int)
      rw [decide_eq_false q1] at lt
      simp -implicitDefEqProofs only [eq_self, r_thn, r_tk, r_tk0, r_ret, r_lift, r_lift0, r_var, r_vk, r_bin, r_un, r_nil, r_cons, r_tup, r_of, r_call, r_tst, r_kt, r_ikT, r_ikF, r_ite, r_if, r_ife, r_and, r_or, r_not, r_vand, r_vor, r_vnot, r_chain, r_hkT, r_hkF, r_part, r_ok, r_sl, r_seq, r_skN, r_skR, r_skF, r_skB, r_skC, r_next, r_retS, r_rk, r_retF, r_rfk, r_drop, r_dk, r_asg, r_gk, r_gk2, gNm, r_tp, r_gs, r_qk, r_gs0, r_froz, r_frk, r_cmk, r_setI, r_stk, r_stk2, r_sti, r_pl, r_stj, r_aug, r_aug1, r_aug2, r_aug3, r_opN, r_par, r_prk, r_callN, r_tupRg, and_self, ixN0, ixN1, ixN2, r_peek, r_pk, r_pkI, r_pkB, r_pkS, r_pkN, r_tpeek, r_bk1, r_bk2, r_frz, r_fzk, r_own, owk, r_frkK, r_ownK, r_ixEd, r_ixEt, r_ixEl, r_inK, r_ninK, r_mk4, r_mk3, r_met, r_mk2, r_callM, r_mk2b, r_callM1, r_lenIs, r_callF, r_mat, r_mtk, r_mEnd, r_mCase, r_for, r_lk, r_items, r_itL, r_itT, r_rng, r_enum, r_zipM, zipM_ok, r_star, starL_ok, starT_ok, enumL_ok, enumT_ok, for_nil, r_lc, r_lck2, lc_nil, r_outM, r_outMn, r_outM1, r_outM1n, r_outD, r_outDf, r_outDn, r_outF, ixL0, ixL1, ixL2, ixT0, ixT1, ixT2, addI_ok, subI_ok, gtI_ok, geI_ok, leI_ok, ltI_ok, lenL_ok, lenT_ok, abs_ok, intB_ok, List.getElem?_cons_zero, List.getElem?_cons_succ, List.length_cons, List.length_nil, List.set_cons_zero, List.set_cons_succ, List.map_cons, List.map_nil, List.cons_append, List.nil_append, List.replicate_succ, List.replicate_zero, Nat.reduceAdd, Nat.reduceSub, Nat.reduceLT, Nat.reduceEqDiff, Option.bind_some, Option.bind_none, Option.map_some, Option.map_none, if_true, if_false, ite_true, ite_false, ↓reduceIte, Bool.not_true, Bool.not_false, ix1, hx, n1, l0, xD, lt, ln, ad, fd, s2, hg, show PyData.tuple [.int a, .int h] = wayD (a, some h) from rfl, tx]
end
end Lw

set_option Elab.async false
set_option linter.all false
set_option maxRecDepth 100000
set_option maxHeartbeats 8000000
namespace Lw
open PySem PySem.Spec PyProof.Rows L2 Tw
theorem ups_consX (lo : Int) (n : Nat) : ups lo (n + 1) = .int lo :: ups (lo + 1) n := by
  unfold ups
  rw [List.range_succ_eq_map, List.map_cons, List.map_map]
  congr 1
  · show PyData.int (lo + (0 : Nat)) = _
    rw [show lo + ((0 : Nat) : Int) = lo by omega]
  · refine List.map_congr_left fun i _ => ?_
    show PyData.int (lo + ((i + 1 : Nat) : Int)) = PyData.int (lo + 1 + (i : Int))
    congr 1
    omega
theorem ne_same (z : Str) : neD (.str z) (.str z) = some (.bool false) := by
  show some (PyData.bool (!(z == z))) = _
  rw [beq_self_eq_true]
  rfl
theorem eq_same (z : Str) : eqD (.str z) (.str z) = some (.bool true) := by
  show some (PyData.bool (z == z)) = _
  rw [beq_self_eq_true]
theorem int_shown {i : Int} (h : -10 ≤ i ∧ i < 1000) : reprD [.int i] = some (.str (PyData.int i).shown) := repr_ok (((many_fn (l := false) (c := false) h).wide (by decide) (by decide)).ok rfl)
theorem row_shown {L : List Int} (h : ∀ i ∈ L, -10 ≤ i ∧ i < 1000) (hl : L.length ≤ 500) : reprD [.tuple (intsD L)] = some (.str (PyData.tuple (intsD L)).shown) := by
  have f : FnL false false (21 * 500) 0 (intsD L) := FnL.all (W1 := 20) 500 (by rw [intsD_len]; exact hl) fun d hd => by
    obtain ⟨i, hi, rfl⟩ := List.mem_map.mp hd
    exact many_fn (h i hi)
  exact repr_ok (((Fn.tup f).wide (by decide) (by decide)).ok rfl)
/-! ### the law's own number of a hand's way -/
theorem in_way (h : Int) (v : Int × Option Int) : inD false (.int h) (wayD v) = some (.bool (decide (inW v h))) := by
  obtain ⟨a, b⟩ := v
  have e : ∀ x y : Int, (PyData.eqv (.int x) (.int y)) = decide (x = y) := fun x y => by
    show (x == y) = _
    by_cases q : x = y <;> simp [q]
  cases b with
  | none =>
    show some (PyData.bool (PyData.eqv (.int a) (.int h) || false)) = _
    rw [e, Bool.or_false]
    refine congrArg (fun z => some (PyData.bool z)) (decide_eq_decide.mpr ⟨fun q => .inl q, fun q => q.resolve_right (by simp)⟩)
  | some g =>
    show some (PyData.bool (PyData.eqv (.int a) (.int h) || (PyData.eqv (.int g) (.int h) || false))) = _
    rw [e, e, Bool.or_false, ← Bool.decide_or]
    refine congrArg (fun z => some (PyData.bool z)) (decide_eq_decide.mpr ⟨fun q => q.imp id fun z => congrArg some z, fun q => q.imp id fun z => Option.some.inj z⟩)
def gN (h : Int) : PyData → Option PyData
  | .tuple [i, w] => match inD false (.int h) w with
    | some (.bool true) => some i
    | _ => none
  | _ => none
theorem gN_way (h : Int) (i : PyData) (v : Int × Option Int) : gN h (.tuple [i, wayD v]) = if inW v h then some i else none := by
  show (match inD false (.int h) (wayD v) with | some (.bool true) => some i | _ => none) = _
  rw [in_way]
  by_cases q : inW v h
  · rw [decide_eq_true q, if_pos q]
  · rw [decide_eq_false q, if_neg q]
theorem prs_consX (lo : Int) (n : Nat) (d : PyData) (ds : List PyData) : prs (ups lo (n + 1)) (d :: ds) = .tuple [.int lo, d] :: prs (ups (lo + 1) n) ds := by
  rw [ups_consX]
  rfl
theorem num_fm (h : Int) : ∀ (V : List (Int × Option Int)) (lo : Int), (flatW V).Nodup → (prs (ups lo V.length) (V.map wayD)).filterMap (gN h) = if h ∈ flatW V then [.int (lo + (wI V h : Nat))] else []
  | [], lo, _ => rfl
  | v :: V, lo, nd => by
    rw [List.length_cons, List.map_cons, prs_consX]
    have nd' := nd
    rw [flat_cons] at nd'
    obtain ⟨n1, n2, n3⟩ := List.nodup_append.mp nd'
    have ih := num_fm h V (lo + 1) n2
    by_cases q : inW v h
    · have ni : h ∉ flatW V := fun z => n3 h (inW_hands q) h z rfl
      rw [if_neg ni] at ih
      have mi : h ∈ flatW (v :: V) := inW_flat (V := v :: V) (j := 0) rfl q
      rw [List.filterMap_cons_some (by rw [gN_way, if_pos q]), ih, if_pos mi]
      have : wI (v :: V) h = 0 := by
        unfold wI
        rw [List.findIdx_cons, decide_eq_true q]
        rfl
      rw [this]
      show [PyData.int lo] = [PyData.int (lo + 0)]
      rw [Int.add_zero]
    · rw [List.filterMap_cons_none (by rw [gN_way, if_neg q]), ih]
      have w1 : wI (v :: V) h = wI V h + 1 := by
        unfold wI
        rw [List.findIdx_cons, decide_eq_false q]
        rfl
      have mi : h ∈ flatW (v :: V) ↔ h ∈ flatW V := by
        rw [flat_cons, List.mem_append]
        refine ⟨fun z => z.resolve_left fun z => q ?_, .inr⟩
        rcases List.mem_cons.mp z with z | z
        · exact .inl z.symm
        · exact .inr (Option.mem_toList.mp z)
      by_cases z : h ∈ flatW V
      · rw [if_pos z, if_pos (mi.mpr z), w1]
        congr 2
        omega
      · rw [if_neg z, if_neg fun y => z (mi.mp y)]
section
variable {m : Nat} {V : List (Int × Option Int)} {B : List PyData}
theorem lnum_ok (W : whole (4 * m) V) (hV : V.length ≤ 60000) {h : Int} (h0 : 0 ≤ h ∧ h < ((4 * m : Nat) : Int)) : g__law_number [webD m V, .int h] = some (.int (wI V h : Nat)) := by
  have ix1 : ixD (webD m V) (.int 1) = some (.tuple (V.map wayD)) := rfl
  have en : enumN [.tuple (V.map wayD)] = some (prs (ups 0 V.length) (V.map wayD)) := by
    show some (prs (ups 0 (V.map wayD).length) (V.map wayD)) = _
    rw [List.length_map]
  have sz : Tw.sizeOk (prs (ups 0 V.length) (V.map wayD)).length = true := decide_eq_true (by rw [prs_len, Tw.ups_len, List.length_map]; omega)
  have lc := lc_map (ft := gTp [gNm 2, gNm 3]) (tt := fTst (fBin (inD false) (fVar 1) (fVar 3))) (fe := fVar 2) (vs := [2, 3]) (r0 := [.d (webD m V), .d (.int h), .un, .un]) (gN h) (prs (ups 0 V.length) (V.map wayD)) fun d hd => by
    obtain ⟨i, hi, e⟩ := List.getElem_of_mem hd
    obtain ⟨a, b, e1, e2, rfl⟩ := prs_get (by rw [List.getElem?_eq_getElem hi, e])
    rw [List.getElem?_map] at e2
    obtain ⟨v, e3, rfl⟩ := Option.map_eq_some_iff.mp e2
    refine ⟨[.d (webD m V), .d (.int h), .d a, .d (wayD v)], [.d (webD m V), .d (.int h), .d a, .d (wayD v)], rfl, ?_, fun _ => rfl, fun e he => ⟨[.d (webD m V), .d (.int h), .d a, .d (wayD v)], ?_, rfl⟩⟩
    · simp -implicitDefEqProofs only [eq_self, r_thn, r_tk, r_tk0, r_ret, r_lift, r_lift0, r_var, r_vk, r_bin, r_un, r_nil, r_cons, r_tup, r_of, r_call, r_tst, r_kt, r_ikT, r_ikF, r_ite, r_if, r_ife, r_and, r_or, r_not, r_vand, r_vor, r_vnot, r_chain, r_hkT, r_hkF, r_part, r_ok, r_sl, r_seq, r_skN, r_skR, r_skF, r_skB, r_skC, r_next, r_retS, r_rk, r_retF, r_rfk, r_drop, r_dk, r_asg, r_gk, r_gk2, gNm, r_tp, r_gs, r_qk, r_gs0, r_froz, r_frk, r_cmk, r_setI, r_stk, r_stk2, r_sti, r_pl, r_stj, r_aug, r_aug1, r_aug2, r_aug3, r_opN, r_par, r_prk, r_callN, r_tupRg, and_self, ixN0, ixN1, ixN2, r_peek, r_pk, r_pkI, r_pkB, r_pkS, r_pkN, r_tpeek, r_bk1, r_bk2, r_frz, r_fzk, r_own, owk, r_frkK, r_ownK, r_ixEd, r_ixEt, r_ixEl, r_inK, r_ninK, r_mk4, r_mk3, r_met, r_mk2, r_callM, r_mk2b, r_callM1, r_lenIs, r_callF, r_mat, r_mtk, r_mEnd, r_mCase, r_for, r_lk, r_items, r_itL, r_itT, r_rng, r_enum, r_zipM, zipM_ok, r_star, starL_ok, starT_ok, enumL_ok, enumT_ok, for_nil, r_lc, r_lck2, lc_nil, r_outM, r_outMn, r_outM1, r_outM1n, r_outD, r_outDf, r_outDn, r_outF, ixL0, ixL1, ixL2, ixT0, ixT1, ixT2, addI_ok, subI_ok, gtI_ok, geI_ok, leI_ok, ltI_ok, lenL_ok, lenT_ok, abs_ok, intB_ok, List.getElem?_cons_zero, List.getElem?_cons_succ, List.length_cons, List.length_nil, List.set_cons_zero, List.set_cons_succ, List.map_cons, List.map_nil, List.cons_append, List.nil_append, List.replicate_succ, List.replicate_zero, Nat.reduceAdd, Nat.reduceSub, Nat.reduceLT, Nat.reduceEqDiff, Option.bind_some, Option.bind_none, Option.map_some, Option.map_none, if_true, if_false, ite_true, ite_false, ↓reduceIte, Bool.not_true, Bool.not_false, in_way]
      rw [gN_way]
      by_cases q : inW v h
      · rw [decide_eq_true q, if_pos q]
        rfl
      · rw [decide_eq_false q, if_neg q]
        rfl
    · rw [gN_way] at he
      by_cases q : inW v h
      · rw [if_pos q] at he
        cases he
        simp -implicitDefEqProofs only [eq_self, r_thn, r_tk, r_tk0, r_ret, r_lift, r_lift0, r_var, r_vk, r_bin, r_un, r_nil, r_cons, r_tup, r_of, r_call, r_tst, r_kt, r_ikT, r_ikF, r_ite, r_if, r_ife, r_and, r_or, r_not, r_vand, r_vor, r_vnot, r_chain, r_hkT, r_hkF, r_part, r_ok, r_sl, r_seq, r_skN, r_skR, r_skF, r_skB, r_skC, r_next, r_retS, r_rk, r_retF, r_rfk, r_drop, r_dk, r_asg, r_gk, r_gk2, gNm, r_tp, r_gs, r_qk, r_gs0, r_froz, r_frk, r_cmk, r_setI, r_stk, r_stk2, r_sti, r_pl, r_stj, r_aug, r_aug1, r_aug2, r_aug3, r_opN, r_par, r_prk, r_callN, r_tupRg, and_self, ixN0, ixN1, ixN2, r_peek, r_pk, r_pkI, r_pkB, r_pkS, r_pkN, r_tpeek, r_bk1, r_bk2, r_frz, r_fzk, r_own, owk, r_frkK, r_ownK, r_ixEd, r_ixEt, r_ixEl, r_inK, r_ninK, r_mk4, r_mk3, r_met, r_mk2, r_callM, r_mk2b, r_callM1, r_lenIs, r_callF, r_mat, r_mtk, r_mEnd, r_mCase, r_for, r_lk, r_items, r_itL, r_itT, r_rng, r_enum, r_zipM, zipM_ok, r_star, starL_ok, starT_ok, enumL_ok, enumT_ok, for_nil, r_lc, r_lck2, lc_nil, r_outM, r_outMn, r_outM1, r_outM1n, r_outD, r_outDf, r_outDn, r_outF, ixL0, ixL1, ixL2, ixT0, ixT1, ixT2, addI_ok, subI_ok, gtI_ok, geI_ok, leI_ok, ltI_ok, lenL_ok, lenT_ok, abs_ok, intB_ok, List.getElem?_cons_zero, List.getElem?_cons_succ, List.length_cons, List.length_nil, List.set_cons_zero, List.set_cons_succ, List.map_cons, List.map_nil, List.cons_append, List.nil_append, List.replicate_succ, List.replicate_zero, Nat.reduceAdd, Nat.reduceSub, Nat.reduceLT, Nat.reduceEqDiff, Option.bind_some, Option.bind_none, Option.map_some, Option.map_none, if_true, if_false, ite_true, ite_false, ↓reduceIte, Bool.not_true, Bool.not_false]
      · rw [if_neg q] at he
        cases he
  have hm : h ∈ flatW V := W.1.mem_iff.mpr (mem_rangeI.mpr h0)
  rw [num_fm h V 0 (whole_nd W), if_pos hm, Int.zero_add] at lc
  have i0 : ixD (.list [.int (wI V h : Nat)]) (.int 0) = some (.int (wI V h : Nat)) := rfl
  unfold g__law_number runP f__law_number
  simp -implicitDefEqProofs only [eq_self, r_thn, r_tk, r_tk0, r_ret, r_lift, r_lift0, r_var, r_vk, r_bin, r_un, r_nil, r_cons, r_tup, r_of, r_call, r_tst, r_kt, r_ikT, r_ikF, r_ite, r_if, r_ife, r_and, r_or, r_not, r_vand, r_vor, r_vnot, r_chain, r_hkT, r_hkF, r_part, r_ok, r_sl, r_seq, r_skN, r_skR, r_skF, r_skB, r_skC, r_next, r_retS, r_rk, r_retF, r_rfk, r_drop, r_dk, r_asg, r_gk, r_gk2, gNm, r_tp, r_gs, r_qk, r_gs0, r_froz, r_frk, r_cmk, r_setI, r_stk, r_stk2, r_sti, r_pl, r_stj, r_aug, r_aug1, r_aug2, r_aug3, r_opN, r_par, r_prk, r_callN, r_tupRg, and_self, ixN0, ixN1, ixN2, r_peek, r_pk, r_pkI, r_pkB, r_pkS, r_pkN, r_tpeek, r_bk1, r_bk2, r_frz, r_fzk, r_own, owk, r_frkK, r_ownK, r_ixEd, r_ixEt, r_ixEl, r_inK, r_ninK, r_mk4, r_mk3, r_met, r_mk2, r_callM, r_mk2b, r_callM1, r_lenIs, r_callF, r_mat, r_mtk, r_mEnd, r_mCase, r_for, r_lk, r_items, r_itL, r_itT, r_rng, r_enum, r_zipM, zipM_ok, r_star, starL_ok, starT_ok, enumL_ok, enumT_ok, for_nil, r_lc, r_lck2, lc_nil, r_outM, r_outMn, r_outM1, r_outM1n, r_outD, r_outDf, r_outDn, r_outF, ixL0, ixL1, ixL2, ixT0, ixT1, ixT2, addI_ok, subI_ok, gtI_ok, geI_ok, leI_ok, ltI_ok, lenL_ok, lenT_ok, abs_ok, intB_ok, List.getElem?_cons_zero, List.getElem?_cons_succ, List.length_cons, List.length_nil, List.set_cons_zero, List.set_cons_succ, List.map_cons, List.map_nil, List.cons_append, List.nil_append, List.replicate_succ, List.replicate_zero, Nat.reduceAdd, Nat.reduceSub, Nat.reduceLT, Nat.reduceEqDiff, Option.bind_some, Option.bind_none, Option.map_some, Option.map_none, if_true, if_false, ite_true, ite_false, ↓reduceIte, Bool.not_true, Bool.not_false, ix1, en, r_lck sz, wipeR, lc, backR, i0]
/-! ### across, way_of, ways_at, ends_of -/
theorem is_below_ok {h : Int} {n : Nat} (h0 : 0 ≤ h ∧ h < (n : Int)) : g_is_below [.int h, .int (n : Nat)] = some (.bool true) := by
  have a : isiD "int" (.int h) = some (.bool true) := rfl
  have b : isiD "bool" (.int h) = some (.bool false) := rfl
  have c : leI (.int 0) (.int h) = some (.bool true) := by
    show some (PyData.bool (decide (0 ≤ h))) = _
    rw [decide_eq_true h0.1]
  have d := int2 h (n : Int)
  rw [decide_eq_true h0.2] at d
  unfold g_is_below runP f_is_below
  simp -implicitDefEqProofs only [eq_self, r_thn, r_tk, r_tk0, r_ret, r_lift, r_lift0, r_var, r_vk, r_bin, r_un, r_nil, r_cons, r_tup, r_of, r_call, r_tst, r_kt, r_ikT, r_ikF, r_ite, r_if, r_ife, r_and, r_or, r_not, r_vand, r_vor, r_vnot, r_chain, r_hkT, r_hkF, r_part, r_ok, r_sl, r_seq, r_skN, r_skR, r_skF, r_skB, r_skC, r_next, r_retS, r_rk, r_retF, r_rfk, r_drop, r_dk, r_asg, r_gk, r_gk2, gNm, r_tp, r_gs, r_qk, r_gs0, r_froz, r_frk, r_cmk, r_setI, r_stk, r_stk2, r_sti, r_pl, r_stj, r_aug, r_aug1, r_aug2, r_aug3, r_opN, r_par, r_prk, r_callN, r_tupRg, and_self, ixN0, ixN1, ixN2, r_peek, r_pk, r_pkI, r_pkB, r_pkS, r_pkN, r_tpeek, r_bk1, r_bk2, r_frz, r_fzk, r_own, owk, r_frkK, r_ownK, r_ixEd, r_ixEt, r_ixEl, r_inK, r_ninK, r_mk4, r_mk3, r_met, r_mk2, r_callM, r_mk2b, r_callM1, r_lenIs, r_callF, r_mat, r_mtk, r_mEnd, r_mCase, r_for, r_lk, r_items, r_itL, r_itT, r_rng, r_enum, r_zipM, zipM_ok, r_star, starL_ok, starT_ok, enumL_ok, enumT_ok, for_nil, r_lc, r_lck2, lc_nil, r_outM, r_outMn, r_outM1, r_outM1n, r_outD, r_outDf, r_outDn, r_outF, ixL0, ixL1, ixL2, ixT0, ixT1, ixT2, addI_ok, subI_ok, gtI_ok, geI_ok, leI_ok, ltI_ok, lenL_ok, lenT_ok, abs_ok, intB_ok, List.getElem?_cons_zero, List.getElem?_cons_succ, List.length_cons, List.length_nil, List.set_cons_zero, List.set_cons_succ, List.map_cons, List.map_nil, List.cons_append, List.nil_append, List.replicate_succ, List.replicate_zero, Nat.reduceAdd, Nat.reduceSub, Nat.reduceLT, Nat.reduceEqDiff, Option.bind_some, Option.bind_none, Option.map_some, Option.map_none, if_true, if_false, ite_true, ite_false, ↓reduceIte, Bool.not_true, Bool.not_false, a, b, c, d]
theorem lenB (t : Tab (4 * m) V B) : lenD [.list B] = some (.int ((4 * m : Nat) : Int)) := by
  show some (PyData.int (B.length : Nat)) = _
  rw [t.len]
theorem need_webA (hm : m ≤ 60) (W : whole (4 * m) V) : ∃ B, g_need_web [webD m V] = some (.list B) ∧ Tab (4 * m) V B := by
  obtain ⟨B, e, t⟩ := ha_web hm W
  refine ⟨B, ?_, t⟩
  have n1 : isNoneD (.list B) .none = some (.bool false) := rfl
  unfold g_need_web runP f_need_web
  simp -implicitDefEqProofs only [eq_self, r_thn, r_tk, r_tk0, r_ret, r_lift, r_lift0, r_var, r_vk, r_bin, r_un, r_nil, r_cons, r_tup, r_of, r_call, r_tst, r_kt, r_ikT, r_ikF, r_ite, r_if, r_ife, r_and, r_or, r_not, r_vand, r_vor, r_vnot, r_chain, r_hkT, r_hkF, r_part, r_ok, r_sl, r_seq, r_skN, r_skR, r_skF, r_skB, r_skC, r_next, r_retS, r_rk, r_retF, r_rfk, r_drop, r_dk, r_asg, r_gk, r_gk2, gNm, r_tp, r_gs, r_qk, r_gs0, r_froz, r_frk, r_cmk, r_setI, r_stk, r_stk2, r_sti, r_pl, r_stj, r_aug, r_aug1, r_aug2, r_aug3, r_opN, r_par, r_prk, r_callN, r_tupRg, and_self, ixN0, ixN1, ixN2, r_peek, r_pk, r_pkI, r_pkB, r_pkS, r_pkN, r_tpeek, r_bk1, r_bk2, r_frz, r_fzk, r_own, owk, r_frkK, r_ownK, r_ixEd, r_ixEt, r_ixEl, r_inK, r_ninK, r_mk4, r_mk3, r_met, r_mk2, r_callM, r_mk2b, r_callM1, r_lenIs, r_callF, r_mat, r_mtk, r_mEnd, r_mCase, r_for, r_lk, r_items, r_itL, r_itT, r_rng, r_enum, r_zipM, zipM_ok, r_star, starL_ok, starT_ok, enumL_ok, enumT_ok, for_nil, r_lc, r_lck2, lc_nil, r_outM, r_outMn, r_outM1, r_outM1n, r_outD, r_outDf, r_outDn, r_outF, ixL0, ixL1, ixL2, ixT0, ixT1, ixT2, addI_ok, subI_ok, gtI_ok, geI_ok, leI_ok, ltI_ok, lenL_ok, lenT_ok, abs_ok, intB_ok, List.getElem?_cons_zero, List.getElem?_cons_succ, List.length_cons, List.length_nil, List.set_cons_zero, List.set_cons_succ, List.map_cons, List.map_nil, List.cons_append, List.nil_append, List.replicate_succ, List.replicate_zero, Nat.reduceAdd, Nat.reduceSub, Nat.reduceLT, Nat.reduceEqDiff, Option.bind_some, Option.bind_none, Option.map_some, Option.map_none, if_true, if_false, ite_true, ite_false, ↓reduceIte, Bool.not_true, Bool.not_false, e, n1]
theorem acrossA (W : whole (4 * m) V) (t : Tab (4 * m) V B) (hw : g_need_web [webD m V] = some (.list B)) {h : Int} (h0 : 0 ≤ h ∧ h < ((4 * m : Nat) : Int)) : g_across [webD m V, .int h] = some (xD (XB B h)) := by
  have l := lenB t
  have b := is_below_ok h0
  have x := XB_ix W t h0
  unfold g_across runP f_across
  simp -implicitDefEqProofs only [eq_self, r_thn, r_tk, r_tk0, r_ret, r_lift, r_lift0, r_var, r_vk, r_bin, r_un, r_nil, r_cons, r_tup, r_of, r_call, r_tst, r_kt, r_ikT, r_ikF, r_ite, r_if, r_ife, r_and, r_or, r_not, r_vand, r_vor, r_vnot, r_chain, r_hkT, r_hkF, r_part, r_ok, r_sl, r_seq, r_skN, r_skR, r_skF, r_skB, r_skC, r_next, r_retS, r_rk, r_retF, r_rfk, r_drop, r_dk, r_asg, r_gk, r_gk2, gNm, r_tp, r_gs, r_qk, r_gs0, r_froz, r_frk, r_cmk, r_setI, r_stk, r_stk2, r_sti, r_pl, r_stj, r_aug, r_aug1, r_aug2, r_aug3, r_opN, r_par, r_prk, r_callN, r_tupRg, and_self, ixN0, ixN1, ixN2, r_peek, r_pk, r_pkI, r_pkB, r_pkS, r_pkN, r_tpeek, r_bk1, r_bk2, r_frz, r_fzk, r_own, owk, r_frkK, r_ownK, r_ixEd, r_ixEt, r_ixEl, r_inK, r_ninK, r_mk4, r_mk3, r_met, r_mk2, r_callM, r_mk2b, r_callM1, r_lenIs, r_callF, r_mat, r_mtk, r_mEnd, r_mCase, r_for, r_lk, r_items, r_itL, r_itT, r_rng, r_enum, r_zipM, zipM_ok, r_star, starL_ok, starT_ok, enumL_ok, enumT_ok, for_nil, r_lc, r_lck2, lc_nil, r_outM, r_outMn, r_outM1, r_outM1n, r_outD, r_outDf, r_outDn, r_outF, ixL0, ixL1, ixL2, ixT0, ixT1, ixT2, addI_ok, subI_ok, gtI_ok, geI_ok, leI_ok, ltI_ok, lenL_ok, lenT_ok, abs_ok, intB_ok, List.getElem?_cons_zero, List.getElem?_cons_succ, List.length_cons, List.length_nil, List.set_cons_zero, List.set_cons_succ, List.map_cons, List.map_nil, List.cons_append, List.nil_append, List.replicate_succ, List.replicate_zero, Nat.reduceAdd, Nat.reduceSub, Nat.reduceLT, Nat.reduceEqDiff, Option.bind_some, Option.bind_none, Option.map_some, Option.map_none, if_true, if_false, ite_true, ite_false, ↓reduceIte, Bool.not_true, Bool.not_false, hw, l, b, x]
theorem need_handA (t : Tab (4 * m) V B) {h : Int} (h0 : 0 ≤ h ∧ h < ((4 * m : Nat) : Int)) : g_need_hand [.list B, .int h] = some .none := by
  have l := lenB t
  have b := is_below_ok h0
  unfold g_need_hand runP f_need_hand
  simp -implicitDefEqProofs only [eq_self, r_thn, r_tk, r_tk0, r_ret, r_lift, r_lift0, r_var, r_vk, r_bin, r_un, r_nil, r_cons, r_tup, r_of, r_call, r_tst, r_kt, r_ikT, r_ikF, r_ite, r_if, r_ife, r_and, r_or, r_not, r_vand, r_vor, r_vnot, r_chain, r_hkT, r_hkF, r_part, r_ok, r_sl, r_seq, r_skN, r_skR, r_skF, r_skB, r_skC, r_next, r_retS, r_rk, r_retF, r_rfk, r_drop, r_dk, r_asg, r_gk, r_gk2, gNm, r_tp, r_gs, r_qk, r_gs0, r_froz, r_frk, r_cmk, r_setI, r_stk, r_stk2, r_sti, r_pl, r_stj, r_aug, r_aug1, r_aug2, r_aug3, r_opN, r_par, r_prk, r_callN, r_tupRg, and_self, ixN0, ixN1, ixN2, r_peek, r_pk, r_pkI, r_pkB, r_pkS, r_pkN, r_tpeek, r_bk1, r_bk2, r_frz, r_fzk, r_own, owk, r_frkK, r_ownK, r_ixEd, r_ixEt, r_ixEl, r_inK, r_ninK, r_mk4, r_mk3, r_met, r_mk2, r_callM, r_mk2b, r_callM1, r_lenIs, r_callF, r_mat, r_mtk, r_mEnd, r_mCase, r_for, r_lk, r_items, r_itL, r_itT, r_rng, r_enum, r_zipM, zipM_ok, r_star, starL_ok, starT_ok, enumL_ok, enumT_ok, for_nil, r_lc, r_lck2, lc_nil, r_outM, r_outMn, r_outM1, r_outM1n, r_outD, r_outDf, r_outDn, r_outF, ixL0, ixL1, ixL2, ixT0, ixT1, ixT2, addI_ok, subI_ok, gtI_ok, geI_ok, leI_ok, ltI_ok, lenL_ok, lenT_ok, abs_ok, intB_ok, List.getElem?_cons_zero, List.getElem?_cons_succ, List.length_cons, List.length_nil, List.set_cons_zero, List.set_cons_succ, List.map_cons, List.map_nil, List.cons_append, List.nil_append, List.replicate_succ, List.replicate_zero, Nat.reduceAdd, Nat.reduceSub, Nat.reduceLT, Nat.reduceEqDiff, Option.bind_some, Option.bind_none, Option.map_some, Option.map_none, if_true, if_false, ite_true, ite_false, ↓reduceIte, Bool.not_true, Bool.not_false, l, b]
theorem way_ofA (W : whole (4 * m) V) (t : Tab (4 * m) V B) (hV : V.length ≤ 60000) (hm : m ≤ 60) (hw : g_need_web [webD m V] = some (.list B)) {h : Int} (h0 : 0 ≤ h ∧ h < ((4 * m : Nat) : Int)) : g_way_of [webD m V, .int h] = some (.int (wI V h : Nat)) := by
  have n := need_handA t h0
  have w := wayn_ok W t hV hm h0
  unfold g_way_of runP f_way_of
  simp -implicitDefEqProofs only [eq_self, r_thn, r_tk, r_tk0, r_ret, r_lift, r_lift0, r_var, r_vk, r_bin, r_un, r_nil, r_cons, r_tup, r_of, r_call, r_tst, r_kt, r_ikT, r_ikF, r_ite, r_if, r_ife, r_and, r_or, r_not, r_vand, r_vor, r_vnot, r_chain, r_hkT, r_hkF, r_part, r_ok, r_sl, r_seq, r_skN, r_skR, r_skF, r_skB, r_skC, r_next, r_retS, r_rk, r_retF, r_rfk, r_drop, r_dk, r_asg, r_gk, r_gk2, gNm, r_tp, r_gs, r_qk, r_gs0, r_froz, r_frk, r_cmk, r_setI, r_stk, r_stk2, r_sti, r_pl, r_stj, r_aug, r_aug1, r_aug2, r_aug3, r_opN, r_par, r_prk, r_callN, r_tupRg, and_self, ixN0, ixN1, ixN2, r_peek, r_pk, r_pkI, r_pkB, r_pkS, r_pkN, r_tpeek, r_bk1, r_bk2, r_frz, r_fzk, r_own, owk, r_frkK, r_ownK, r_ixEd, r_ixEt, r_ixEl, r_inK, r_ninK, r_mk4, r_mk3, r_met, r_mk2, r_callM, r_mk2b, r_callM1, r_lenIs, r_callF, r_mat, r_mtk, r_mEnd, r_mCase, r_for, r_lk, r_items, r_itL, r_itT, r_rng, r_enum, r_zipM, zipM_ok, r_star, starL_ok, starT_ok, enumL_ok, enumT_ok, for_nil, r_lc, r_lck2, lc_nil, r_outM, r_outMn, r_outM1, r_outM1n, r_outD, r_outDf, r_outDn, r_outF, ixL0, ixL1, ixL2, ixT0, ixT1, ixT2, addI_ok, subI_ok, gtI_ok, geI_ok, leI_ok, ltI_ok, lenL_ok, lenT_ok, abs_ok, intB_ok, List.getElem?_cons_zero, List.getElem?_cons_succ, List.length_cons, List.length_nil, List.set_cons_zero, List.set_cons_succ, List.map_cons, List.map_nil, List.cons_append, List.nil_append, List.replicate_succ, List.replicate_zero, Nat.reduceAdd, Nat.reduceSub, Nat.reduceLT, Nat.reduceEqDiff, Option.bind_some, Option.bind_none, Option.map_some, Option.map_none, if_true, if_false, ite_true, ite_false, ↓reduceIte, Bool.not_true, Bool.not_false, hw, n, w]
def fourW (V : List (Int × Option Int)) (p : Int) : List Int := (List.range 4).map fun at_ : Nat => ((wI V (4 * p + (at_ : Int)) : Nat) : Int)
theorem four_eq (V : List (Int × Option Int)) (p : Int) : intsD (fourW V p) = [.int (wI V (4 * p) : Nat), .int (wI V (4 * p + 1) : Nat), .int (wI V (4 * p + 2) : Nat), .int (wI V (4 * p + 3) : Nat)] := by
  show [PyData.int (wI V (4 * p + 0) : Nat), .int (wI V (4 * p + 1) : Nat), .int (wI V (4 * p + 2) : Nat), .int (wI V (4 * p + 3) : Nat)] = _
  rw [Int.add_zero]
theorem addI2 (a b : Int) : addD (.int a) (.int b) = some (.int (a + b)) := rfl
theorem mul4 {p : Int} (h : 0 ≤ p ∧ p ≤ 60) : mulI (.int 4) (.int p) = some (.int (4 * p)) := by
  obtain ⟨k, rfl⟩ : ∃ k : Nat, p = (k : Int) := ⟨p.toNat, by omega⟩
  exact mul_ok 3 7 (by decide) (by decide) (by decide) (by decide) (by omega) (by omega) (by decide)
end
end Lw

set_option Elab.async false
set_option linter.all false
set_option maxRecDepth 100000
set_option maxHeartbeats 8000000
namespace Lw
open PySem PySem.Spec PyProof.Rows L2 Tw
def endsA (V : List (Int × Option Int)) : List Int := (V.filter fun v => v.2.isNone).map (·.1)
def gE : PyData → Option PyData
  | .tuple [x] => some x
  | _ => none
theorem ends_fm (V : List (Int × Option Int)) : (V.map wayD).filterMap gE = intsD (endsA V) := by
  induction V with
  | nil => rfl
  | cons v V ih =>
    obtain ⟨a, b⟩ := v
    cases b with
    | none =>
      show PyData.int a :: (V.map wayD).filterMap gE = _
      rw [ih]
      rfl
    | some g =>
      show (V.map wayD).filterMap gE = _
      rw [ih]
      rfl
theorem endsA_up {m : Nat} {V : List (Int × Option Int)} (W : whole (4 * m) V) : (endsA V).Pairwise (· < ·) :=
  List.Pairwise.map (R := fun v w : Int × Option Int => v.1 < w.1) (fun v : Int × Option Int => v.1) (fun a b h => h) (List.Pairwise.filter _ W.2.1)
theorem ends_lc1 (w : Sl) (V : List (Int × Option Int)) : lcF (gNm 1) (fTst (fBin eqD (fCall lenD (fCons (fVar 1) fNil)) (Tw.ret (.int 1)))) (fBin ixD (fVar 1) (Tw.ret (.int 0))) [1] (V.map wayD) [w, .un] = some (intsD (endsA V), [w, .un]) := by
  rw [← ends_fm]
  refine lc_map gE _ fun d hd => ?_
  obtain ⟨⟨a, b⟩, hv, rfl⟩ := List.mem_map.mp hd
  cases b with
  | none =>
    have q : eqD (.int ((1 : Nat) : Int)) (.int 1) = some (.bool true) := rfl
    refine ⟨[w, .d (.tuple [.int a])], [w, .d (.tuple [.int a])], rfl, ?_, fun h => rfl, fun e he => ⟨[w, .d (.tuple [.int a])], ?_, rfl⟩⟩
    · simp -implicitDefEqProofs only [eq_self, r_thn, r_tk, r_tk0, r_ret, r_lift, r_lift0, r_var, r_vk, r_bin, r_un, r_nil, r_cons, r_tup, r_of, r_call, r_tst, r_kt, r_ikT, r_ikF, r_ite, r_if, r_ife, r_and, r_or, r_not, r_vand, r_vor, r_vnot, r_chain, r_hkT, r_hkF, r_part, r_ok, r_sl, r_seq, r_skN, r_skR, r_skF, r_skB, r_skC, r_next, r_retS, r_rk, r_retF, r_rfk, r_drop, r_dk, r_asg, r_gk, r_gk2, gNm, r_tp, r_gs, r_qk, r_gs0, r_froz, r_frk, r_cmk, r_setI, r_stk, r_stk2, r_sti, r_pl, r_stj, r_aug, r_aug1, r_aug2, r_aug3, r_opN, r_par, r_prk, r_callN, r_tupRg, and_self, ixN0, ixN1, ixN2, r_peek, r_pk, r_pkI, r_pkB, r_pkS, r_pkN, r_tpeek, r_bk1, r_bk2, r_frz, r_fzk, r_own, owk, r_frkK, r_ownK, r_ixEd, r_ixEt, r_ixEl, r_inK, r_ninK, r_mk4, r_mk3, r_met, r_mk2, r_callM, r_mk2b, r_callM1, r_lenIs, r_callF, r_mat, r_mtk, r_mEnd, r_mCase, r_for, r_lk, r_items, r_itL, r_itT, r_rng, r_enum, r_zipM, zipM_ok, r_star, starL_ok, starT_ok, enumL_ok, enumT_ok, for_nil, r_lc, r_lck2, lc_nil, r_outM, r_outMn, r_outM1, r_outM1n, r_outD, r_outDf, r_outDn, r_outF, ixL0, ixL1, ixL2, ixT0, ixT1, ixT2, addI_ok, subI_ok, gtI_ok, geI_ok, leI_ok, ltI_ok, lenL_ok, lenT_ok, abs_ok, intB_ok, List.getElem?_cons_zero, List.getElem?_cons_succ, List.length_cons, List.length_nil, List.set_cons_zero, List.set_cons_succ, List.map_cons, List.map_nil, List.cons_append, List.nil_append, List.replicate_succ, List.replicate_zero, Nat.reduceAdd, Nat.reduceSub, Nat.reduceLT, Nat.reduceEqDiff, Option.bind_some, Option.bind_none, Option.map_some, Option.map_none, if_true, if_false, ite_true, ite_false, ↓reduceIte, Bool.not_true, Bool.not_false, q]
      rfl
    · cases he
      simp -implicitDefEqProofs only [eq_self, r_thn, r_tk, r_tk0, r_ret, r_lift, r_lift0, r_var, r_vk, r_bin, r_un, r_nil, r_cons, r_tup, r_of, r_call, r_tst, r_kt, r_ikT, r_ikF, r_ite, r_if, r_ife, r_and, r_or, r_not, r_vand, r_vor, r_vnot, r_chain, r_hkT, r_hkF, r_part, r_ok, r_sl, r_seq, r_skN, r_skR, r_skF, r_skB, r_skC, r_next, r_retS, r_rk, r_retF, r_rfk, r_drop, r_dk, r_asg, r_gk, r_gk2, gNm, r_tp, r_gs, r_qk, r_gs0, r_froz, r_frk, r_cmk, r_setI, r_stk, r_stk2, r_sti, r_pl, r_stj, r_aug, r_aug1, r_aug2, r_aug3, r_opN, r_par, r_prk, r_callN, r_tupRg, and_self, ixN0, ixN1, ixN2, r_peek, r_pk, r_pkI, r_pkB, r_pkS, r_pkN, r_tpeek, r_bk1, r_bk2, r_frz, r_fzk, r_own, owk, r_frkK, r_ownK, r_ixEd, r_ixEt, r_ixEl, r_inK, r_ninK, r_mk4, r_mk3, r_met, r_mk2, r_callM, r_mk2b, r_callM1, r_lenIs, r_callF, r_mat, r_mtk, r_mEnd, r_mCase, r_for, r_lk, r_items, r_itL, r_itT, r_rng, r_enum, r_zipM, zipM_ok, r_star, starL_ok, starT_ok, enumL_ok, enumT_ok, for_nil, r_lc, r_lck2, lc_nil, r_outM, r_outMn, r_outM1, r_outM1n, r_outD, r_outDf, r_outDn, r_outF, ixL0, ixL1, ixL2, ixT0, ixT1, ixT2, addI_ok, subI_ok, gtI_ok, geI_ok, leI_ok, ltI_ok, lenL_ok, lenT_ok, abs_ok, intB_ok, List.getElem?_cons_zero, List.getElem?_cons_succ, List.length_cons, List.length_nil, List.set_cons_zero, List.set_cons_succ, List.map_cons, List.map_nil, List.cons_append, List.nil_append, List.replicate_succ, List.replicate_zero, Nat.reduceAdd, Nat.reduceSub, Nat.reduceLT, Nat.reduceEqDiff, Option.bind_some, Option.bind_none, Option.map_some, Option.map_none, if_true, if_false, ite_true, ite_false, ↓reduceIte, Bool.not_true, Bool.not_false]
  | some g =>
    have q : eqD (.int ((2 : Nat) : Int)) (.int 1) = some (.bool false) := rfl
    refine ⟨[w, .d (.tuple [.int a, .int g])], [w, .d (.tuple [.int a, .int g])], rfl, ?_, fun h => rfl, fun e he => (by cases he)⟩
    simp -implicitDefEqProofs only [eq_self, r_thn, r_tk, r_tk0, r_ret, r_lift, r_lift0, r_var, r_vk, r_bin, r_un, r_nil, r_cons, r_tup, r_of, r_call, r_tst, r_kt, r_ikT, r_ikF, r_ite, r_if, r_ife, r_and, r_or, r_not, r_vand, r_vor, r_vnot, r_chain, r_hkT, r_hkF, r_part, r_ok, r_sl, r_seq, r_skN, r_skR, r_skF, r_skB, r_skC, r_next, r_retS, r_rk, r_retF, r_rfk, r_drop, r_dk, r_asg, r_gk, r_gk2, gNm, r_tp, r_gs, r_qk, r_gs0, r_froz, r_frk, r_cmk, r_setI, r_stk, r_stk2, r_sti, r_pl, r_stj, r_aug, r_aug1, r_aug2, r_aug3, r_opN, r_par, r_prk, r_callN, r_tupRg, and_self, ixN0, ixN1, ixN2, r_peek, r_pk, r_pkI, r_pkB, r_pkS, r_pkN, r_tpeek, r_bk1, r_bk2, r_frz, r_fzk, r_own, owk, r_frkK, r_ownK, r_ixEd, r_ixEt, r_ixEl, r_inK, r_ninK, r_mk4, r_mk3, r_met, r_mk2, r_callM, r_mk2b, r_callM1, r_lenIs, r_callF, r_mat, r_mtk, r_mEnd, r_mCase, r_for, r_lk, r_items, r_itL, r_itT, r_rng, r_enum, r_zipM, zipM_ok, r_star, starL_ok, starT_ok, enumL_ok, enumT_ok, for_nil, r_lc, r_lck2, lc_nil, r_outM, r_outMn, r_outM1, r_outM1n, r_outD, r_outDf, r_outDn, r_outF, ixL0, ixL1, ixL2, ixT0, ixT1, ixT2, addI_ok, subI_ok, gtI_ok, geI_ok, leI_ok, ltI_ok, lenL_ok, lenT_ok, abs_ok, intB_ok, List.getElem?_cons_zero, List.getElem?_cons_succ, List.length_cons, List.length_nil, List.set_cons_zero, List.set_cons_succ, List.map_cons, List.map_nil, List.cons_append, List.nil_append, List.replicate_succ, List.replicate_zero, Nat.reduceAdd, Nat.reduceSub, Nat.reduceLT, Nat.reduceEqDiff, Option.bind_some, Option.bind_none, Option.map_some, Option.map_none, if_true, if_false, ite_true, ite_false, ↓reduceIte, Bool.not_true, Bool.not_false, q]
    rfl
theorem ends_lc7 (w s1 s2 s3 s4 s5 s6 s8 : Sl) (V : List (Int × Option Int)) : lcF (gNm 7) (fTst (fBin eqD (fCall lenD (fCons (fVar 7) fNil)) (Tw.ret (.int 1)))) (fBin ixD (fVar 7) (Tw.ret (.int 0))) [7] (V.map wayD) [w, s1, s2, s3, s4, s5, s6, .un, s8] = some (intsD (endsA V), [w, s1, s2, s3, s4, s5, s6, .un, s8]) := by
  rw [← ends_fm]
  refine lc_map gE _ fun d hd => ?_
  obtain ⟨⟨a, b⟩, hv, rfl⟩ := List.mem_map.mp hd
  cases b with
  | none =>
    have q : eqD (.int ((1 : Nat) : Int)) (.int 1) = some (.bool true) := rfl
    refine ⟨[w, s1, s2, s3, s4, s5, s6, .d (.tuple [.int a]), s8], [w, s1, s2, s3, s4, s5, s6, .d (.tuple [.int a]), s8], rfl, ?_, fun h => rfl, fun e he => ⟨[w, s1, s2, s3, s4, s5, s6, .d (.tuple [.int a]), s8], ?_, rfl⟩⟩
    · simp -implicitDefEqProofs only [eq_self, r_thn, r_tk, r_tk0, r_ret, r_lift, r_lift0, r_var, r_vk, r_bin, r_un, r_nil, r_cons, r_tup, r_of, r_call, r_tst, r_kt, r_ikT, r_ikF, r_ite, r_if, r_ife, r_and, r_or, r_not, r_vand, r_vor, r_vnot, r_chain, r_hkT, r_hkF, r_part, r_ok, r_sl, r_seq, r_skN, r_skR, r_skF, r_skB, r_skC, r_next, r_retS, r_rk, r_retF, r_rfk, r_drop, r_dk, r_asg, r_gk, r_gk2, gNm, r_tp, r_gs, r_qk, r_gs0, r_froz, r_frk, r_cmk, r_setI, r_stk, r_stk2, r_sti, r_pl, r_stj, r_aug, r_aug1, r_aug2, r_aug3, r_opN, r_par, r_prk, r_callN, r_tupRg, and_self, ixN0, ixN1, ixN2, r_peek, r_pk, r_pkI, r_pkB, r_pkS, r_pkN, r_tpeek, r_bk1, r_bk2, r_frz, r_fzk, r_own, owk, r_frkK, r_ownK, r_ixEd, r_ixEt, r_ixEl, r_inK, r_ninK, r_mk4, r_mk3, r_met, r_mk2, r_callM, r_mk2b, r_callM1, r_lenIs, r_callF, r_mat, r_mtk, r_mEnd, r_mCase, r_for, r_lk, r_items, r_itL, r_itT, r_rng, r_enum, r_zipM, zipM_ok, r_star, starL_ok, starT_ok, enumL_ok, enumT_ok, for_nil, r_lc, r_lck2, lc_nil, r_outM, r_outMn, r_outM1, r_outM1n, r_outD, r_outDf, r_outDn, r_outF, ixL0, ixL1, ixL2, ixT0, ixT1, ixT2, addI_ok, subI_ok, gtI_ok, geI_ok, leI_ok, ltI_ok, lenL_ok, lenT_ok, abs_ok, intB_ok, List.getElem?_cons_zero, List.getElem?_cons_succ, List.length_cons, List.length_nil, List.set_cons_zero, List.set_cons_succ, List.map_cons, List.map_nil, List.cons_append, List.nil_append, List.replicate_succ, List.replicate_zero, Nat.reduceAdd, Nat.reduceSub, Nat.reduceLT, Nat.reduceEqDiff, Option.bind_some, Option.bind_none, Option.map_some, Option.map_none, if_true, if_false, ite_true, ite_false, ↓reduceIte, Bool.not_true, Bool.not_false, q]
      rfl
    · cases he
      simp -implicitDefEqProofs only [eq_self, r_thn, r_tk, r_tk0, r_ret, r_lift, r_lift0, r_var, r_vk, r_bin, r_un, r_nil, r_cons, r_tup, r_of, r_call, r_tst, r_kt, r_ikT, r_ikF, r_ite, r_if, r_ife, r_and, r_or, r_not, r_vand, r_vor, r_vnot, r_chain, r_hkT, r_hkF, r_part, r_ok, r_sl, r_seq, r_skN, r_skR, r_skF, r_skB, r_skC, r_next, r_retS, r_rk, r_retF, r_rfk, r_drop, r_dk, r_asg, r_gk, r_gk2, gNm, r_tp, r_gs, r_qk, r_gs0, r_froz, r_frk, r_cmk, r_setI, r_stk, r_stk2, r_sti, r_pl, r_stj, r_aug, r_aug1, r_aug2, r_aug3, r_opN, r_par, r_prk, r_callN, r_tupRg, and_self, ixN0, ixN1, ixN2, r_peek, r_pk, r_pkI, r_pkB, r_pkS, r_pkN, r_tpeek, r_bk1, r_bk2, r_frz, r_fzk, r_own, owk, r_frkK, r_ownK, r_ixEd, r_ixEt, r_ixEl, r_inK, r_ninK, r_mk4, r_mk3, r_met, r_mk2, r_callM, r_mk2b, r_callM1, r_lenIs, r_callF, r_mat, r_mtk, r_mEnd, r_mCase, r_for, r_lk, r_items, r_itL, r_itT, r_rng, r_enum, r_zipM, zipM_ok, r_star, starL_ok, starT_ok, enumL_ok, enumT_ok, for_nil, r_lc, r_lck2, lc_nil, r_outM, r_outMn, r_outM1, r_outM1n, r_outD, r_outDf, r_outDn, r_outF, ixL0, ixL1, ixL2, ixT0, ixT1, ixT2, addI_ok, subI_ok, gtI_ok, geI_ok, leI_ok, ltI_ok, lenL_ok, lenT_ok, abs_ok, intB_ok, List.getElem?_cons_zero, List.getElem?_cons_succ, List.length_cons, List.length_nil, List.set_cons_zero, List.set_cons_succ, List.map_cons, List.map_nil, List.cons_append, List.nil_append, List.replicate_succ, List.replicate_zero, Nat.reduceAdd, Nat.reduceSub, Nat.reduceLT, Nat.reduceEqDiff, Option.bind_some, Option.bind_none, Option.map_some, Option.map_none, if_true, if_false, ite_true, ite_false, ↓reduceIte, Bool.not_true, Bool.not_false]
  | some g =>
    have q : eqD (.int ((2 : Nat) : Int)) (.int 1) = some (.bool false) := rfl
    refine ⟨[w, s1, s2, s3, s4, s5, s6, .d (.tuple [.int a, .int g]), s8], [w, s1, s2, s3, s4, s5, s6, .d (.tuple [.int a, .int g]), s8], rfl, ?_, fun h => rfl, fun e he => (by cases he)⟩
    simp -implicitDefEqProofs only [eq_self, r_thn, r_tk, r_tk0, r_ret, r_lift, r_lift0, r_var, r_vk, r_bin, r_un, r_nil, r_cons, r_tup, r_of, r_call, r_tst, r_kt, r_ikT, r_ikF, r_ite, r_if, r_ife, r_and, r_or, r_not, r_vand, r_vor, r_vnot, r_chain, r_hkT, r_hkF, r_part, r_ok, r_sl, r_seq, r_skN, r_skR, r_skF, r_skB, r_skC, r_next, r_retS, r_rk, r_retF, r_rfk, r_drop, r_dk, r_asg, r_gk, r_gk2, gNm, r_tp, r_gs, r_qk, r_gs0, r_froz, r_frk, r_cmk, r_setI, r_stk, r_stk2, r_sti, r_pl, r_stj, r_aug, r_aug1, r_aug2, r_aug3, r_opN, r_par, r_prk, r_callN, r_tupRg, and_self, ixN0, ixN1, ixN2, r_peek, r_pk, r_pkI, r_pkB, r_pkS, r_pkN, r_tpeek, r_bk1, r_bk2, r_frz, r_fzk, r_own, owk, r_frkK, r_ownK, r_ixEd, r_ixEt, r_ixEl, r_inK, r_ninK, r_mk4, r_mk3, r_met, r_mk2, r_callM, r_mk2b, r_callM1, r_lenIs, r_callF, r_mat, r_mtk, r_mEnd, r_mCase, r_for, r_lk, r_items, r_itL, r_itT, r_rng, r_enum, r_zipM, zipM_ok, r_star, starL_ok, starT_ok, enumL_ok, enumT_ok, for_nil, r_lc, r_lck2, lc_nil, r_outM, r_outMn, r_outM1, r_outM1n, r_outD, r_outDf, r_outDn, r_outF, ixL0, ixL1, ixL2, ixT0, ixT1, ixT2, addI_ok, subI_ok, gtI_ok, geI_ok, leI_ok, ltI_ok, lenL_ok, lenT_ok, abs_ok, intB_ok, List.getElem?_cons_zero, List.getElem?_cons_succ, List.length_cons, List.length_nil, List.set_cons_zero, List.set_cons_succ, List.map_cons, List.map_nil, List.cons_append, List.nil_append, List.replicate_succ, List.replicate_zero, Nat.reduceAdd, Nat.reduceSub, Nat.reduceLT, Nat.reduceEqDiff, Option.bind_some, Option.bind_none, Option.map_some, Option.map_none, if_true, if_false, ite_true, ite_false, ↓reduceIte, Bool.not_true, Bool.not_false, q]
    rfl
def gF (V : List (Int × Option Int)) (p : Int) : PyData → Option PyData
  | .int i => some (.int (wI V (4 * p + i) : Nat))
  | _ => none
theorem four_fm (V : List (Int × Option Int)) (p : Int) : (ups 0 4).filterMap (gF V p) = intsD (fourW V p) := rfl
section
variable {m : Nat} {V : List (Int × Option Int)} {B : List PyData}
theorem ends_ofA (hV : V.length ≤ 60000) (hw : g_need_web [webD m V] = some (.list B)) : g_ends_of [webD m V] = some (.tuple (intsD (endsA V))) := by
  have ix1 : ixD (webD m V) (.int 1) = some (.tuple (V.map wayD)) := rfl
  have sz : Tw.sizeOk (V.map wayD).length = true := decide_eq_true (by rw [List.length_map]; omega)
  have it : itemsOf (.tuple (V.map wayD)) = some (V.map wayD) := rfl
  have lc := ends_lc1 (.d (webD m V)) V
  have tl : tupleD [.list (intsD (endsA V))] = some (.tuple (intsD (endsA V))) := rfl
  have e : g_end_hands [webD m V] = some (.tuple (intsD (endsA V))) := by
    unfold g_end_hands runP f_end_hands
    simp -implicitDefEqProofs only [eq_self, r_thn, r_tk, r_tk0, r_ret, r_lift, r_lift0, r_var, r_vk, r_bin, r_un, r_nil, r_cons, r_tup, r_of, r_call, r_tst, r_kt, r_ikT, r_ikF, r_ite, r_if, r_ife, r_and, r_or, r_not, r_vand, r_vor, r_vnot, r_chain, r_hkT, r_hkF, r_part, r_ok, r_sl, r_seq, r_skN, r_skR, r_skF, r_skB, r_skC, r_next, r_retS, r_rk, r_retF, r_rfk, r_drop, r_dk, r_asg, r_gk, r_gk2, gNm, r_tp, r_gs, r_qk, r_gs0, r_froz, r_frk, r_cmk, r_setI, r_stk, r_stk2, r_sti, r_pl, r_stj, r_aug, r_aug1, r_aug2, r_aug3, r_opN, r_par, r_prk, r_callN, r_tupRg, and_self, ixN0, ixN1, ixN2, r_peek, r_pk, r_pkI, r_pkB, r_pkS, r_pkN, r_tpeek, r_bk1, r_bk2, r_frz, r_fzk, r_own, owk, r_frkK, r_ownK, r_ixEd, r_ixEt, r_ixEl, r_inK, r_ninK, r_mk4, r_mk3, r_met, r_mk2, r_callM, r_mk2b, r_callM1, r_lenIs, r_callF, r_mat, r_mtk, r_mEnd, r_mCase, r_for, r_lk, r_items, r_itL, r_itT, r_rng, r_enum, r_zipM, zipM_ok, r_star, starL_ok, starT_ok, enumL_ok, enumT_ok, for_nil, r_lc, r_lck2, lc_nil, r_outM, r_outMn, r_outM1, r_outM1n, r_outD, r_outDf, r_outDn, r_outF, ixL0, ixL1, ixL2, ixT0, ixT1, ixT2, addI_ok, subI_ok, gtI_ok, geI_ok, leI_ok, ltI_ok, lenL_ok, lenT_ok, abs_ok, intB_ok, List.getElem?_cons_zero, List.getElem?_cons_succ, List.length_cons, List.length_nil, List.set_cons_zero, List.set_cons_succ, List.map_cons, List.map_nil, List.cons_append, List.nil_append, List.replicate_succ, List.replicate_zero, Nat.reduceAdd, Nat.reduceSub, Nat.reduceLT, Nat.reduceEqDiff, Option.bind_some, Option.bind_none, Option.map_some, Option.map_none, if_true, if_false, ite_true, ite_false, ↓reduceIte, Bool.not_true, Bool.not_false, ix1, it, r_lck sz, wipeR, lc, backR, tl]
  unfold g_ends_of runP f_ends_of
  simp -implicitDefEqProofs only [eq_self, r_thn, r_tk, r_tk0, r_ret, r_lift, r_lift0, r_var, r_vk, r_bin, r_un, r_nil, r_cons, r_tup, r_of, r_call, r_tst, r_kt, r_ikT, r_ikF, r_ite, r_if, r_ife, r_and, r_or, r_not, r_vand, r_vor, r_vnot, r_chain, r_hkT, r_hkF, r_part, r_ok, r_sl, r_seq, r_skN, r_skR, r_skF, r_skB, r_skC, r_next, r_retS, r_rk, r_retF, r_rfk, r_drop, r_dk, r_asg, r_gk, r_gk2, gNm, r_tp, r_gs, r_qk, r_gs0, r_froz, r_frk, r_cmk, r_setI, r_stk, r_stk2, r_sti, r_pl, r_stj, r_aug, r_aug1, r_aug2, r_aug3, r_opN, r_par, r_prk, r_callN, r_tupRg, and_self, ixN0, ixN1, ixN2, r_peek, r_pk, r_pkI, r_pkB, r_pkS, r_pkN, r_tpeek, r_bk1, r_bk2, r_frz, r_fzk, r_own, owk, r_frkK, r_ownK, r_ixEd, r_ixEt, r_ixEl, r_inK, r_ninK, r_mk4, r_mk3, r_met, r_mk2, r_callM, r_mk2b, r_callM1, r_lenIs, r_callF, r_mat, r_mtk, r_mEnd, r_mCase, r_for, r_lk, r_items, r_itL, r_itT, r_rng, r_enum, r_zipM, zipM_ok, r_star, starL_ok, starT_ok, enumL_ok, enumT_ok, for_nil, r_lc, r_lck2, lc_nil, r_outM, r_outMn, r_outM1, r_outM1n, r_outD, r_outDf, r_outDn, r_outF, ixL0, ixL1, ixL2, ixT0, ixT1, ixT2, addI_ok, subI_ok, gtI_ok, geI_ok, leI_ok, ltI_ok, lenL_ok, lenT_ok, abs_ok, intB_ok, List.getElem?_cons_zero, List.getElem?_cons_succ, List.length_cons, List.length_nil, List.set_cons_zero, List.set_cons_succ, List.map_cons, List.map_nil, List.cons_append, List.nil_append, List.replicate_succ, List.replicate_zero, Nat.reduceAdd, Nat.reduceSub, Nat.reduceLT, Nat.reduceEqDiff, Option.bind_some, Option.bind_none, Option.map_some, Option.map_none, if_true, if_false, ite_true, ite_false, ↓reduceIte, Bool.not_true, Bool.not_false, hw, e]
theorem four_in (W : whole (4 * m) V) {p : Int} (hp : 0 ≤ p ∧ p < (m : Int)) {i : Int} (hi : 0 ≤ i ∧ i < 4) : 0 ≤ 4 * p + i ∧ 4 * p + i < ((4 * m : Nat) : Int) := by omega
theorem ways_atA (W : whole (4 * m) V) (t : Tab (4 * m) V B) (hV : V.length ≤ 60000) (hm : m ≤ 60) (hw : g_need_web [webD m V] = some (.list B)) {p : Int} (hp : 0 ≤ p ∧ p < (m : Int)) : g_ways_at [webD m V, .int p] = some (.tuple (intsD (fourW V p))) := by
  have i0 : ixD (webD m V) (.int 0) = some (.int (m : Int)) := ixT0
  have b := is_below_ok hp
  have n : g_need_number [.int p, .int (m : Int)] = some .none := by
    unfold g_need_number runP f_need_number
    simp -implicitDefEqProofs only [eq_self, r_thn, r_tk, r_tk0, r_ret, r_lift, r_lift0, r_var, r_vk, r_bin, r_un, r_nil, r_cons, r_tup, r_of, r_call, r_tst, r_kt, r_ikT, r_ikF, r_ite, r_if, r_ife, r_and, r_or, r_not, r_vand, r_vor, r_vnot, r_chain, r_hkT, r_hkF, r_part, r_ok, r_sl, r_seq, r_skN, r_skR, r_skF, r_skB, r_skC, r_next, r_retS, r_rk, r_retF, r_rfk, r_drop, r_dk, r_asg, r_gk, r_gk2, gNm, r_tp, r_gs, r_qk, r_gs0, r_froz, r_frk, r_cmk, r_setI, r_stk, r_stk2, r_sti, r_pl, r_stj, r_aug, r_aug1, r_aug2, r_aug3, r_opN, r_par, r_prk, r_callN, r_tupRg, and_self, ixN0, ixN1, ixN2, r_peek, r_pk, r_pkI, r_pkB, r_pkS, r_pkN, r_tpeek, r_bk1, r_bk2, r_frz, r_fzk, r_own, owk, r_frkK, r_ownK, r_ixEd, r_ixEt, r_ixEl, r_inK, r_ninK, r_mk4, r_mk3, r_met, r_mk2, r_callM, r_mk2b, r_callM1, r_lenIs, r_callF, r_mat, r_mtk, r_mEnd, r_mCase, r_for, r_lk, r_items, r_itL, r_itT, r_rng, r_enum, r_zipM, zipM_ok, r_star, starL_ok, starT_ok, enumL_ok, enumT_ok, for_nil, r_lc, r_lck2, lc_nil, r_outM, r_outMn, r_outM1, r_outM1n, r_outD, r_outDf, r_outDn, r_outF, ixL0, ixL1, ixL2, ixT0, ixT1, ixT2, addI_ok, subI_ok, gtI_ok, geI_ok, leI_ok, ltI_ok, lenL_ok, lenT_ok, abs_ok, intB_ok, List.getElem?_cons_zero, List.getElem?_cons_succ, List.length_cons, List.length_nil, List.set_cons_zero, List.set_cons_succ, List.map_cons, List.map_nil, List.cons_append, List.nil_append, List.replicate_succ, List.replicate_zero, Nat.reduceAdd, Nat.reduceSub, Nat.reduceLT, Nat.reduceEqDiff, Option.bind_some, Option.bind_none, Option.map_some, Option.map_none, if_true, if_false, ite_true, ite_false, ↓reduceIte, Bool.not_true, Bool.not_false, b]
  have hr : rng1 [.int 4] = some (ups 0 4) := rng_ok (n := 4) (by decide)
  have m4 := mul4 (p := p) (by omega)
  have lc := lc_map (ft := gNm 3) (tt := Tw.ret true) (fe := fCall (lenIs 3 g_way_number) (fCons (fVar 0) (fCons (fVar 2) (fCons (fBin addD (fBin mulI (Tw.ret (.int 4)) (fVar 1)) (fVar 3)) fNil)))) (vs := [3]) (r0 := [.d (webD m V), .d (.int p), .d (.list B), .un]) (gF V p) (ups 0 4) fun d hd => by
    obtain ⟨i, hi, e⟩ := List.getElem_of_mem hd
    have hu := Tw.ups_get (by rw [List.getElem?_eq_getElem hi, e] : (ups 0 4)[i]? = some d)
    rw [Tw.ups_len] at hi
    subst hu
    refine ⟨[.d (webD m V), .d (.int p), .d (.list B), .d (.int (0 + (i : Int)))], [.d (webD m V), .d (.int p), .d (.list B), .d (.int (0 + (i : Int)))], rfl, rfl, fun h => (by cases h), fun e he => ⟨[.d (webD m V), .d (.int p), .d (.list B), .d (.int (0 + (i : Int)))], ?_, rfl⟩⟩
    cases he
    have wn := wayn_ok W t hV hm (four_in W hp (i := 0 + (i : Int)) (by omega))
    simp -implicitDefEqProofs only [eq_self, r_thn, r_tk, r_tk0, r_ret, r_lift, r_lift0, r_var, r_vk, r_bin, r_un, r_nil, r_cons, r_tup, r_of, r_call, r_tst, r_kt, r_ikT, r_ikF, r_ite, r_if, r_ife, r_and, r_or, r_not, r_vand, r_vor, r_vnot, r_chain, r_hkT, r_hkF, r_part, r_ok, r_sl, r_seq, r_skN, r_skR, r_skF, r_skB, r_skC, r_next, r_retS, r_rk, r_retF, r_rfk, r_drop, r_dk, r_asg, r_gk, r_gk2, gNm, r_tp, r_gs, r_qk, r_gs0, r_froz, r_frk, r_cmk, r_setI, r_stk, r_stk2, r_sti, r_pl, r_stj, r_aug, r_aug1, r_aug2, r_aug3, r_opN, r_par, r_prk, r_callN, r_tupRg, and_self, ixN0, ixN1, ixN2, r_peek, r_pk, r_pkI, r_pkB, r_pkS, r_pkN, r_tpeek, r_bk1, r_bk2, r_frz, r_fzk, r_own, owk, r_frkK, r_ownK, r_ixEd, r_ixEt, r_ixEl, r_inK, r_ninK, r_mk4, r_mk3, r_met, r_mk2, r_callM, r_mk2b, r_callM1, r_lenIs, r_callF, r_mat, r_mtk, r_mEnd, r_mCase, r_for, r_lk, r_items, r_itL, r_itT, r_rng, r_enum, r_zipM, zipM_ok, r_star, starL_ok, starT_ok, enumL_ok, enumT_ok, for_nil, r_lc, r_lck2, lc_nil, r_outM, r_outMn, r_outM1, r_outM1n, r_outD, r_outDf, r_outDn, r_outF, ixL0, ixL1, ixL2, ixT0, ixT1, ixT2, addI_ok, subI_ok, gtI_ok, geI_ok, leI_ok, ltI_ok, lenL_ok, lenT_ok, abs_ok, intB_ok, List.getElem?_cons_zero, List.getElem?_cons_succ, List.length_cons, List.length_nil, List.set_cons_zero, List.set_cons_succ, List.map_cons, List.map_nil, List.cons_append, List.nil_append, List.replicate_succ, List.replicate_zero, Nat.reduceAdd, Nat.reduceSub, Nat.reduceLT, Nat.reduceEqDiff, Option.bind_some, Option.bind_none, Option.map_some, Option.map_none, if_true, if_false, ite_true, ite_false, ↓reduceIte, Bool.not_true, Bool.not_false, m4, addI2, wn]
  rw [four_fm] at lc
  have tl : tupleD [.list (intsD (fourW V p))] = some (.tuple (intsD (fourW V p))) := rfl
  have sz : Tw.sizeOk (ups 0 4).length = true := rfl
  unfold g_ways_at runP f_ways_at
  simp -implicitDefEqProofs only [eq_self, r_thn, r_tk, r_tk0, r_ret, r_lift, r_lift0, r_var, r_vk, r_bin, r_un, r_nil, r_cons, r_tup, r_of, r_call, r_tst, r_kt, r_ikT, r_ikF, r_ite, r_if, r_ife, r_and, r_or, r_not, r_vand, r_vor, r_vnot, r_chain, r_hkT, r_hkF, r_part, r_ok, r_sl, r_seq, r_skN, r_skR, r_skF, r_skB, r_skC, r_next, r_retS, r_rk, r_retF, r_rfk, r_drop, r_dk, r_asg, r_gk, r_gk2, gNm, r_tp, r_gs, r_qk, r_gs0, r_froz, r_frk, r_cmk, r_setI, r_stk, r_stk2, r_sti, r_pl, r_stj, r_aug, r_aug1, r_aug2, r_aug3, r_opN, r_par, r_prk, r_callN, r_tupRg, and_self, ixN0, ixN1, ixN2, r_peek, r_pk, r_pkI, r_pkB, r_pkS, r_pkN, r_tpeek, r_bk1, r_bk2, r_frz, r_fzk, r_own, owk, r_frkK, r_ownK, r_ixEd, r_ixEt, r_ixEl, r_inK, r_ninK, r_mk4, r_mk3, r_met, r_mk2, r_callM, r_mk2b, r_callM1, r_lenIs, r_callF, r_mat, r_mtk, r_mEnd, r_mCase, r_for, r_lk, r_items, r_itL, r_itT, r_rng, r_enum, r_zipM, zipM_ok, r_star, starL_ok, starT_ok, enumL_ok, enumT_ok, for_nil, r_lc, r_lck2, lc_nil, r_outM, r_outMn, r_outM1, r_outM1n, r_outD, r_outDf, r_outDn, r_outF, ixL0, ixL1, ixL2, ixT0, ixT1, ixT2, addI_ok, subI_ok, gtI_ok, geI_ok, leI_ok, ltI_ok, lenL_ok, lenT_ok, abs_ok, intB_ok, List.getElem?_cons_zero, List.getElem?_cons_succ, List.length_cons, List.length_nil, List.set_cons_zero, List.set_cons_succ, List.map_cons, List.map_nil, List.cons_append, List.nil_append, List.replicate_succ, List.replicate_zero, Nat.reduceAdd, Nat.reduceSub, Nat.reduceLT, Nat.reduceEqDiff, Option.bind_some, Option.bind_none, Option.map_some, Option.map_none, if_true, if_false, ite_true, ite_false, ↓reduceIte, Bool.not_true, Bool.not_false, hw, i0, n, hr, r_lck sz, wipeR, lc, backR, tl]
/-! ### the law's looks -/
theorem xD_shown {o : Option Int} (h : ∀ g, o = some g → -10 ≤ g ∧ g < 1000) : reprD [xD o] = some (.str (xD o).shown) := by
  cases o with
  | none => rfl
  | some g => exact int_shown (h g rfl)
theorem hand_rightA (W : whole (4 * m) V) (t : Tab (4 * m) V B) (hV : V.length ≤ 900) (hm : m ≤ 60) (hw : g_need_web [webD m V] = some (.list B)) {h : Int} (h0 : 0 ≤ h ∧ h < ((4 * m : Nat) : Int)) : g__law_hand_right [webD m V, .int h] = some (.bool true) := by
  obtain ⟨v, e, i⟩ := wI_ok W h0
  have ix1 : ixD (webD m V) (.int 1) = some (.tuple (V.map wayD)) := rfl
  have ln := lnum_ok W (by omega) h0
  have ac := acrossA W t hw h0
  have wo := way_ofA W t (by omega) hm hw h0
  have iw : ixD (.tuple (V.map wayD)) (.int (wI V h : Nat)) = some (wayD v) := ixTn (by rw [List.getElem?_map, e]; rfl)
  have hlt := (List.getElem?_eq_some_iff.mp e).1
  have r2 := int_shown (i := ((wI V h : Nat) : Int)) (by omega)
  have hv := List.mem_of_getElem? e
  have inb : ∀ g, XB B h = some g → -10 ≤ g ∧ g < 1000 := fun g q => by
    unfold XB at q
    rcases XB_way W t h0 with ⟨z, _⟩ | ⟨g', z, _, z2, _⟩
    · rw [z] at q
      cases q
    · rw [z] at q
      cases q
      omega
  have r1 := xD_shown inb
  have ix0 := ix_way0 v
  obtain ⟨a, b⟩ := v
  cases b with
  | none =>
    have q : a = h := i.resolve_right (by simp)
    have x : XB B h = none := by
      unfold XB
      rw [← q, t.one _ hv rfl]
    rw [x] at ac r1
    have l1 : eqD (.int ((1 : Nat) : Int)) (.int 2) = some (.bool false) := rfl
    have w1 : wayD (a, none) = .tuple [.int a] := rfl
    unfold g__law_hand_right runP f__law_hand_right
    simp -implicitDefEqProofs only [eq_self, r_thn, r_tk, r_tk0, r_ret, r_lift, r_lift0, r_var, r_vk, r_bin, r_un, r_nil, r_cons, r_tup, r_of, r_call, r_tst, r_kt, r_ikT, r_ikF, r_ite, r_if, r_ife, r_and, r_or, r_not, r_vand, r_vor, r_vnot, r_chain, r_hkT, r_hkF, r_part, r_ok, r_sl, r_seq, r_skN, r_skR, r_skF, r_skB, r_skC, r_next, r_retS, r_rk, r_retF, r_rfk, r_drop, r_dk, r_asg, r_gk, r_gk2, gNm, r_tp, r_gs, r_qk, r_gs0, r_froz, r_frk, r_cmk, r_setI, r_stk, r_stk2, r_sti, r_pl, r_stj, r_aug, r_aug1, r_aug2, r_aug3, r_opN, r_par, r_prk, r_callN, r_tupRg, and_self, ixN0, ixN1, ixN2, r_peek, r_pk, r_pkI, r_pkB, r_pkS, r_pkN, r_tpeek, r_bk1, r_bk2, r_frz, r_fzk, r_own, owk, r_frkK, r_ownK, r_ixEd, r_ixEt, r_ixEl, r_inK, r_ninK, r_mk4, r_mk3, r_met, r_mk2, r_callM, r_mk2b, r_callM1, r_lenIs, r_callF, r_mat, r_mtk, r_mEnd, r_mCase, r_for, r_lk, r_items, r_itL, r_itT, r_rng, r_enum, r_zipM, zipM_ok, r_star, starL_ok, starT_ok, enumL_ok, enumT_ok, for_nil, r_lc, r_lck2, lc_nil, r_outM, r_outMn, r_outM1, r_outM1n, r_outD, r_outDf, r_outDn, r_outF, ixL0, ixL1, ixL2, ixT0, ixT1, ixT2, addI_ok, subI_ok, gtI_ok, geI_ok, leI_ok, ltI_ok, lenL_ok, lenT_ok, abs_ok, intB_ok, List.getElem?_cons_zero, List.getElem?_cons_succ, List.length_cons, List.length_nil, List.set_cons_zero, List.set_cons_succ, List.map_cons, List.map_nil, List.cons_append, List.nil_append, List.replicate_succ, List.replicate_zero, Nat.reduceAdd, Nat.reduceSub, Nat.reduceLT, Nat.reduceEqDiff, Option.bind_some, Option.bind_none, Option.map_some, Option.map_none, if_true, if_false, ite_true, ite_false, ↓reduceIte, Bool.not_true, Bool.not_false, ln, ix1, iw, w1, l1, ac, wo, r2, xD, show reprD [.none] = some (.str PyData.none.shown) from rfl, eq_same]
  | some g =>
    obtain ⟨t1, t2⟩ := t.two _ hv g rfl
    have l1 : eqD (.int ((2 : Nat) : Int)) (.int 2) = some (.bool true) := rfl
    have w1 : wayD (a, some g) = .tuple [.int a, .int g] := rfl
    have ia : ixD (.tuple [.int a, .int g]) (.int 0) = some (.int a) := rfl
    have ig : ixD (.tuple [.int a, .int g]) (.int 1) = some (.int g) := rfl
    rcases i with q | q
    · have q' : a = h := q
      subst q'
      have x : XB B a = some g := by
        unfold XB
        rw [t1]
      rw [x] at ac r1
      have e1 : eqD (.int a) (.int a) = some (.bool true) := by rw [eqI2, beq_self_eq_true]
      have it : intD [.bool true] = some (.int 1) := rfl
      have r1' : reprD [.int g] = some (.str (PyData.int g).shown) := r1
      unfold g__law_hand_right runP f__law_hand_right
      simp -implicitDefEqProofs only [eq_self, r_thn, r_tk, r_tk0, r_ret, r_lift, r_lift0, r_var, r_vk, r_bin, r_un, r_nil, r_cons, r_tup, r_of, r_call, r_tst, r_kt, r_ikT, r_ikF, r_ite, r_if, r_ife, r_and, r_or, r_not, r_vand, r_vor, r_vnot, r_chain, r_hkT, r_hkF, r_part, r_ok, r_sl, r_seq, r_skN, r_skR, r_skF, r_skB, r_skC, r_next, r_retS, r_rk, r_retF, r_rfk, r_drop, r_dk, r_asg, r_gk, r_gk2, gNm, r_tp, r_gs, r_qk, r_gs0, r_froz, r_frk, r_cmk, r_setI, r_stk, r_stk2, r_sti, r_pl, r_stj, r_aug, r_aug1, r_aug2, r_aug3, r_opN, r_par, r_prk, r_callN, r_tupRg, and_self, ixN0, ixN1, ixN2, r_peek, r_pk, r_pkI, r_pkB, r_pkS, r_pkN, r_tpeek, r_bk1, r_bk2, r_frz, r_fzk, r_own, owk, r_frkK, r_ownK, r_ixEd, r_ixEt, r_ixEl, r_inK, r_ninK, r_mk4, r_mk3, r_met, r_mk2, r_callM, r_mk2b, r_callM1, r_lenIs, r_callF, r_mat, r_mtk, r_mEnd, r_mCase, r_for, r_lk, r_items, r_itL, r_itT, r_rng, r_enum, r_zipM, zipM_ok, r_star, starL_ok, starT_ok, enumL_ok, enumT_ok, for_nil, r_lc, r_lck2, lc_nil, r_outM, r_outMn, r_outM1, r_outM1n, r_outD, r_outDf, r_outDn, r_outF, ixL0, ixL1, ixL2, ixT0, ixT1, ixT2, addI_ok, subI_ok, gtI_ok, geI_ok, leI_ok, ltI_ok, lenL_ok, lenT_ok, abs_ok, intB_ok, List.getElem?_cons_zero, List.getElem?_cons_succ, List.length_cons, List.length_nil, List.set_cons_zero, List.set_cons_succ, List.map_cons, List.map_nil, List.cons_append, List.nil_append, List.replicate_succ, List.replicate_zero, Nat.reduceAdd, Nat.reduceSub, Nat.reduceLT, Nat.reduceEqDiff, Option.bind_some, Option.bind_none, Option.map_some, Option.map_none, if_true, if_false, ite_true, ite_false, ↓reduceIte, Bool.not_true, Bool.not_false, ln, ix1, iw, w1, l1, ia, e1, it, ig, ac, wo, r2, xD, r1', eq_same]
    · have q' : g = h := Option.some.inj q
      subst q'
      have x : XB B g = some a := by
        unfold XB
        rw [t2]
      rw [x] at ac r1
      have ag := W.2.2 _ hv g rfl
      have e1 : eqD (.int a) (.int g) = some (.bool false) := by rw [eqI2, beq_eq_false_iff_ne.mpr (by show a ≠ g; have : a < g := ag; omega)]
      have it : intD [.bool false] = some (.int 0) := rfl
      have r1' : reprD [.int a] = some (.str (PyData.int a).shown) := r1
      unfold g__law_hand_right runP f__law_hand_right
      simp -implicitDefEqProofs only [eq_self, r_thn, r_tk, r_tk0, r_ret, r_lift, r_lift0, r_var, r_vk, r_bin, r_un, r_nil, r_cons, r_tup, r_of, r_call, r_tst, r_kt, r_ikT, r_ikF, r_ite, r_if, r_ife, r_and, r_or, r_not, r_vand, r_vor, r_vnot, r_chain, r_hkT, r_hkF, r_part, r_ok, r_sl, r_seq, r_skN, r_skR, r_skF, r_skB, r_skC, r_next, r_retS, r_rk, r_retF, r_rfk, r_drop, r_dk, r_asg, r_gk, r_gk2, gNm, r_tp, r_gs, r_qk, r_gs0, r_froz, r_frk, r_cmk, r_setI, r_stk, r_stk2, r_sti, r_pl, r_stj, r_aug, r_aug1, r_aug2, r_aug3, r_opN, r_par, r_prk, r_callN, r_tupRg, and_self, ixN0, ixN1, ixN2, r_peek, r_pk, r_pkI, r_pkB, r_pkS, r_pkN, r_tpeek, r_bk1, r_bk2, r_frz, r_fzk, r_own, owk, r_frkK, r_ownK, r_ixEd, r_ixEt, r_ixEl, r_inK, r_ninK, r_mk4, r_mk3, r_met, r_mk2, r_callM, r_mk2b, r_callM1, r_lenIs, r_callF, r_mat, r_mtk, r_mEnd, r_mCase, r_for, r_lk, r_items, r_itL, r_itT, r_rng, r_enum, r_zipM, zipM_ok, r_star, starL_ok, starT_ok, enumL_ok, enumT_ok, for_nil, r_lc, r_lck2, lc_nil, r_outM, r_outMn, r_outM1, r_outM1n, r_outD, r_outDf, r_outDn, r_outF, ixL0, ixL1, ixL2, ixT0, ixT1, ixT2, addI_ok, subI_ok, gtI_ok, geI_ok, leI_ok, ltI_ok, lenL_ok, lenT_ok, abs_ok, intB_ok, List.getElem?_cons_zero, List.getElem?_cons_succ, List.length_cons, List.length_nil, List.set_cons_zero, List.set_cons_succ, List.map_cons, List.map_nil, List.cons_append, List.nil_append, List.replicate_succ, List.replicate_zero, Nat.reduceAdd, Nat.reduceSub, Nat.reduceLT, Nat.reduceEqDiff, Option.bind_some, Option.bind_none, Option.map_some, Option.map_none, if_true, if_false, ite_true, ite_false, ↓reduceIte, Bool.not_true, Bool.not_false, ln, ix1, iw, w1, l1, ia, e1, it, ig, ac, wo, r2, xD, r1', eq_same]
end
end Lw

set_option Elab.async false
set_option linter.all false
set_option maxRecDepth 100000
set_option maxHeartbeats 8000000
namespace Lw
open PySem PySem.Spec PyProof.Rows L2 Tw
section
variable {m : Nat} {V : List (Int × Option Int)} {B : List PyData}
theorem post_turn (W : whole (4 * m) V) (t : Tab (4 * m) V B) (hV : V.length ≤ 900) (hm : m ≤ 60) (hw : g_need_web [webD m V] = some (.list B)) {p : Int} (hp : 0 ≤ p ∧ p < (m : Int)) (s1 s2 s3 s4 s6 s7 : Sl) :
    b1__law_right [.d (webD m V), s1, s2, s3, s4, .d (.int p), s6, s7, .un] = some (.nx [.d (webD m V), s1, s2, s3, s4, .d (.int p), .d (.tuple (intsD (fourW V p))), s7, .un]) := by
  have hr : rng1 [.int 4] = some (ups 0 4) := rng_ok (n := 4) (by decide)
  have m4 := mul4 (p := p) (by omega)
  have lc := lc_map (ft := gNm 8) (tt := Tw.ret true) (fe := fCall (lenIs 2 g__law_number) (fCons (fVar 0) (fCons (fBin addD (fBin mulI (Tw.ret (.int 4)) (fVar 5)) (fVar 8)) fNil))) (vs := [8]) (r0 := [.d (webD m V), s1, s2, s3, s4, .d (.int p), s6, s7, .un]) (gF V p) (ups 0 4) fun d hd => by
    obtain ⟨i, hi, e⟩ := List.getElem_of_mem hd
    have hu := Tw.ups_get (by rw [List.getElem?_eq_getElem hi, e] : (ups 0 4)[i]? = some d)
    rw [Tw.ups_len] at hi
    subst hu
    refine ⟨[.d (webD m V), s1, s2, s3, s4, .d (.int p), s6, s7, .d (.int (0 + (i : Int)))], [.d (webD m V), s1, s2, s3, s4, .d (.int p), s6, s7, .d (.int (0 + (i : Int)))], rfl, rfl, fun h => (by cases h), fun e he => ⟨[.d (webD m V), s1, s2, s3, s4, .d (.int p), s6, s7, .d (.int (0 + (i : Int)))], ?_, rfl⟩⟩
    cases he
    have wn := lnum_ok W (by omega) (four_in W hp (i := 0 + (i : Int)) (by omega))
    simp -implicitDefEqProofs only [eq_self, r_thn, r_tk, r_tk0, r_ret, r_lift, r_lift0, r_var, r_vk, r_bin, r_un, r_nil, r_cons, r_tup, r_of, r_call, r_tst, r_kt, r_ikT, r_ikF, r_ite, r_if, r_ife, r_and, r_or, r_not, r_vand, r_vor, r_vnot, r_chain, r_hkT, r_hkF, r_part, r_ok, r_sl, r_seq, r_skN, r_skR, r_skF, r_skB, r_skC, r_next, r_retS, r_rk, r_retF, r_rfk, r_drop, r_dk, r_asg, r_gk, r_gk2, gNm, r_tp, r_gs, r_qk, r_gs0, r_froz, r_frk, r_cmk, r_setI, r_stk, r_stk2, r_sti, r_pl, r_stj, r_aug, r_aug1, r_aug2, r_aug3, r_opN, r_par, r_prk, r_callN, r_tupRg, and_self, ixN0, ixN1, ixN2, r_peek, r_pk, r_pkI, r_pkB, r_pkS, r_pkN, r_tpeek, r_bk1, r_bk2, r_frz, r_fzk, r_own, owk, r_frkK, r_ownK, r_ixEd, r_ixEt, r_ixEl, r_inK, r_ninK, r_mk4, r_mk3, r_met, r_mk2, r_callM, r_mk2b, r_callM1, r_lenIs, r_callF, r_mat, r_mtk, r_mEnd, r_mCase, r_for, r_lk, r_items, r_itL, r_itT, r_rng, r_enum, r_zipM, zipM_ok, r_star, starL_ok, starT_ok, enumL_ok, enumT_ok, for_nil, r_lc, r_lck2, lc_nil, r_outM, r_outMn, r_outM1, r_outM1n, r_outD, r_outDf, r_outDn, r_outF, ixL0, ixL1, ixL2, ixT0, ixT1, ixT2, addI_ok, subI_ok, gtI_ok, geI_ok, leI_ok, ltI_ok, lenL_ok, lenT_ok, abs_ok, intB_ok, List.getElem?_cons_zero, List.getElem?_cons_succ, List.length_cons, List.length_nil, List.set_cons_zero, List.set_cons_succ, List.map_cons, List.map_nil, List.cons_append, List.nil_append, List.replicate_succ, List.replicate_zero, Nat.reduceAdd, Nat.reduceSub, Nat.reduceLT, Nat.reduceEqDiff, Option.bind_some, Option.bind_none, Option.map_some, Option.map_none, if_true, if_false, ite_true, ite_false, ↓reduceIte, Bool.not_true, Bool.not_false, m4, addI2, wn]
  rw [four_fm] at lc
  have tl : tupleD [.list (intsD (fourW V p))] = some (.tuple (intsD (fourW V p))) := rfl
  have sz : Tw.sizeOk (ups 0 4).length = true := rfl
  have wa := ways_atA W t (by omega) hm hw hp
  have rs := row_shown (L := fourW V p) (fun i hi => by
    obtain ⟨k, hk, rfl⟩ := List.mem_map.mp hi
    obtain ⟨v, e, _⟩ := wI_ok W (four_in W hp (i := (k : Int)) (by have := List.mem_range.mp hk; omega))
    have := (List.getElem?_eq_some_iff.mp e).1
    omega) (by unfold fourW; rw [List.length_map, List.length_range]; decide)
  unfold b1__law_right
  simp -implicitDefEqProofs only [eq_self, r_thn, r_tk, r_tk0, r_ret, r_lift, r_lift0, r_var, r_vk, r_bin, r_un, r_nil, r_cons, r_tup, r_of, r_call, r_tst, r_kt, r_ikT, r_ikF, r_ite, r_if, r_ife, r_and, r_or, r_not, r_vand, r_vor, r_vnot, r_chain, r_hkT, r_hkF, r_part, r_ok, r_sl, r_seq, r_skN, r_skR, r_skF, r_skB, r_skC, r_next, r_retS, r_rk, r_retF, r_rfk, r_drop, r_dk, r_asg, r_gk, r_gk2, gNm, r_tp, r_gs, r_qk, r_gs0, r_froz, r_frk, r_cmk, r_setI, r_stk, r_stk2, r_sti, r_pl, r_stj, r_aug, r_aug1, r_aug2, r_aug3, r_opN, r_par, r_prk, r_callN, r_tupRg, and_self, ixN0, ixN1, ixN2, r_peek, r_pk, r_pkI, r_pkB, r_pkS, r_pkN, r_tpeek, r_bk1, r_bk2, r_frz, r_fzk, r_own, owk, r_frkK, r_ownK, r_ixEd, r_ixEt, r_ixEl, r_inK, r_ninK, r_mk4, r_mk3, r_met, r_mk2, r_callM, r_mk2b, r_callM1, r_lenIs, r_callF, r_mat, r_mtk, r_mEnd, r_mCase, r_for, r_lk, r_items, r_itL, r_itT, r_rng, r_enum, r_zipM, zipM_ok, r_star, starL_ok, starT_ok, enumL_ok, enumT_ok, for_nil, r_lc, r_lck2, lc_nil, r_outM, r_outMn, r_outM1, r_outM1n, r_outD, r_outDf, r_outDn, r_outF, ixL0, ixL1, ixL2, ixT0, ixT1, ixT2, addI_ok, subI_ok, gtI_ok, geI_ok, leI_ok, ltI_ok, lenL_ok, lenT_ok, abs_ok, intB_ok, List.getElem?_cons_zero, List.getElem?_cons_succ, List.length_cons, List.length_nil, List.set_cons_zero, List.set_cons_succ, List.map_cons, List.map_nil, List.cons_append, List.nil_append, List.replicate_succ, List.replicate_zero, Nat.reduceAdd, Nat.reduceSub, Nat.reduceLT, Nat.reduceEqDiff, Option.bind_some, Option.bind_none, Option.map_some, Option.map_none, if_true, if_false, ite_true, ite_false, ↓reduceIte, Bool.not_true, Bool.not_false, hr, r_lck sz, wipeR, lc, backR, tl, wa, rs, ne_same]
theorem turn_ok2 (W : whole (4 * m) V) (t : Tab (4 * m) V B) (hV : V.length ≤ 900) (hm : m ≤ 60) (hw : g_need_web [webD m V] = some (.list B)) (hs : ∃ z, reprD [.tuple (intsD (endsA V))] = some (.str z)) (s1 s3 s4 s5 s6 s7 : Sl) :
    ∃ s5' s6', b2__law_right [.d (webD m V), s1, .d (.tuple (intsD (endsA V))), s3, s4, s5, s6, s7, .un] = some (.nx [.d (webD m V), s1, .d (.tuple (intsD (endsA V))), s3, s4, s5', s6', s7, .un]) := by
  have i0 : ixD (webD m V) (.int 0) = some (.int (m : Int)) := ixT0
  have hr : rng1 [.int (m : Int)] = some (ups 0 m) := rng_ok (by omega)
  obtain ⟨z, hz⟩ := hs
  have eo := ends_ofA (m := m) (by omega) hw
  obtain ⟨ρ, e, s5', s6', rfl⟩ := for_all (ft := gNm 5) (fb := b1__law_right) (fun j ρ => ∃ s5 s6, ρ = [.d (webD m V), s1, .d (.tuple (intsD (endsA V))), s3, s4, s5, s6, s7, .un]) (ups 0 m) 0 [.d (webD m V), s1, .d (.tuple (intsD (endsA V))), s3, s4, s5, s6, s7, .un] ⟨s5, s6, rfl⟩ fun j d ρ hj ⟨a, b, eρ⟩ => by
    subst eρ
    have hu := Tw.ups_get hj
    have hl := (List.getElem?_eq_some_iff.mp hj).1
    rw [Tw.ups_len] at hl
    subst hu
    exact ⟨_, _, rfl, post_turn W t hV hm hw (by omega) s1 _ s3 s4 b s7, _, _, rfl⟩
  refine ⟨s5', s6', ?_⟩
  unfold b2__law_right
  simp -implicitDefEqProofs only [eq_self, r_thn, r_tk, r_tk0, r_ret, r_lift, r_lift0, r_var, r_vk, r_bin, r_un, r_nil, r_cons, r_tup, r_of, r_call, r_tst, r_kt, r_ikT, r_ikF, r_ite, r_if, r_ife, r_and, r_or, r_not, r_vand, r_vor, r_vnot, r_chain, r_hkT, r_hkF, r_part, r_ok, r_sl, r_seq, r_skN, r_skR, r_skF, r_skB, r_skC, r_next, r_retS, r_rk, r_retF, r_rfk, r_drop, r_dk, r_asg, r_gk, r_gk2, gNm, r_tp, r_gs, r_qk, r_gs0, r_froz, r_frk, r_cmk, r_setI, r_stk, r_stk2, r_sti, r_pl, r_stj, r_aug, r_aug1, r_aug2, r_aug3, r_opN, r_par, r_prk, r_callN, r_tupRg, and_self, ixN0, ixN1, ixN2, r_peek, r_pk, r_pkI, r_pkB, r_pkS, r_pkN, r_tpeek, r_bk1, r_bk2, r_frz, r_fzk, r_own, owk, r_frkK, r_ownK, r_ixEd, r_ixEt, r_ixEl, r_inK, r_ninK, r_mk4, r_mk3, r_met, r_mk2, r_callM, r_mk2b, r_callM1, r_lenIs, r_callF, r_mat, r_mtk, r_mEnd, r_mCase, r_for, r_lk, r_items, r_itL, r_itT, r_rng, r_enum, r_zipM, zipM_ok, r_star, starL_ok, starT_ok, enumL_ok, enumT_ok, for_nil, r_lc, r_lck2, lc_nil, r_outM, r_outMn, r_outM1, r_outM1n, r_outD, r_outDf, r_outDn, r_outF, ixL0, ixL1, ixL2, ixT0, ixT1, ixT2, addI_ok, subI_ok, gtI_ok, geI_ok, leI_ok, ltI_ok, lenL_ok, lenT_ok, abs_ok, intB_ok, List.getElem?_cons_zero, List.getElem?_cons_succ, List.length_cons, List.length_nil, List.set_cons_zero, List.set_cons_succ, List.map_cons, List.map_nil, List.cons_append, List.nil_append, List.replicate_succ, List.replicate_zero, Nat.reduceAdd, Nat.reduceSub, Nat.reduceLT, Nat.reduceEqDiff, Option.bind_some, Option.bind_none, Option.map_some, Option.map_none, if_true, if_false, ite_true, ite_false, ↓reduceIte, Bool.not_true, Bool.not_false, eo, hz, ne_same, i0, hr, e]
theorem right_ok (W : whole (4 * m) V) (hk : WebOk m V) (hm : m ≤ 60) : g__law_right [webD m V] = some (.bool true) := by
  obtain ⟨B, hw, t⟩ := need_webA hm W
  have hV : V.length ≤ 130 := hk.len
  have rp := repr_ok (thing_shown (web_thing hk))
  have ix1 : ixD (webD m V) (.int 1) = some (.tuple (V.map wayD)) := rfl
  have it : itemsOf (.tuple (V.map wayD)) = some (V.map wayD) := rfl
  have sz : Tw.sizeOk (V.map wayD).length = true := decide_eq_true (by rw [List.length_map]; omega)
  have lc := ends_lc7 (.d (webD m V)) (.d (.str (webD m V).shown)) .un .un .un .un .un .un V
  have so := rise_ints (endsA_up W)
  have tl : tupleD [.list (intsD (endsA V))] = some (.tuple (intsD (endsA V))) := rfl
  have rs := row_shown (L := endsA V) (fun i hi => by
    obtain ⟨v, hv, rfl⟩ := List.mem_map.mp hi
    have := hk.one v (List.mem_filter.mp hv).1
    omega) (by
      have := List.length_filter_le (fun v : Int × Option Int => v.2.isNone) V
      unfold endsA
      rw [List.length_map]
      omega)
  have hr2 : rng1 [.int 2] = some (ups 0 2) := rng_ok (n := 2) (by decide)
  have i0 : ixD (webD m V) (.int 0) = some (.int (m : Int)) := ixT0
  have m4 : mulI (.int 4) (.int (m : Int)) = some (.int (4 * (m : Int))) := mul4 (by omega)
  have hr4 : rng1 [.int (4 * (m : Int))] = some (ups 0 (4 * m)) := by
    have := rng_ok (n := 4 * m) (by omega)
    rwa [show ((4 * m : Nat) : Int) = 4 * (m : Int) by omega] at this
  obtain ⟨ρ1, e1, s3, s5, s6, rfl⟩ := for_all (ft := gNm 3) (fb := b2__law_right) (fun j ρ => ∃ s3 s5 s6, ρ = [.d (webD m V), .d (.str (webD m V).shown), .d (.tuple (intsD (endsA V))), s3, .un, s5, s6, .un, .un]) (ups 0 2) 0
      [.d (webD m V), .d (.str (webD m V).shown), .d (.tuple (intsD (endsA V))), .un, .un, .un, .un, .un, .un] ⟨.un, .un, .un, rfl⟩ fun j d ρ hj ⟨a, b, c, eρ⟩ => by
    subst eρ
    obtain ⟨b', c', e⟩ := turn_ok2 W t (by omega) hm hw ⟨_, rs⟩ (.d (.str (webD m V).shown)) (.d d) .un b c .un
    exact ⟨_, _, rfl, e, _, _, _, rfl⟩
  obtain ⟨ρ2, e2, s4, rfl⟩ := for_all (ft := gNm 4) (fb := b3__law_right) (fun j ρ => ∃ s4, ρ = [.d (webD m V), .d (.str (webD m V).shown), .d (.tuple (intsD (endsA V))), s3, s4, s5, s6, .un, .un]) (ups 0 (4 * m)) 0
      [.d (webD m V), .d (.str (webD m V).shown), .d (.tuple (intsD (endsA V))), s3, .un, s5, s6, .un, .un] ⟨.un, rfl⟩ fun j d ρ hj ⟨a, eρ⟩ => by
    subst eρ
    have hu := Tw.ups_get hj
    have hl := (List.getElem?_eq_some_iff.mp hj).1
    rw [Tw.ups_len] at hl
    subst hu
    have hr := hand_rightA W t (by omega) hm hw (h := 0 + (j : Int)) (by omega)
    refine ⟨[.d (webD m V), .d (.str (webD m V).shown), .d (.tuple (intsD (endsA V))), s3, .d (.int (0 + (j : Int))), s5, s6, .un, .un], [.d (webD m V), .d (.str (webD m V).shown), .d (.tuple (intsD (endsA V))), s3, .d (.int (0 + (j : Int))), s5, s6, .un, .un], rfl, ?_, .d (.int (0 + (j : Int))), rfl⟩
    unfold b3__law_right
    simp -implicitDefEqProofs only [eq_self, r_thn, r_tk, r_tk0, r_ret, r_lift, r_lift0, r_var, r_vk, r_bin, r_un, r_nil, r_cons, r_tup, r_of, r_call, r_tst, r_kt, r_ikT, r_ikF, r_ite, r_if, r_ife, r_and, r_or, r_not, r_vand, r_vor, r_vnot, r_chain, r_hkT, r_hkF, r_part, r_ok, r_sl, r_seq, r_skN, r_skR, r_skF, r_skB, r_skC, r_next, r_retS, r_rk, r_retF, r_rfk, r_drop, r_dk, r_asg, r_gk, r_gk2, gNm, r_tp, r_gs, r_qk, r_gs0, r_froz, r_frk, r_cmk, r_setI, r_stk, r_stk2, r_sti, r_pl, r_stj, r_aug, r_aug1, r_aug2, r_aug3, r_opN, r_par, r_prk, r_callN, r_tupRg, and_self, ixN0, ixN1, ixN2, r_peek, r_pk, r_pkI, r_pkB, r_pkS, r_pkN, r_tpeek, r_bk1, r_bk2, r_frz, r_fzk, r_own, owk, r_frkK, r_ownK, r_ixEd, r_ixEt, r_ixEl, r_inK, r_ninK, r_mk4, r_mk3, r_met, r_mk2, r_callM, r_mk2b, r_callM1, r_lenIs, r_callF, r_mat, r_mtk, r_mEnd, r_mCase, r_for, r_lk, r_items, r_itL, r_itT, r_rng, r_enum, r_zipM, zipM_ok, r_star, starL_ok, starT_ok, enumL_ok, enumT_ok, for_nil, r_lc, r_lck2, lc_nil, r_outM, r_outMn, r_outM1, r_outM1n, r_outD, r_outDf, r_outDn, r_outF, ixL0, ixL1, ixL2, ixT0, ixT1, ixT2, addI_ok, subI_ok, gtI_ok, geI_ok, leI_ok, ltI_ok, lenL_ok, lenT_ok, abs_ok, intB_ok, List.getElem?_cons_zero, List.getElem?_cons_succ, List.length_cons, List.length_nil, List.set_cons_zero, List.set_cons_succ, List.map_cons, List.map_nil, List.cons_append, List.nil_append, List.replicate_succ, List.replicate_zero, Nat.reduceAdd, Nat.reduceSub, Nat.reduceLT, Nat.reduceEqDiff, Option.bind_some, Option.bind_none, Option.map_some, Option.map_none, if_true, if_false, ite_true, ite_false, ↓reduceIte, Bool.not_true, Bool.not_false, hr]
  unfold g__law_right runP f__law_right
  simp -implicitDefEqProofs only [eq_self, r_thn, r_tk, r_tk0, r_ret, r_lift, r_lift0, r_var, r_vk, r_bin, r_un, r_nil, r_cons, r_tup, r_of, r_call, r_tst, r_kt, r_ikT, r_ikF, r_ite, r_if, r_ife, r_and, r_or, r_not, r_vand, r_vor, r_vnot, r_chain, r_hkT, r_hkF, r_part, r_ok, r_sl, r_seq, r_skN, r_skR, r_skF, r_skB, r_skC, r_next, r_retS, r_rk, r_retF, r_rfk, r_drop, r_dk, r_asg, r_gk, r_gk2, gNm, r_tp, r_gs, r_qk, r_gs0, r_froz, r_frk, r_cmk, r_setI, r_stk, r_stk2, r_sti, r_pl, r_stj, r_aug, r_aug1, r_aug2, r_aug3, r_opN, r_par, r_prk, r_callN, r_tupRg, and_self, ixN0, ixN1, ixN2, r_peek, r_pk, r_pkI, r_pkB, r_pkS, r_pkN, r_tpeek, r_bk1, r_bk2, r_frz, r_fzk, r_own, owk, r_frkK, r_ownK, r_ixEd, r_ixEt, r_ixEl, r_inK, r_ninK, r_mk4, r_mk3, r_met, r_mk2, r_callM, r_mk2b, r_callM1, r_lenIs, r_callF, r_mat, r_mtk, r_mEnd, r_mCase, r_for, r_lk, r_items, r_itL, r_itT, r_rng, r_enum, r_zipM, zipM_ok, r_star, starL_ok, starT_ok, enumL_ok, enumT_ok, for_nil, r_lc, r_lck2, lc_nil, r_outM, r_outMn, r_outM1, r_outM1n, r_outD, r_outDf, r_outDn, r_outF, ixL0, ixL1, ixL2, ixT0, ixT1, ixT2, addI_ok, subI_ok, gtI_ok, geI_ok, leI_ok, ltI_ok, lenL_ok, lenT_ok, abs_ok, intB_ok, List.getElem?_cons_zero, List.getElem?_cons_succ, List.length_cons, List.length_nil, List.set_cons_zero, List.set_cons_succ, List.map_cons, List.map_nil, List.cons_append, List.nil_append, List.replicate_succ, List.replicate_zero, Nat.reduceAdd, Nat.reduceSub, Nat.reduceLT, Nat.reduceEqDiff, Option.bind_some, Option.bind_none, Option.map_some, Option.map_none, if_true, if_false, ite_true, ite_false, ↓reduceIte, Bool.not_true, Bool.not_false, rp, ix1, it, r_lck sz, wipeR, lc, backR, so, tl, hr2, e1, i0, m4, hr4, e2, eq_same]
end
/-! ### the great web -/
def greatL : List (Int × Option Int) := (List.range 118).map (fun h : Nat => ((h : Int) + 2, some ((h : Int) + 122))) ++ [(0, none), (1, none), (120, none), (121, none)]
def greatA : List (Int × Option Int) := [(0, none), (1, none)] ++ (List.range 118).map (fun h : Nat => ((h : Int) + 2, some ((h : Int) + 122))) ++ [(120, none), (121, none)]
theorem greatA_flat : (flatW greatA).Nodup := by decide +kernel
theorem greatA_in : ((flatW greatA).all fun x => decide (0 ≤ x ∧ x < 240)) = true := by decide +kernel
theorem greatA_len : (flatW greatA).length = 240 := by decide +kernel
theorem greatA_ok : (greatA.all fun w => decide (0 ≤ w.1 ∧ w.1 < 240) && (match w.2 with | some g => decide (0 ≤ g ∧ g < 240 ∧ w.1 < g) | none => true)) = true := by decide +kernel
theorem greatA_up : greatA.Pairwise fun v w => v.1 < w.1 := by decide +kernel
theorem great_fact {w : Int × Option Int} (h : w ∈ greatA) : (0 ≤ w.1 ∧ w.1 < 240) ∧ ∀ g, w.2 = some g → 0 ≤ g ∧ g < 240 ∧ w.1 < g := by
  have q := List.all_eq_true.mp greatA_ok w h
  rw [Bool.and_eq_true] at q
  refine ⟨of_decide_eq_true q.1, fun g e => ?_⟩
  have q2 := q.2
  rw [e] at q2
  exact of_decide_eq_true q2
theorem greatA_W : whole (4 * 60) greatA := by
  refine ⟨perm_of_nodup greatA_flat (fun x hx => ?_) greatA_len, greatA_up, fun w hw g e => ((great_fact hw).2 g e).2.2⟩
  have := of_decide_eq_true (List.all_eq_true.mp greatA_in x hx)
  show 0 ≤ x ∧ x < ((4 * 60 : Nat) : Int)
  omega
theorem greatA_web : WebOk 60 greatA := ⟨by decide, by decide +kernel, fun w hw => by have := (great_fact hw).1; omega, fun w hw g e => by have := (great_fact hw).2 g e; omega⟩
theorem great_sorted : sortedD [.list (greatL.map wayD)] = some (.list (greatA.map wayD)) := by
  obtain ⟨S, e, p, up⟩ := ways_sorted greatL
  have pa : greatL.Perm greatA := by
    unfold greatL greatA
    have h1 : ([(0, none), (1, none), (120, none), (121, none)] : List (Int × Option Int)) = [(0, none), (1, none)] ++ [(120, none), (121, none)] := rfl
    rw [h1, ← List.append_assoc]
    exact List.Perm.append_right _ List.perm_append_comm
  have : S = greatA := List.Perm.eq_of_pairwise (le := fun v w => v.1 ≤ w.1) (fun a b ha hb h1 h2 => by
    have ha' : a ∈ greatA := (p.trans pa).mem_iff.mp ha
    obtain ⟨i, hi, rfl⟩ := List.getElem_of_mem ha'
    obtain ⟨j, hj, rfl⟩ := List.getElem_of_mem hb
    have : i = j := way_one greatA_flat (List.getElem?_eq_getElem hi) (List.getElem?_eq_getElem hj) (.inl (Int.le_antisymm h1 h2)) (.inl rfl)
    subst this
    rfl) up (greatA_up.imp fun q => Int.le_of_lt q) (p.trans pa)
  rw [e, this]
theorem great_ok : g__law_great [.int 60] = some (webD 60 greatA) := by
  have m2 : mulI (.int 2) (.int 60) = some (.int 120) := mul_ok 2 7 (by decide) (by decide) (by decide) (by decide) (by decide) (by decide) (by decide)
  have hr : rng2 [.int 2, .int 120] = some (ups 2 118) := rfl
  have sz : Tw.sizeOk (ups 2 118).length = true := decide_eq_true (by rw [Tw.ups_len]; decide)
  have s1 : Tw.sizeOk 1 = true := rfl
  have s2 : Tw.sizeOk 2 = true := rfl
  have s4 : Tw.sizeOk 4 = true := rfl
  have lc := lc_map (ft := gNm 2) (tt := Tw.ret true) (fe := fTup (fCons (fVar 2) (fCons (fBin addD (fVar 2) (fBin mulI (Tw.ret (.int 2)) (fVar 0))) fNil))) (vs := [2]) (r0 := [.d (.int 60), .un, .un])
    (fun d => match d with
      | .int i => some (.tuple [.int i, .int (i + 120)])
      | _ => none) (ups 2 118) fun d hd => by
    unfold ups at hd
    obtain ⟨i, _, rfl⟩ := List.mem_map.mp hd
    refine ⟨[.d (.int 60), .un, .d (.int (2 + (i : Int)))], [.d (.int 60), .un, .d (.int (2 + (i : Int)))], rfl, rfl, fun h => (by cases h), fun e he => ⟨[.d (.int 60), .un, .d (.int (2 + (i : Int)))], ?_, rfl⟩⟩
    cases he
    simp -implicitDefEqProofs only [eq_self, r_thn, r_tk, r_tk0, r_ret, r_lift, r_lift0, r_var, r_vk, r_bin, r_un, r_nil, r_cons, r_tup, r_of, r_call, r_tst, r_kt, r_ikT, r_ikF, r_ite, r_if, r_ife, r_and, r_or, r_not, r_vand, r_vor, r_vnot, r_chain, r_hkT, r_hkF, r_part, r_ok, r_sl, r_seq, r_skN, r_skR, r_skF, r_skB, r_skC, r_next, r_retS, r_rk, r_retF, r_rfk, r_drop, r_dk, r_asg, r_gk, r_gk2, gNm, r_tp, r_gs, r_qk, r_gs0, r_froz, r_frk, r_cmk, r_setI, r_stk, r_stk2, r_sti, r_pl, r_stj, r_aug, r_aug1, r_aug2, r_aug3, r_opN, r_par, r_prk, r_callN, r_tupRg, and_self, ixN0, ixN1, ixN2, r_peek, r_pk, r_pkI, r_pkB, r_pkS, r_pkN, r_tpeek, r_bk1, r_bk2, r_frz, r_fzk, r_own, owk, r_frkK, r_ownK, r_ixEd, r_ixEt, r_ixEl, r_inK, r_ninK, r_mk4, r_mk3, r_met, r_mk2, r_callM, r_mk2b, r_callM1, r_lenIs, r_callF, r_mat, r_mtk, r_mEnd, r_mCase, r_for, r_lk, r_items, r_itL, r_itT, r_rng, r_enum, r_zipM, zipM_ok, r_star, starL_ok, starT_ok, enumL_ok, enumT_ok, for_nil, r_lc, r_lck2, lc_nil, r_outM, r_outMn, r_outM1, r_outM1n, r_outD, r_outDf, r_outDn, r_outF, ixL0, ixL1, ixL2, ixT0, ixT1, ixT2, addI_ok, subI_ok, gtI_ok, geI_ok, leI_ok, ltI_ok, lenL_ok, lenT_ok, abs_ok, intB_ok, List.getElem?_cons_zero, List.getElem?_cons_succ, List.length_cons, List.length_nil, List.set_cons_zero, List.set_cons_succ, List.map_cons, List.map_nil, List.cons_append, List.nil_append, List.replicate_succ, List.replicate_zero, Nat.reduceAdd, Nat.reduceSub, Nat.reduceLT, Nat.reduceEqDiff, Option.bind_some, Option.bind_none, Option.map_some, Option.map_none, if_true, if_false, ite_true, ite_false, ↓reduceIte, Bool.not_true, Bool.not_false, m2, addI2, s2]
  have el : (ups 2 118).filterMap (fun d => match d with
      | .int i => some (.tuple [.int i, .int (i + 120)])
      | _ => none) = ((List.range 118).map (fun h : Nat => ((h : Int) + 2, some ((h : Int) + 122)))).map wayD := by
    unfold ups
    rw [List.filterMap_map, List.map_map, ← List.filterMap_eq_map]
    congr 1
    funext i
    show some (PyData.tuple [.int (2 + (i : Int)), .int (2 + (i : Int) + 120)]) = some (.tuple [.int ((i : Int) + 2), .int ((i : Int) + 122)])
    rw [show (2 : Int) + (i : Int) + 120 = (i : Int) + 122 by omega, show (2 : Int) + (i : Int) = (i : Int) + 2 by omega]
  rw [el] at lc
  have ad : addD (.list (((List.range 118).map (fun h : Nat => ((h : Int) + 2, some ((h : Int) + 122)))).map wayD)) (.list [.tuple [.int 0], .tuple [.int 1], .tuple [.int 120], .tuple [.int (120 + 1)]]) = some (.list (greatL.map wayD)) := by
    unfold greatL
    rw [List.map_append]
    rfl
  have so := great_sorted
  have tl : tupleD [.list (greatA.map wayD)] = some (.tuple (greatA.map wayD)) := rfl
  unfold g__law_great runP f__law_great
  simp -implicitDefEqProofs only [eq_self, r_thn, r_tk, r_tk0, r_ret, r_lift, r_lift0, r_var, r_vk, r_bin, r_un, r_nil, r_cons, r_tup, r_of, r_call, r_tst, r_kt, r_ikT, r_ikF, r_ite, r_if, r_ife, r_and, r_or, r_not, r_vand, r_vor, r_vnot, r_chain, r_hkT, r_hkF, r_part, r_ok, r_sl, r_seq, r_skN, r_skR, r_skF, r_skB, r_skC, r_next, r_retS, r_rk, r_retF, r_rfk, r_drop, r_dk, r_asg, r_gk, r_gk2, gNm, r_tp, r_gs, r_qk, r_gs0, r_froz, r_frk, r_cmk, r_setI, r_stk, r_stk2, r_sti, r_pl, r_stj, r_aug, r_aug1, r_aug2, r_aug3, r_opN, r_par, r_prk, r_callN, r_tupRg, and_self, ixN0, ixN1, ixN2, r_peek, r_pk, r_pkI, r_pkB, r_pkS, r_pkN, r_tpeek, r_bk1, r_bk2, r_frz, r_fzk, r_own, owk, r_frkK, r_ownK, r_ixEd, r_ixEt, r_ixEl, r_inK, r_ninK, r_mk4, r_mk3, r_met, r_mk2, r_callM, r_mk2b, r_callM1, r_lenIs, r_callF, r_mat, r_mtk, r_mEnd, r_mCase, r_for, r_lk, r_items, r_itL, r_itT, r_rng, r_enum, r_zipM, zipM_ok, r_star, starL_ok, starT_ok, enumL_ok, enumT_ok, for_nil, r_lc, r_lck2, lc_nil, r_outM, r_outMn, r_outM1, r_outM1n, r_outD, r_outDf, r_outDn, r_outF, ixL0, ixL1, ixL2, ixT0, ixT1, ixT2, addI_ok, subI_ok, gtI_ok, geI_ok, leI_ok, ltI_ok, lenL_ok, lenT_ok, abs_ok, intB_ok, List.getElem?_cons_zero, List.getElem?_cons_succ, List.length_cons, List.length_nil, List.set_cons_zero, List.set_cons_succ, List.map_cons, List.map_nil, List.cons_append, List.nil_append, List.replicate_succ, List.replicate_zero, Nat.reduceAdd, Nat.reduceSub, Nat.reduceLT, Nat.reduceEqDiff, Option.bind_some, Option.bind_none, Option.map_some, Option.map_none, if_true, if_false, ite_true, ite_false, ↓reduceIte, Bool.not_true, Bool.not_false, m2, hr, r_lck sz, wipeR, lc, backR, addI2, s1, s2, s4, ad, so, tl]
  rfl
theorem ans (ns : List Int) (hn : ns.length ≤ 63) : g_law [.list (ns.map .int)] = some (.bool true) := by
  obtain ⟨n, en, hn2⟩ : ∃ n : Nat, (if (if (63 : Int) < ((ns.map PyData.int).length : Int) then (63 : Int) else ((ns.map PyData.int).length : Int)) > 2 then (if (63 : Int) < ((ns.map PyData.int).length : Int) then (63 : Int) else ((ns.map PyData.int).length : Int)) else 2) = (n : Int) ∧ n ≤ 63 := by
    have c : ¬ ((63 : Int) < (ns.length : Int)) := by omega
    rw [List.length_map]
    simp only [if_neg c]
    by_cases h : (ns.length : Int) > 2
    · rw [if_pos h]
      exact ⟨ns.length, rfl, hn⟩
    · rw [if_neg h]
      exact ⟨2, rfl, by decide⟩
  have mx : ∀ i j : Int, maxD [.int i, .int j] = some (.int (if j > i then j else i)) := fun _ _ => rfl
  have mn : ∀ i j : Int, minD [.int i, .int j] = some (.int (if j < i then j else i)) := fun _ _ => rfl
  have hr := rng_ok (n := n) (by omega)
  obtain ⟨ρ, e, s1', s2', rfl⟩ := for_all (ft := gNm 1) (fb := b1_law) (fun j ρ => ∃ s1 s2, ρ = [.d (.list (ns.map .int)), s1, s2]) (ups 0 n) 0 [.d (.list (ns.map .int)), .un, .un] ⟨_, _, rfl⟩ fun j d ρ hj ⟨a, b, eρ⟩ => by
    subst eρ
    have hjn := (List.getElem?_eq_some_iff.mp hj).1
    rw [Tw.ups_len] at hjn
    have ed := Tw.ups_get hj
    rw [Int.zero_add] at ed
    subst ed
    obtain ⟨ms, e1, P⟩ := pot_ok (ns := ns) (k := j) (by omega)
    obtain ⟨m, Bs, S, ms1, e2, D, _⟩ := world_ok (most := 8) P (by decide) (by decide)
    have e2' : g__law_world ms [.int 8] = some (.tuple [webD m S, .tuple (paintD Bs.flatten S)], ms1) := e2
    have hm : m ≤ 8 := D.le
    have r := right_ok D.whole (D.web (by decide)) (by omega : m ≤ 60)
    have i0 : ixD (.tuple [webD m S, .tuple (paintD Bs.flatten S)]) (.int 0) = some (webD m S) := rfl
    refine ⟨[.d (.list (ns.map .int)), .d (.int (j : Int)), b], [.d (.list (ns.map .int)), .d (.int (j : Int)), .m ms1], rfl, ?_, .d (.int (j : Int)), .m ms1, rfl⟩
    unfold b1_law
    simp -implicitDefEqProofs only [eq_self, r_thn, r_tk, r_tk0, r_ret, r_lift, r_lift0, r_var, r_vk, r_bin, r_un, r_nil, r_cons, r_tup, r_of, r_call, r_tst, r_kt, r_ikT, r_ikF, r_ite, r_if, r_ife, r_and, r_or, r_not, r_vand, r_vor, r_vnot, r_chain, r_hkT, r_hkF, r_part, r_ok, r_sl, r_seq, r_skN, r_skR, r_skF, r_skB, r_skC, r_next, r_retS, r_rk, r_retF, r_rfk, r_drop, r_dk, r_asg, r_gk, r_gk2, gNm, r_tp, r_gs, r_qk, r_gs0, r_froz, r_frk, r_cmk, r_setI, r_stk, r_stk2, r_sti, r_pl, r_stj, r_aug, r_aug1, r_aug2, r_aug3, r_opN, r_par, r_prk, r_callN, r_tupRg, and_self, ixN0, ixN1, ixN2, r_peek, r_pk, r_pkI, r_pkB, r_pkS, r_pkN, r_tpeek, r_bk1, r_bk2, r_frz, r_fzk, r_own, owk, r_frkK, r_ownK, r_ixEd, r_ixEt, r_ixEl, r_inK, r_ninK, r_mk4, r_mk3, r_met, r_mk2, r_callM, r_mk2b, r_callM1, r_lenIs, r_callF, r_mat, r_mtk, r_mEnd, r_mCase, r_for, r_lk, r_items, r_itL, r_itT, r_rng, r_enum, r_zipM, zipM_ok, r_star, starL_ok, starT_ok, enumL_ok, enumT_ok, for_nil, r_lc, r_lck2, lc_nil, r_outM, r_outMn, r_outM1, r_outM1n, r_outD, r_outDf, r_outDn, r_outF, ixL0, ixL1, ixL2, ixT0, ixT1, ixT2, addI_ok, subI_ok, gtI_ok, geI_ok, leI_ok, ltI_ok, lenL_ok, lenT_ok, abs_ok, intB_ok, List.getElem?_cons_zero, List.getElem?_cons_succ, List.length_cons, List.length_nil, List.set_cons_zero, List.set_cons_succ, List.map_cons, List.map_nil, List.cons_append, List.nil_append, List.replicate_succ, List.replicate_zero, Nat.reduceAdd, Nat.reduceSub, Nat.reduceLT, Nat.reduceEqDiff, Option.bind_some, Option.bind_none, Option.map_some, Option.map_none, if_true, if_false, ite_true, ite_false, ↓reduceIte, Bool.not_true, Bool.not_false, e1, e2', i0, r]
  have g := great_ok
  have r1 := right_ok greatA_W greatA_web (by decide)
  have r2 : g__law_right [.tuple [.int 0, .tuple []]] = some (.bool true) := right_ok (m := 0) (V := []) ⟨List.Perm.nil, List.Pairwise.nil, fun w hw => nomatch hw⟩ ⟨by decide, by decide, fun w hw => (by cases hw), fun w hw => (by cases hw)⟩ (by decide)
  have s0 : Tw.sizeOk 0 = true := rfl
  have s2 : Tw.sizeOk 2 = true := rfl
  unfold g_law runP f_law
  simp -implicitDefEqProofs only [eq_self, r_thn, r_tk, r_tk0, r_ret, r_lift, r_lift0, r_var, r_vk, r_bin, r_un, r_nil, r_cons, r_tup, r_of, r_call, r_tst, r_kt, r_ikT, r_ikF, r_ite, r_if, r_ife, r_and, r_or, r_not, r_vand, r_vor, r_vnot, r_chain, r_hkT, r_hkF, r_part, r_ok, r_sl, r_seq, r_skN, r_skR, r_skF, r_skB, r_skC, r_next, r_retS, r_rk, r_retF, r_rfk, r_drop, r_dk, r_asg, r_gk, r_gk2, gNm, r_tp, r_gs, r_qk, r_gs0, r_froz, r_frk, r_cmk, r_setI, r_stk, r_stk2, r_sti, r_pl, r_stj, r_aug, r_aug1, r_aug2, r_aug3, r_opN, r_par, r_prk, r_callN, r_tupRg, and_self, ixN0, ixN1, ixN2, r_peek, r_pk, r_pkI, r_pkB, r_pkS, r_pkN, r_tpeek, r_bk1, r_bk2, r_frz, r_fzk, r_own, owk, r_frkK, r_ownK, r_ixEd, r_ixEt, r_ixEl, r_inK, r_ninK, r_mk4, r_mk3, r_met, r_mk2, r_callM, r_mk2b, r_callM1, r_lenIs, r_callF, r_mat, r_mtk, r_mEnd, r_mCase, r_for, r_lk, r_items, r_itL, r_itT, r_rng, r_enum, r_zipM, zipM_ok, r_star, starL_ok, starT_ok, enumL_ok, enumT_ok, for_nil, r_lc, r_lck2, lc_nil, r_outM, r_outMn, r_outM1, r_outM1n, r_outD, r_outDf, r_outDn, r_outF, ixL0, ixL1, ixL2, ixT0, ixT1, ixT2, addI_ok, subI_ok, gtI_ok, geI_ok, leI_ok, ltI_ok, lenL_ok, lenT_ok, abs_ok, intB_ok, List.getElem?_cons_zero, List.getElem?_cons_succ, List.length_cons, List.length_nil, List.set_cons_zero, List.set_cons_succ, List.map_cons, List.map_nil, List.cons_append, List.nil_append, List.replicate_succ, List.replicate_zero, Nat.reduceAdd, Nat.reduceSub, Nat.reduceLT, Nat.reduceEqDiff, Option.bind_some, Option.bind_none, Option.map_some, Option.map_none, if_true, if_false, ite_true, ite_false, ↓reduceIte, Bool.not_true, Bool.not_false, mx, mn, en, hr, e, g, r1, s0, s2, r2]
end Lw

namespace Lw
open PySem PySem.Spec PyProof.Rows L2 Tw
theorem facts {l : PySem.W.OpenLaw} {w : World} {K : PySem.W.Frag} {h : Heap} {mg : Str → Option Value} {fa : Addr} (X : K.In h) (G : h.Ns mainGlobals mg) (hfa : mg "law" = some (.ref fa))
    {f__law_pot_ : Addr} {od__law_pot an__law_pot : Option Addr} {sl__law_pot : Array (Option Value)} {oc__law_pot kV__law_pot dc__law_pot pm__law_pot cd__law_pot ct__law_pot : Value}
    {f__law_number_ : Addr} {od__law_number an__law_number : Option Addr} {sl__law_number : Array (Option Value)} {oc__law_number kV__law_number dc__law_number pm__law_number cd__law_number ct__law_number : Value}
    {f_are_all_met_ : Addr} {od_are_all_met an_are_all_met : Option Addr} {sl_are_all_met : Array (Option Value)} {oc_are_all_met kV_are_all_met dc_are_all_met pm_are_all_met cd_are_all_met ct_are_all_met : Value}
    {f_hands_across_ : Addr} {od_hands_across an_hands_across : Option Addr} {sl_hands_across : Array (Option Value)} {oc_hands_across kV_hands_across dc_hands_across pm_hands_across cd_hands_across ct_hands_across : Value}
    {f_need_web_ : Addr} {od_need_web an_need_web : Option Addr} {sl_need_web : Array (Option Value)} {oc_need_web kV_need_web dc_need_web pm_need_web cd_need_web ct_need_web : Value}
    {f_is_below_ : Addr} {od_is_below an_is_below : Option Addr} {sl_is_below : Array (Option Value)} {oc_is_below kV_is_below dc_is_below pm_is_below cd_is_below ct_is_below : Value}
    {f_across_ : Addr} {od_across an_across : Option Addr} {sl_across : Array (Option Value)} {oc_across kV_across dc_across pm_across cd_across ct_across : Value}
    {f_need_hand_ : Addr} {od_need_hand an_need_hand : Option Addr} {sl_need_hand : Array (Option Value)} {oc_need_hand kV_need_hand dc_need_hand pm_need_hand cd_need_hand ct_need_hand : Value}
    {f_way_number_ : Addr} {od_way_number an_way_number : Option Addr} {sl_way_number : Array (Option Value)} {oc_way_number kV_way_number dc_way_number pm_way_number cd_way_number ct_way_number : Value}
    {f_way_of_ : Addr} {od_way_of an_way_of : Option Addr} {sl_way_of : Array (Option Value)} {oc_way_of kV_way_of dc_way_of pm_way_of cd_way_of ct_way_of : Value}
    {f__law_hand_right_ : Addr} {od__law_hand_right an__law_hand_right : Option Addr} {sl__law_hand_right : Array (Option Value)} {oc__law_hand_right kV__law_hand_right dc__law_hand_right pm__law_hand_right cd__law_hand_right ct__law_hand_right : Value}
    {f_end_hands_ : Addr} {od_end_hands an_end_hands : Option Addr} {sl_end_hands : Array (Option Value)} {oc_end_hands kV_end_hands dc_end_hands pm_end_hands cd_end_hands ct_end_hands : Value}
    {f_ends_of_ : Addr} {od_ends_of an_ends_of : Option Addr} {sl_ends_of : Array (Option Value)} {oc_ends_of kV_ends_of dc_ends_of pm_ends_of cd_ends_of ct_ends_of : Value}
    {f_need_number_ : Addr} {od_need_number an_need_number : Option Addr} {sl_need_number : Array (Option Value)} {oc_need_number kV_need_number dc_need_number pm_need_number cd_need_number ct_need_number : Value}
    {f_ways_at_ : Addr} {od_ways_at an_ways_at : Option Addr} {sl_ways_at : Array (Option Value)} {oc_ways_at kV_ways_at dc_ways_at pm_ways_at cd_ways_at ct_ways_at : Value}
    {f__law_right_ : Addr} {od__law_right an__law_right : Option Addr} {sl__law_right : Array (Option Value)} {oc__law_right kV__law_right dc__law_right pm__law_right cd__law_right ct__law_right : Value}
    {f__law_great_ : Addr} {od__law_great an__law_great : Option Addr} {sl__law_great : Array (Option Value)} {oc__law_great kV__law_great dc__law_great pm__law_great cd__law_great ct__law_great : Value}
    {f__law_take_ : Addr} {od__law_take an__law_take : Option Addr} {sl__law_take : Array (Option Value)} {oc__law_take kV__law_take dc__law_take pm__law_take cd__law_take ct__law_take : Value}
    {f__law_world_ : Addr} {od__law_world an__law_world : Option Addr} {sl__law_world : Array (Option Value)} {oc__law_world kV__law_world dc__law_world pm__law_world cd__law_world ct__law_world : Value}
    {f_law_ : Addr} {od_law an_law : Option Addr} {sl_law : Array (Option Value)} {oc_law kV_law dc_law pm_law cd_law ct_law : Value}
    {t_HANDS : Nat}
    {t_MOST_POSTS : Nat}
    (a__law_pot : PySem.W.nsIn K mainGlobals "_law_pot" = some (some (.ref f__law_pot_)))
    (l__law_pot : K.lookup f__law_pot_ = some ⟨oc__law_pot, od__law_pot, .func (PySem.W.fnOf "_law_pot" "_law_pot" (defArgs s__law_pot) (defBody s__law_pot) (defScope s__law_pot) .none kV__law_pot dc__law_pot pm__law_pot an__law_pot cd__law_pot ct__law_pot), sl__law_pot⟩)
    (c__law_pot : PySem.W.codeIn K cd__law_pot "_law_pot" = true)
    (k__law_pot : PySem.W.keepIn K (.ref f__law_pot_) = true)
    (a__law_number : PySem.W.nsIn K mainGlobals "_law_number" = some (some (.ref f__law_number_)))
    (l__law_number : K.lookup f__law_number_ = some ⟨oc__law_number, od__law_number, .func (PySem.W.fnOf "_law_number" "_law_number" (defArgs s__law_number) (defBody s__law_number) (defScope s__law_number) .none kV__law_number dc__law_number pm__law_number an__law_number cd__law_number ct__law_number), sl__law_number⟩)
    (c__law_number : PySem.W.codeIn K cd__law_number "_law_number" = true)
    (k__law_number : PySem.W.keepIn K (.ref f__law_number_) = true)
    (a_are_all_met : PySem.W.nsIn K mainGlobals "are_all_met" = some (some (.ref f_are_all_met_)))
    (l_are_all_met : K.lookup f_are_all_met_ = some ⟨oc_are_all_met, od_are_all_met, .func (PySem.W.fnOf "are_all_met" "are_all_met" (defArgs s_are_all_met) (defBody s_are_all_met) (defScope s_are_all_met) .none kV_are_all_met dc_are_all_met pm_are_all_met an_are_all_met cd_are_all_met ct_are_all_met), sl_are_all_met⟩)
    (c_are_all_met : PySem.W.codeIn K cd_are_all_met "are_all_met" = true)
    (k_are_all_met : PySem.W.keepIn K (.ref f_are_all_met_) = true)
    (a_hands_across : PySem.W.nsIn K mainGlobals "hands_across" = some (some (.ref f_hands_across_)))
    (l_hands_across : K.lookup f_hands_across_ = some ⟨oc_hands_across, od_hands_across, .func (PySem.W.fnOf "hands_across" "hands_across" (defArgs s_hands_across) (defBody s_hands_across) (defScope s_hands_across) .none kV_hands_across dc_hands_across pm_hands_across an_hands_across cd_hands_across ct_hands_across), sl_hands_across⟩)
    (c_hands_across : PySem.W.codeIn K cd_hands_across "hands_across" = true)
    (k_hands_across : PySem.W.keepIn K (.ref f_hands_across_) = true)
    (a_need_web : PySem.W.nsIn K mainGlobals "need_web" = some (some (.ref f_need_web_)))
    (l_need_web : K.lookup f_need_web_ = some ⟨oc_need_web, od_need_web, .func (PySem.W.fnOf "need_web" "need_web" (defArgs s_need_web) (defBody s_need_web) (defScope s_need_web) .none kV_need_web dc_need_web pm_need_web an_need_web cd_need_web ct_need_web), sl_need_web⟩)
    (c_need_web : PySem.W.codeIn K cd_need_web "need_web" = true)
    (k_need_web : PySem.W.keepIn K (.ref f_need_web_) = true)
    (a_is_below : PySem.W.nsIn K mainGlobals "is_below" = some (some (.ref f_is_below_)))
    (l_is_below : K.lookup f_is_below_ = some ⟨oc_is_below, od_is_below, .func (PySem.W.fnOf "is_below" "is_below" (defArgs s_is_below) (defBody s_is_below) (defScope s_is_below) .none kV_is_below dc_is_below pm_is_below an_is_below cd_is_below ct_is_below), sl_is_below⟩)
    (c_is_below : PySem.W.codeIn K cd_is_below "is_below" = true)
    (k_is_below : PySem.W.keepIn K (.ref f_is_below_) = true)
    (a_across : PySem.W.nsIn K mainGlobals "across" = some (some (.ref f_across_)))
    (l_across : K.lookup f_across_ = some ⟨oc_across, od_across, .func (PySem.W.fnOf "across" "across" (defArgs s_across) (defBody s_across) (defScope s_across) .none kV_across dc_across pm_across an_across cd_across ct_across), sl_across⟩)
    (c_across : PySem.W.codeIn K cd_across "across" = true)
    (k_across : PySem.W.keepIn K (.ref f_across_) = true)
    (a_need_hand : PySem.W.nsIn K mainGlobals "need_hand" = some (some (.ref f_need_hand_)))
    (l_need_hand : K.lookup f_need_hand_ = some ⟨oc_need_hand, od_need_hand, .func (PySem.W.fnOf "need_hand" "need_hand" (defArgs s_need_hand) (defBody s_need_hand) (defScope s_need_hand) .none kV_need_hand dc_need_hand pm_need_hand an_need_hand cd_need_hand ct_need_hand), sl_need_hand⟩)
    (c_need_hand : PySem.W.codeIn K cd_need_hand "need_hand" = true)
    (k_need_hand : PySem.W.keepIn K (.ref f_need_hand_) = true)
    (a_way_number : PySem.W.nsIn K mainGlobals "way_number" = some (some (.ref f_way_number_)))
    (l_way_number : K.lookup f_way_number_ = some ⟨oc_way_number, od_way_number, .func (PySem.W.fnOf "way_number" "way_number" (defArgs s_way_number) (defBody s_way_number) (defScope s_way_number) .none kV_way_number dc_way_number pm_way_number an_way_number cd_way_number ct_way_number), sl_way_number⟩)
    (c_way_number : PySem.W.codeIn K cd_way_number "way_number" = true)
    (k_way_number : PySem.W.keepIn K (.ref f_way_number_) = true)
    (a_way_of : PySem.W.nsIn K mainGlobals "way_of" = some (some (.ref f_way_of_)))
    (l_way_of : K.lookup f_way_of_ = some ⟨oc_way_of, od_way_of, .func (PySem.W.fnOf "way_of" "way_of" (defArgs s_way_of) (defBody s_way_of) (defScope s_way_of) .none kV_way_of dc_way_of pm_way_of an_way_of cd_way_of ct_way_of), sl_way_of⟩)
    (c_way_of : PySem.W.codeIn K cd_way_of "way_of" = true)
    (k_way_of : PySem.W.keepIn K (.ref f_way_of_) = true)
    (a__law_hand_right : PySem.W.nsIn K mainGlobals "_law_hand_right" = some (some (.ref f__law_hand_right_)))
    (l__law_hand_right : K.lookup f__law_hand_right_ = some ⟨oc__law_hand_right, od__law_hand_right, .func (PySem.W.fnOf "_law_hand_right" "_law_hand_right" (defArgs s__law_hand_right) (defBody s__law_hand_right) (defScope s__law_hand_right) .none kV__law_hand_right dc__law_hand_right pm__law_hand_right an__law_hand_right cd__law_hand_right ct__law_hand_right), sl__law_hand_right⟩)
    (c__law_hand_right : PySem.W.codeIn K cd__law_hand_right "_law_hand_right" = true)
    (k__law_hand_right : PySem.W.keepIn K (.ref f__law_hand_right_) = true)
    (a_end_hands : PySem.W.nsIn K mainGlobals "end_hands" = some (some (.ref f_end_hands_)))
    (l_end_hands : K.lookup f_end_hands_ = some ⟨oc_end_hands, od_end_hands, .func (PySem.W.fnOf "end_hands" "end_hands" (defArgs s_end_hands) (defBody s_end_hands) (defScope s_end_hands) .none kV_end_hands dc_end_hands pm_end_hands an_end_hands cd_end_hands ct_end_hands), sl_end_hands⟩)
    (c_end_hands : PySem.W.codeIn K cd_end_hands "end_hands" = true)
    (k_end_hands : PySem.W.keepIn K (.ref f_end_hands_) = true)
    (a_ends_of : PySem.W.nsIn K mainGlobals "ends_of" = some (some (.ref f_ends_of_)))
    (l_ends_of : K.lookup f_ends_of_ = some ⟨oc_ends_of, od_ends_of, .func (PySem.W.fnOf "ends_of" "ends_of" (defArgs s_ends_of) (defBody s_ends_of) (defScope s_ends_of) .none kV_ends_of dc_ends_of pm_ends_of an_ends_of cd_ends_of ct_ends_of), sl_ends_of⟩)
    (c_ends_of : PySem.W.codeIn K cd_ends_of "ends_of" = true)
    (k_ends_of : PySem.W.keepIn K (.ref f_ends_of_) = true)
    (a_need_number : PySem.W.nsIn K mainGlobals "need_number" = some (some (.ref f_need_number_)))
    (l_need_number : K.lookup f_need_number_ = some ⟨oc_need_number, od_need_number, .func (PySem.W.fnOf "need_number" "need_number" (defArgs s_need_number) (defBody s_need_number) (defScope s_need_number) .none kV_need_number dc_need_number pm_need_number an_need_number cd_need_number ct_need_number), sl_need_number⟩)
    (c_need_number : PySem.W.codeIn K cd_need_number "need_number" = true)
    (k_need_number : PySem.W.keepIn K (.ref f_need_number_) = true)
    (a_ways_at : PySem.W.nsIn K mainGlobals "ways_at" = some (some (.ref f_ways_at_)))
    (l_ways_at : K.lookup f_ways_at_ = some ⟨oc_ways_at, od_ways_at, .func (PySem.W.fnOf "ways_at" "ways_at" (defArgs s_ways_at) (defBody s_ways_at) (defScope s_ways_at) .none kV_ways_at dc_ways_at pm_ways_at an_ways_at cd_ways_at ct_ways_at), sl_ways_at⟩)
    (c_ways_at : PySem.W.codeIn K cd_ways_at "ways_at" = true)
    (k_ways_at : PySem.W.keepIn K (.ref f_ways_at_) = true)
    (a__law_right : PySem.W.nsIn K mainGlobals "_law_right" = some (some (.ref f__law_right_)))
    (l__law_right : K.lookup f__law_right_ = some ⟨oc__law_right, od__law_right, .func (PySem.W.fnOf "_law_right" "_law_right" (defArgs s__law_right) (defBody s__law_right) (defScope s__law_right) .none kV__law_right dc__law_right pm__law_right an__law_right cd__law_right ct__law_right), sl__law_right⟩)
    (c__law_right : PySem.W.codeIn K cd__law_right "_law_right" = true)
    (k__law_right : PySem.W.keepIn K (.ref f__law_right_) = true)
    (a__law_great : PySem.W.nsIn K mainGlobals "_law_great" = some (some (.ref f__law_great_)))
    (l__law_great : K.lookup f__law_great_ = some ⟨oc__law_great, od__law_great, .func (PySem.W.fnOf "_law_great" "_law_great" (defArgs s__law_great) (defBody s__law_great) (defScope s__law_great) .none kV__law_great dc__law_great pm__law_great an__law_great cd__law_great ct__law_great), sl__law_great⟩)
    (c__law_great : PySem.W.codeIn K cd__law_great "_law_great" = true)
    (k__law_great : PySem.W.keepIn K (.ref f__law_great_) = true)
    (a__law_take : PySem.W.nsIn K mainGlobals "_law_take" = some (some (.ref f__law_take_)))
    (l__law_take : K.lookup f__law_take_ = some ⟨oc__law_take, od__law_take, .func (PySem.W.fnOf "_law_take" "_law_take" (defArgs s__law_take) (defBody s__law_take) (defScope s__law_take) .none kV__law_take dc__law_take pm__law_take an__law_take cd__law_take ct__law_take), sl__law_take⟩)
    (c__law_take : PySem.W.codeIn K cd__law_take "_law_take" = true)
    (k__law_take : PySem.W.keepIn K (.ref f__law_take_) = true)
    (a__law_world : PySem.W.nsIn K mainGlobals "_law_world" = some (some (.ref f__law_world_)))
    (l__law_world : K.lookup f__law_world_ = some ⟨oc__law_world, od__law_world, .func (PySem.W.fnOf "_law_world" "_law_world" (defArgs s__law_world) (defBody s__law_world) (defScope s__law_world) .none kV__law_world dc__law_world pm__law_world an__law_world cd__law_world ct__law_world), sl__law_world⟩)
    (c__law_world : PySem.W.codeIn K cd__law_world "_law_world" = true)
    (k__law_world : PySem.W.keepIn K (.ref f__law_world_) = true)
    (a_law : PySem.W.nsIn K mainGlobals "law" = some (some (.ref f_law_)))
    (l_law : K.lookup f_law_ = some ⟨oc_law, od_law, .func (PySem.W.fnOf "law" "law" (defArgs s_law) (defBody s_law) (defScope s_law) .none kV_law dc_law pm_law an_law cd_law ct_law), sl_law⟩)
    (c_law : PySem.W.codeIn K cd_law "law" = true)
    (k_law : PySem.W.keepIn K (.ref f_law_) = true)
    (z_abs : PySem.W.nsIn K mainGlobals "abs" = some none)
    (z_all : PySem.W.nsIn K mainGlobals "all" = some none)
    (z_bool : PySem.W.nsIn K mainGlobals "bool" = some none)
    (z_enumerate : PySem.W.nsIn K mainGlobals "enumerate" = some none)
    (z_int : PySem.W.nsIn K mainGlobals "int" = some none)
    (z_isinstance : PySem.W.nsIn K mainGlobals "isinstance" = some none)
    (z_len : PySem.W.nsIn K mainGlobals "len" = some none)
    (z_max : PySem.W.nsIn K mainGlobals "max" = some none)
    (z_min : PySem.W.nsIn K mainGlobals "min" = some none)
    (z_range : PySem.W.nsIn K mainGlobals "range" = some none)
    (z_repr : PySem.W.nsIn K mainGlobals "repr" = some none)
    (z_sorted : PySem.W.nsIn K mainGlobals "sorted" = some none)
    (z_tuple : PySem.W.nsIn K mainGlobals "tuple" = some none)
    (q_HANDS : PySem.W.nsIn K mainGlobals "HANDS" = some (some (.int 4 t_HANDS)))
    (q_MOST_POSTS : PySem.W.nsIn K mainGlobals "MOST_POSTS" = some (some (.int 60 t_MOST_POSTS)))
    : ∃ fd : FuncData, (∀ (s : Shared) (u : Value), BindsTo s fd ⟨[u], []⟩ [("_law_script", u)]) ∧ ∀ base : Heap, K.In base → base.Ns mainGlobals mg → FnG l.prog w K mg base 7 fa fd ["_law_script"] (spP K 1 g_law) := by
  have e := hfa.symm.trans (PySem.W.mg_of X G a_law)
  cases e
  have T : Tops K mg := ⟨PySem.W.mg_none_of X G z_abs, PySem.W.mg_none_of X G z_all, PySem.W.mg_none_of X G z_bool, PySem.W.mg_none_of X G z_enumerate, PySem.W.mg_none_of X G z_int, PySem.W.mg_none_of X G z_isinstance, PySem.W.mg_none_of X G z_len, PySem.W.mg_none_of X G z_max, PySem.W.mg_none_of X G z_min, PySem.W.mg_none_of X G z_range, PySem.W.mg_none_of X G z_repr, PySem.W.mg_none_of X G z_sorted, PySem.W.mg_none_of X G z_tuple, ⟨_, PySem.W.mg_of X G q_HANDS⟩, ⟨_, PySem.W.mg_of X G q_MOST_POSTS⟩⟩
  refine ⟨PySem.W.fnOf "law" "law" (defArgs s_law) (defBody s_law) (defScope s_law) .none kV_law dc_law pm_law an_law cd_law ct_law, fun s u => ?_, fun base _ _ => ?_⟩
  rotate_left
  · have C__law_pot := mk__law_pot (Pr := l.prog) (w := w) (base := base) T  (fun_mk (st := s__law_pot) l__law_pot c__law_pot k__law_pot) (PySem.W.mg_of X G a__law_pot)
    have C__law_number := mk__law_number (Pr := l.prog) (w := w) (base := base) T  (fun_mk (st := s__law_number) l__law_number c__law_number k__law_number) (PySem.W.mg_of X G a__law_number)
    have C_are_all_met := mk_are_all_met (Pr := l.prog) (w := w) (base := base) T  (fun_mk (st := s_are_all_met) l_are_all_met c_are_all_met k_are_all_met) (PySem.W.mg_of X G a_are_all_met)
    have C_hands_across := mk_hands_across (Pr := l.prog) (w := w) (base := base) T C_are_all_met (fun_mk (st := s_hands_across) l_hands_across c_hands_across k_hands_across) (PySem.W.mg_of X G a_hands_across)
    have C_need_web := mk_need_web (Pr := l.prog) (w := w) (base := base) T C_hands_across (fun_mk (st := s_need_web) l_need_web c_need_web k_need_web) (PySem.W.mg_of X G a_need_web)
    have C_is_below := mk_is_below (Pr := l.prog) (w := w) (base := base) T  (fun_mk (st := s_is_below) l_is_below c_is_below k_is_below) (PySem.W.mg_of X G a_is_below)
    have C_across := mk_across (Pr := l.prog) (w := w) (base := base) T C_need_web C_is_below (fun_mk (st := s_across) l_across c_across k_across) (PySem.W.mg_of X G a_across)
    have C_need_hand := mk_need_hand (Pr := l.prog) (w := w) (base := base) T C_is_below (fun_mk (st := s_need_hand) l_need_hand c_need_hand k_need_hand) (PySem.W.mg_of X G a_need_hand)
    have C_way_number := mk_way_number (Pr := l.prog) (w := w) (base := base) T  (fun_mk (st := s_way_number) l_way_number c_way_number k_way_number) (PySem.W.mg_of X G a_way_number)
    have C_way_of := mk_way_of (Pr := l.prog) (w := w) (base := base) T C_need_web C_need_hand C_way_number (fun_mk (st := s_way_of) l_way_of c_way_of k_way_of) (PySem.W.mg_of X G a_way_of)
    have C__law_hand_right := mk__law_hand_right (Pr := l.prog) (w := w) (base := base) T C__law_number C_across C_way_of (fun_mk (st := s__law_hand_right) l__law_hand_right c__law_hand_right k__law_hand_right) (PySem.W.mg_of X G a__law_hand_right)
    have C_end_hands := mk_end_hands (Pr := l.prog) (w := w) (base := base) T  (fun_mk (st := s_end_hands) l_end_hands c_end_hands k_end_hands) (PySem.W.mg_of X G a_end_hands)
    have C_ends_of := mk_ends_of (Pr := l.prog) (w := w) (base := base) T C_need_web C_end_hands (fun_mk (st := s_ends_of) l_ends_of c_ends_of k_ends_of) (PySem.W.mg_of X G a_ends_of)
    have C_need_number := mk_need_number (Pr := l.prog) (w := w) (base := base) T C_is_below (fun_mk (st := s_need_number) l_need_number c_need_number k_need_number) (PySem.W.mg_of X G a_need_number)
    have C_ways_at := mk_ways_at (Pr := l.prog) (w := w) (base := base) T C_need_web C_need_number C_way_number (fun_mk (st := s_ways_at) l_ways_at c_ways_at k_ways_at) (PySem.W.mg_of X G a_ways_at)
    have C__law_right := mk__law_right (Pr := l.prog) (w := w) (base := base) T C__law_hand_right C_ends_of C__law_number C_ways_at (fun_mk (st := s__law_right) l__law_right c__law_right k__law_right) (PySem.W.mg_of X G a__law_right)
    have C__law_great := mk__law_great (Pr := l.prog) (w := w) (base := base) T  (fun_mk (st := s__law_great) l__law_great c__law_great k__law_great) (PySem.W.mg_of X G a__law_great)
    have C__law_take := mk__law_take (Pr := l.prog) (w := w) (base := base) T  (fun_mk (st := s__law_take) l__law_take c__law_take k__law_take) (PySem.W.mg_of X G a__law_take)
    have C__law_world := mk__law_world (Pr := l.prog) (w := w) (base := base) T C__law_take (fun_mk (st := s__law_world) l__law_world c__law_world k__law_world) (PySem.W.mg_of X G a__law_world)
    have C_law := mk_law (Pr := l.prog) (w := w) (base := base) T C__law_pot C__law_right C__law_great C__law_world (fun_mk (st := s_law) l_law c_law k_law) (PySem.W.mg_of X G a_law)
    exact C_law.ok
  · exact .of_eq rfl
end Lw
open PySem PySem.W PyProof.Rows
set_option maxHeartbeats 0 in
theorem PySem.Challenge.cw_tiewheel_k02_hands_and_ways_holds : PySem.Challenge.rw_tiewheel_k02_hands_and_ways.Holds := by
  w_on; o_law; k_head; (case hw => w_witness2)
  k_fill
  refine Tw.walk_G (l := PySem.Challenge.rw_tiewheel_k02_hands_and_ways) (n := 63) (k := 7) (x := "_law_script") (g := Lw.g_law) rfl (by decide) rfl ⟨rfl, by decide, by decide⟩ (fun w h Y => PySem.W.kIn_of Y) ?F Lw.ans
  case F =>
    intro w mg fa h KX G hmg
    refine' Lw.facts KX G hmg ?a__law_pot ?l__law_pot ?c__law_pot ?k__law_pot ?a__law_number ?l__law_number ?c__law_number ?k__law_number ?a_are_all_met ?l_are_all_met ?c_are_all_met ?k_are_all_met ?a_hands_across ?l_hands_across ?c_hands_across ?k_hands_across ?a_need_web ?l_need_web ?c_need_web ?k_need_web ?a_is_below ?l_is_below ?c_is_below ?k_is_below ?a_across ?l_across ?c_across ?k_across ?a_need_hand ?l_need_hand ?c_need_hand ?k_need_hand ?a_way_number ?l_way_number ?c_way_number ?k_way_number ?a_way_of ?l_way_of ?c_way_of ?k_way_of ?a__law_hand_right ?l__law_hand_right ?c__law_hand_right ?k__law_hand_right ?a_end_hands ?l_end_hands ?c_end_hands ?k_end_hands ?a_ends_of ?l_ends_of ?c_ends_of ?k_ends_of ?a_need_number ?l_need_number ?c_need_number ?k_need_number ?a_ways_at ?l_ways_at ?c_ways_at ?k_ways_at ?a__law_right ?l__law_right ?c__law_right ?k__law_right ?a__law_great ?l__law_great ?c__law_great ?k__law_great ?a__law_take ?l__law_take ?c__law_take ?k__law_take ?a__law_world ?l__law_world ?c__law_world ?k__law_world ?a_law ?l_law ?c_law ?k_law ?z_abs ?z_all ?z_bool ?z_enumerate ?z_int ?z_isinstance ?z_len ?z_max ?z_min ?z_range ?z_repr ?z_sorted ?z_tuple ?q_HANDS ?q_MOST_POSTS
    (case a__law_pot => k_is)
    (case l__law_pot => k_is)
    (case c__law_pot => k_is)
    (case k__law_pot => k_is)
    (case a__law_number => k_is)
    (case l__law_number => k_is)
    (case c__law_number => k_is)
    (case k__law_number => k_is)
    (case a_are_all_met => k_is)
    (case l_are_all_met => k_is)
    (case c_are_all_met => k_is)
    (case k_are_all_met => k_is)
    (case a_hands_across => k_is)
    (case l_hands_across => k_is)
    (case c_hands_across => k_is)
    (case k_hands_across => k_is)
    (case a_need_web => k_is)
    (case l_need_web => k_is)
    (case c_need_web => k_is)
    (case k_need_web => k_is)
    (case a_is_below => k_is)
    (case l_is_below => k_is)
    (case c_is_below => k_is)
    (case k_is_below => k_is)
    (case a_across => k_is)
    (case l_across => k_is)
    (case c_across => k_is)
    (case k_across => k_is)
    (case a_need_hand => k_is)
    (case l_need_hand => k_is)
    (case c_need_hand => k_is)
    (case k_need_hand => k_is)
    (case a_way_number => k_is)
    (case l_way_number => k_is)
    (case c_way_number => k_is)
    (case k_way_number => k_is)
    (case a_way_of => k_is)
    (case l_way_of => k_is)
    (case c_way_of => k_is)
    (case k_way_of => k_is)
    (case a__law_hand_right => k_is)
    (case l__law_hand_right => k_is)
    (case c__law_hand_right => k_is)
    (case k__law_hand_right => k_is)
    (case a_end_hands => k_is)
    (case l_end_hands => k_is)
    (case c_end_hands => k_is)
    (case k_end_hands => k_is)
    (case a_ends_of => k_is)
    (case l_ends_of => k_is)
    (case c_ends_of => k_is)
    (case k_ends_of => k_is)
    (case a_need_number => k_is)
    (case l_need_number => k_is)
    (case c_need_number => k_is)
    (case k_need_number => k_is)
    (case a_ways_at => k_is)
    (case l_ways_at => k_is)
    (case c_ways_at => k_is)
    (case k_ways_at => k_is)
    (case a__law_right => k_is)
    (case l__law_right => k_is)
    (case c__law_right => k_is)
    (case k__law_right => k_is)
    (case a__law_great => k_is)
    (case l__law_great => k_is)
    (case c__law_great => k_is)
    (case k__law_great => k_is)
    (case a__law_take => k_is)
    (case l__law_take => k_is)
    (case c__law_take => k_is)
    (case k__law_take => k_is)
    (case a__law_world => k_is)
    (case l__law_world => k_is)
    (case c__law_world => k_is)
    (case k__law_world => k_is)
    (case a_law => k_is)
    (case l_law => k_is)
    (case c_law => k_is)
    (case k_law => k_is)
    (case z_abs => k_is)
    (case z_all => k_is)
    (case z_bool => k_is)
    (case z_enumerate => k_is)
    (case z_int => k_is)
    (case z_isinstance => k_is)
    (case z_len => k_is)
    (case z_max => k_is)
    (case z_min => k_is)
    (case z_range => k_is)
    (case z_repr => k_is)
    (case z_sorted => k_is)
    (case z_tuple => k_is)
    (case q_HANDS => k_is)
    (case q_MOST_POSTS => k_is)
