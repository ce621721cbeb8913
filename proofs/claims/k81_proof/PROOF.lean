import PyProof.Rows.All
import Wide.All
import OpenK.AllK
import Wide.FinOn
import HandS.ForMost
import HandS.Evl
import HandS.TupAny
import HandS.Conv
import PyProof.SeqIndex
import HandS.IsInst
import HandS.Wide
import HandS.WideMore
import HandS.Zip
import HandS.TupLe
import HandS.TupMul
import HandS.DictComp
import KE.SortData
import PyProof.ReprRoads
import KE.DataEq
import KE.GoesMore
import HandS.Walk
import PyProof.AutoSeq1
import HandS.Style
import KE.KRevSl
import HandS.Dict
import PyProof.RulesMatchSeq
import PyProof.Rows.MatchSeqLen
import KE.DataAny
import KE.DataMinMax
import PyProof.P3In
import KE.GoesNew
import HandS.Star
import HandS.Defaults
import PyProof.FactsAll.tuple_3
import HandS.SetFor
import HandS.Strs
import PyProof.Rows.SortShellAny
import HandS.SetKeys
import KE.GoesEnum
import PySem.Challenge.RW_tiewheel_k81_shapes_known
set_option Elab.async false
set_option linter.all false
set_option maxRecDepth 100000
set_option maxHeartbeats 2000000
/-! ## Tw: tuples whose object has no dict of its own, kept as they stand (an object known, not tracked by its items alone), so that t.index may be asked of them -/
namespace Tw
open PySem PySem.Spec PyProof.Rows L2
open Evl (Ex)
def PTu (K : PySem.W.Frag) (H : Hp) (a : Addr) (xs : List V) : Prop := (∃ o : Obj, o.dict = none ∧ H a = some (.frz o (.tup xs))) ∨
  ∃ (o : Obj) (its : Array Value) (n : Nat), K.lookup a = some o ∧ o.dict = none ∧ o.cls = .type "tuple" ∧ o.data = .seq its n ∧ its.size ≤ sizeLine ∧ Vals xs its.toList
section
variable {K : PySem.W.Frag} {H H' : Hp} {a p : Addr} {xs : List V} {o : Obj}
theorem PTu.sq (h : PTu K H a xs) : SqT K H a xs := by
  rcases h with ⟨o, _, h⟩ | ⟨o, its, n, h1, _, h2⟩
  · exact .inl (.inr ⟨o, h⟩)
  · exact .inr ⟨o, its, n, h1, h2⟩
theorem PTu.mono (h : PTu K H a xs) (e : Ex H H') : PTu K H' a xs := h.imp (fun ⟨o, h1, h2⟩ => ⟨o, h1, e _ _ h2⟩) id
theorem PTu.new (h : o.dict = none) : PTu K (upd H p (.frz o (.tup xs))) p xs := .inl ⟨o, h, upd_same⟩
end
/-- what is told of a new tuple -/
abbrev NewT (H : Hp) (Q : VK) (xs : List V) : Prop := ∀ (p : Addr) (o : Obj), H p = none → o.dict = none → Q (.ref p) (upd H p (.frz o (.tup xs)))
section
variable {X : Cx} {pins : List (Addr × Obj)} {σ : L2.St} {H : Hp} {s : Shared} {Q : VK} {xs : List V} {es : List Expr} {t : TA} {pos : Pos}
theorem newT (I : Inv X pins σ H s) {arr : Array Value} (hz : xs.length ≤ sizeLine) (r : Vals xs arr.toList) (k : NewT H Q xs) :
    EP X pins σ Q (.ref s.heap.objs.size) { s with heap := s.heap.push { cls := .type "tuple", data := .seq arr } } := by
  have lay : ObjOk X.prog X.w (upd H s.heap.objs.size (.frz { cls := .type "tuple", data := .seq arr } (.tup xs))) (s.heap.push { cls := .type "tuple", data := .seq arr }) s.heap.objs.size (.frz { cls := .type "tuple", data := .seq arr } (.tup xs)) :=
    ⟨Heap.get?_push_size _ rfl, hz, arr.toList, r, _, Heap.get?_push_size _ rfl, rfl, 0, by simp⟩
  exact ⟨.ref s.heap.objs.size, _, I.laid (t' := s.toks) (fun _ _ z => Heap.get?_push_of_some _ z) (Nat.le_refl _) lay, rfl, k _ _ (I.hok.fresh (Nat.le_refl _)) rfl⟩
/-! the ways to a new tuple -/
def tTupP (t : TA) : TE := fun σ H Q => t σ H fun xs H1 => xs.length ≤ sizeLine ∧ NewT H1 Q xs
theorem pe_tupP {k : Nat} (h : PA X es t) : PE X (.Tuple es k pos) (tTupP t) :=
  ⟨fun pins s σ H Q I hq => wpAny_Tuple_spliced (thn (h.run pos pins s σ H _ I hq) fun us s1 ⟨xs, H1, I1, r, z, q⟩ => ⟨by rw [← r.length]; exact z, newT I1 z (by simpa using r) q⟩)⟩
/-- tuple(x) -/
def rTupP (K : PySem.W.Frag) : List V → Hp → VK → Prop := fun vs H Q => ∃ a ys, vs = [.ref a] ∧ ((SqL K H a ys ∧ NewT H Q ys) ∨ (SqT K H a ys ∧ Q (.ref a) H))
theorem call_tupleP : CallR X (.type "tuple") (rTupP X.K) := fun pins s σ H vs us Q I r h => by
  obtain ⟨a, ys, rfl, h⟩ := h
  obtain ⟨_, rfl, rx⟩ := vals1 r
  cases rx
  rcases h with ⟨hs, q⟩ | ⟨hs, q⟩
  · obtain ⟨its, rv, pl, z⟩ := I.list hs
    exact call_tuple_list pl.isList (fun _ hk => newT (I.kept (t' := s.toks) hk) z (by simpa using rv) q) (by rw [List.size_toArray, ← rv.length]; exact z)
  · obtain ⟨its, rv, pl, z⟩ := I.tuple hs
    exact call_tuple_same pl ⟨.ref a, H, I, rfl, q⟩
/-- t + u -/
def rCatP (K : PySem.W.Frag) : R2 := fun x y H Q => ∃ a b xs ys, x = .ref a ∧ y = .ref b ∧ SqT K H a xs ∧ SqT K H b ys ∧ xs.length + ys.length ≤ sizeLine ∧
  (xs = [] → Q (.ref b) H) ∧ (xs ≠ [] → ys = [] → Q (.ref a) H) ∧ (xs ≠ [] → ys ≠ [] → NewT H Q (xs ++ ys))
theorem op_catP : OpR X (binaryOp .Add) (rCatP X.K) := fun pins s σ H x y v u Q I rx ry h => by
  obtain ⟨a, b, xs, ys, rfl, rfl, ha, hb, z, q0, q1, q2⟩ := h
  cases rx
  cases ry
  obtain ⟨l1, r1, p1, _⟩ := I.tuple ha
  obtain ⟨l2, r2, p2, _⟩ := I.tuple hb
  by_cases e : xs = []
  · subst e
    cases r1
    exact cat_tup0 p1 p2 ⟨.ref b, H, I, rfl, q0 rfl⟩
  · exact HT.cat_tup p1 p2 (fun w => e (r1.nil_iff.mp w)) (fun w => ⟨.ref a, H, I, rfl, q1 e (r2.nil_iff.mp w)⟩)
      (fun w => newT I (by rw [List.length_append]; exact z) (by simpa using r1.append r2) (q2 e fun w' => w (r2.nil_iff.mpr w'))) (by rw [← r1.length, ← r2.length]; exact z)
/-- t[lo:hi] -/
def rSlP (K : PySem.W.Frag) : V → Option Int → Option Int → Hp → VK → Prop := fun x lo hi H Q => ∃ a xs, x = .ref a ∧ SqT K H a xs ∧
  (HT.sIx xs.length 0 lo = 0 ∧ HT.sIx xs.length xs.length hi = xs.length → Q (.ref a) H) ∧ (¬ (HT.sIx xs.length 0 lo = 0 ∧ HT.sIx xs.length xs.length hi = xs.length) → NewT H Q (cutV xs lo hi))
theorem sl_tupP : SlR X (rSlP X.K) := fun pins s σ H x v vl vu lo hi sl Q I rx hs pl pu h => by
  obtain ⟨a, xs, rfl, hx, q1, q2⟩ := h
  cases rx
  obtain ⟨its, r, ht, z⟩ := I.tuple hx
  have hl : its.toArray.size = xs.length := by rw [List.size_toArray]; exact r.length.symm
  refine ⟨"tuple", _, PyProof.Rows.slot_tuple_getitem.lookup, ht.typeIs, ?_⟩
  by_cases w : HT.sIx xs.length 0 lo = 0 ∧ HT.sIx xs.length xs.length hi = xs.length
  · exact getItem_tuple_whole ht hs pl pu (by rw [hl]; exact w) ⟨.ref a, H, I, rfl, q1 w⟩
  · refine HT.getItem_tuple_cut ht hs pl pu (by rw [hl]; exact w) ?_ (by rw [hl]; exact z)
    rw [hl]
    refine newT I (Nat.le_trans (cutV_length xs lo hi) z) ?_ (q2 w)
    exact (r.drop (HT.sIx xs.length 0 lo)).take (HT.sIx xs.length xs.length hi - HT.sIx xs.length 0 lo)
/-- tuple(range(..)) -/
def tTupRgP (te : L2.St → Hp → (Int → Int → Hp → Prop) → Prop) : TE := fun σ H Q => te σ H fun a b H1 => RgOk a b ∧ NewT H1 Q (rgV a b)
theorem pe_tupRgP {e : Expr} {te : L2.St → Hp → (Int → Int → Hp → Prop) → Prop} {p : Pos} (hc : X.calm = true) (hg : Gl X "tuple") (hm : X.mg "tuple" = none) (he : PRg X e te) (na : starEach [e] X.env = (false, eval e X.env) :: starEach [] X.env := by rfl) :
    PE X (.Call (.Name "tuple" p) [e] [] pos) (tTupRgP te) := ⟨fun pins s σ H Q I h => by
  refine Call_ (ld_blt I hg hm boot_tuple (PyProof.Rows.callWith_type1 (args_cons (thn (he pins s σ H _ I h) fun x s1 ⟨r, a, b, t, u, v, H1, ex, hr, I1, ok, q⟩ => args_nil ?_) na) na))
  subst ex
  obtain ⟨b1, b2, b3, b4, b5⟩ := ok
  exact call_tuple_range (n := (b - a).toNat) (I1.ok.hd hc) hr (small_one b1 b2 b3 b4) (rangeSize_nat a b) b5 fun h' tk acc hk hi =>
    newT (I1.kept hk : Inv X pins σ H1 { s1 with heap := h', toks := tk }) (by rw [rgV_length, sizeLine_eq]; omega) (vals_rg hi) q⟩
/-! ### t.index(x), t.index(x, i) -/
/-- the call of a method of a tuple whose object is plain -/
def tTM (K : PySem.W.Frag) (r : V → List V → Hp → VK → Prop) (to : TE) (t : TA) : TE := fun σ H Q => to σ H fun x H1 => (∃ a xs, x = .ref a ∧ PTu K H1 a xs) ∧ t σ H1 fun xs H2 => r x xs H2 Q
theorem PTu.plain {a : Addr} (I : Inv X pins σ H s) (h : PTu X.K H a xs) : s.TypeIs (.ref a) "tuple" ∧ ∀ b, Value.ref a = .ref b → ∃ ob, s.heap.get? b = some ob ∧ ob.dict = none := by
  obtain ⟨its, _, p, _⟩ := I.tuple h.sq
  refine ⟨p.typeIs, fun b e => ?_⟩
  cases e
  rcases h with ⟨o, hd, h⟩ | ⟨o, _, _, h, hd, _⟩
  · exact ⟨o, (show ObjOk X.prog X.w H s.heap a (.frz o (.tup xs)) from I.hok a _ h).1, hd⟩
  · exact ⟨o, I.kIn a o h, hd⟩
theorem pe_tm {o e : Expr} {name : Str} {apos cpos : Pos} {id : String} {to : TE} {r : V → List V → Hp → VK → Prop} (slot : Slot "tuple" name id) (hty : typeOf (.builtin id) = pure (.type "method_descriptor")) (hm : MtR X id r) (ho : PE X o to) (ha : PA X (e :: es) t)
    (hbase : attributeBase o name X.env (eval o X.env) = eval o X.env := by rfl)
    (hfew : ((backTo cpos (starEach (e :: es) X.env)).all (fun x => !x.1) && (backToKw cpos (keywordEach [] X.env)).all (fun x => x.1.isSome)
      && decide ((e :: es).length + ([] : List Keyword).length + (if ([] : List Keyword).isEmpty then 0 else 1) < 30)) = true := by rfl)
    (hline : (apos.endLine == cpos.line) = true := by rfl) (hs : starEach (e :: es) X.env = (false, eval e X.env) :: starEach es X.env := by rfl) (hplain : (backTo cpos (starEach es X.env)).any (·.1) = false := by rfl) :
    PE X (.Call (.Attribute o name apos) (e :: es) [] cpos) (tTM X.K r to t) := ⟨fun pins s σ H Q I h => by
  refine wpAny_Call_method_late hbase hfew hline rfl (thn (ho.run pins s σ H _ I h) fun v s1 hz => ?_)
  obtain ⟨x, H1, I1, r1, ⟨a, xs, rfl, pt⟩, q1⟩ := hz
  cases r1
  obtain ⟨h1, h2⟩ := pt.plain I1
  refine ⟨"tuple", id, PySem.F.plainAttrs_tuple, slot, hty, h1, h2, ?_⟩
  have hA := ha.run cpos pins s1 σ H1 _ I1 q1
  rw [hs] at hA ⊢
  refine Calls.callWith_builtin (by show (false || (backTo cpos (starEach es X.env)).any (·.1)) = false; rw [hplain] <;> rfl) (Calls.evalArgs_plain (thn hA fun us s2 hz => ?_))
  obtain ⟨vs, H2, I2, r2, q2⟩ := hz
  exact hm pins s2 σ H2 (.ref a) vs _ us Q I2 rfl r2 q2⟩
end
end Tw

set_option Elab.async false
set_option linter.all false
set_option maxRecDepth 100000
set_option maxHeartbeats 2000000

/-! ## Tw: values as data, slots as data, readings as partial functions on slots -/
namespace Tw
open PySem PySem.Spec PyProof.Rows L2
open Evl (Ex)

def keyD : Key → PyData
  | .inl i => .int i
  | .inr x => .str x

/-- a list to be read: tracked, locked, or one of the module's own -/
def RL (K : PySem.W.Frag) (H : Hp) (a : Addr) (xs : List V) : Prop := Rd H a (.lst xs) ∨
  ∃ (its : List Value) (n : Nat), K.lookup a = some { cls := .type "list", data := .seq its.toArray n } ∧ Vals xs its ∧ xs.length ≤ sizeLine
theorem RL.of {K : PySem.W.Frag} {H : Hp} {a : Addr} {xs : List V} (h : H a = some (.lst xs)) : RL K H a xs := .inl (Rd.of h)
theorem RL.mono {K : PySem.W.Frag} {H H' : Hp} {a : Addr} {xs : List V} (h : RL K H a xs) (e : Ex H H') : RL K H' a xs := h.imp (fun q => Evl.ex_rd e q) id
theorem RL.sq {K : PySem.W.Frag} {H : Hp} {a : Addr} {xs : List V} (h : RL K H a xs) : SqL K H a xs := h.imp id fun ⟨its, n, e, v, z⟩ => ⟨_, its.toArray, n, e, rfl, rfl, rfl, by rw [List.size_toArray, ← v.length]; exact z, by simpa using v⟩
mutual
inductive Dt (K : PySem.W.Frag) (G : Hp) : V → PyData → Prop
  | nn : Dt K G .non .none
  | bb (b : Bool) : Dt K G (.bl b) (.bool b)
  | ii (i : Int) : Dt K G (.int i) (.int i)
  | ss (x : Str) : Dt K G (.str x) (.str x)
  | ll {a : Addr} {xs : List V} {ds : List PyData} (h : RL K G a xs) (t : Da K G xs ds) :
      Dt K G (.ref a) (.list ds)
  | tt {a : Addr} {xs : List V} {ds : List PyData} (h : PTu K G a xs) (t : Da K G xs ds) :
      Dt K G (.ref a) (.tuple ds)
  | dd {a : Addr} {kvs : List (Key × V)} {ds : List PyData} (h : Rd G a (.dK kvs)) (t : Da K G (kvs.map (·.2)) ds) :
      Dt K G (.ref a) (.dict ((kvs.map fun p => keyD p.1).zip ds))
inductive Da (K : PySem.W.Frag) (G : Hp) : List V → List PyData → Prop
  | nil : Da K G [] []
  | cons {v : V} {vs : List V} {d : PyData} {ds : List PyData} (h : Dt K G v d) (t : Da K G vs ds) :
      Da K G (v :: vs) (d :: ds)
end

section
variable {K : PySem.W.Frag} {G G' : Hp}
mutual
theorem Dt.mono (e : Ex G G') : ∀ {v : V} {d : PyData}, Dt K G v d → Dt K G' v d
  | _, _, .nn => .nn
  | _, _, .bb b => .bb b
  | _, _, .ii i => .ii i
  | _, _, .ss x => .ss x
  | _, _, .ll h t => .ll ((h.mono e)) (Da.mono e t)
  | _, _, .tt h t => .tt (h.mono e) (Da.mono e t)
  | _, _, .dd h t => .dd (Evl.ex_rd e h) (Da.mono e t)
theorem Da.mono (e : Ex G G') : ∀ {vs : List V} {ds : List PyData}, Da K G vs ds → Da K G' vs ds
  | _, _, .nil => .nil
  | _, _, .cons h t => .cons (Dt.mono e h) (Da.mono e t)
end
theorem Da.len : ∀ {vs : List V} {ds : List PyData}, Da K G vs ds → vs.length = ds.length
  | _, _, .nil => rfl
  | _, _, .cons _ t => congrArg (· + 1) (Da.len t)
theorem Da.get : ∀ {vs : List V} {ds : List PyData} {i : Nat} {d : PyData}, Da K G vs ds → ds[i]? = some d → ∃ v, vs[i]? = some v ∧ Dt K G v d
  | _, _, _, _, .nil, e => by simp at e
  | _, _, 0, _, .cons h _, e => by
    simp at e; subst e; exact ⟨_, rfl, h⟩
  | _, _, i + 1, _, .cons _ t, e => by
    obtain ⟨v, h1, h2⟩ := Da.get (i := i) t (by simpa using e)
    exact ⟨v, by simpa using h1, h2⟩
theorem Da.getV : ∀ {vs : List V} {ds : List PyData} {i : Nat} {v : V}, Da K G vs ds → vs[i]? = some v → ∃ d, ds[i]? = some d ∧ Dt K G v d
  | _, _, _, _, .nil, e => by simp at e
  | _, _, 0, _, .cons h _, e => by
    simp at e; subst e; exact ⟨_, rfl, h⟩
  | _, _, i + 1, _, .cons _ t, e => by
    obtain ⟨v, h1, h2⟩ := Da.getV (i := i) t (by simpa using e)
    exact ⟨v, by simpa using h1, h2⟩
theorem Da.app : ∀ {vs ws : List V} {ds es : List PyData}, Da K G vs ds → Da K G ws es → Da K G (vs ++ ws) (ds ++ es)
  | _, _, _, _, .nil, s => s
  | _, _, _, _, .cons h t, s => .cons h (Da.app t s)
theorem Da.one {v : V} {d : PyData} (h : Dt K G v d) : Da K G [v] [d] := .cons h .nil
theorem Da.take : ∀ {vs : List V} {ds : List PyData} (n : Nat), Da K G vs ds → Da K G (vs.take n) (ds.take n)
  | _, _, 0, _ => .nil
  | _, _, _ + 1, .nil => .nil
  | _, _, n + 1, .cons h t => .cons h (Da.take n t)
theorem Da.drop : ∀ {vs : List V} {ds : List PyData} (n : Nat), Da K G vs ds → Da K G (vs.drop n) (ds.drop n)
  | _, _, 0, s => s
  | _, _, _ + 1, .nil => .nil
  | _, _, n + 1, .cons _ t => Da.drop n t
theorem Da.set : ∀ {vs : List V} {ds : List PyData} {v : V} {d : PyData} (i : Nat), Dt K G v d → Da K G vs ds → Da K G (vs.set i v) (ds.set i d)
  | _, _, _, _, _, _, .nil => .nil
  | _, _, _, _, 0, q, .cons _ t => .cons q t
  | _, _, _, _, i + 1, q, .cons h t => .cons h (Da.set i q t)
theorem Da.rev {vs : List V} {ds : List PyData} (h : Da K G vs ds) : Da K G vs.reverse ds.reverse := by
  induction vs generalizing ds with
  | nil => cases h; exact .nil
  | cons v vs ih =>
    cases h with
    | cons h t =>
      rw [List.reverse_cons, List.reverse_cons]
      exact (ih t).app (Da.one h)
theorem Da.of_map {α : Type} {f : α → V} {g : α → PyData} (h : ∀ a, Dt K G (f a) (g a)) : ∀ l : List α, Da K G (l.map f) (l.map g)
  | [] => .nil
  | a :: l => .cons (h a) (Da.of_map h l)
theorem Da.ints (l : List Int) : Da K G (l.map V.int) (l.map PyData.int) := Da.of_map (fun i => .ii i) l
end

/-! ### what the data are in the model's heap -/
theorem key_read {h : Heap} {k : Key} {u : Value} (e : keyIs k u = true) : ∃ as, Reads h u (keyD k) as := by
  rcases keyIs_shape e with ⟨i, t, rfl, rfl⟩ | ⟨x, t, rfl, rfl⟩
  · exact ⟨_, .int i t⟩
  · exact ⟨_, .str x t⟩
theorem keys_read {P : Program} {w : World} {h : Heap} : ∀ {kvs : List (Key × V)} {vs : List (Key × Value)} {es : List DictEntry}, KV kvs vs → Pairs (mixKind P w) es vs →
    (∃ as, ReadsAll h (es.map (·.key)) (kvs.map fun p => keyD p.1) as) ∧ Vals (kvs.map (·.2)) (es.map (·.val))
  | _, _, _, .nil, .nil => ⟨⟨_, .nil⟩, .nil⟩
  | _, _, _, .cons r t, .cons e1 e2 e3 => by
    obtain ⟨⟨as, q1⟩, q2⟩ := keys_read (h := h) t e3
    have e1' : keyIs _ _ = true := e1
    rw [← r.1] at e1'
    obtain ⟨bs, q3⟩ := key_read (h := h) e1'
    refine ⟨⟨_, .cons q3 q1⟩, .cons ?_ q2⟩
    dsimp only
    rw [e2]
    exact r.2
section
variable {X : Cx} {pins : List (Addr × Obj)} {σ : L2.St} {H : Hp} {s : Shared}
mutual
theorem Dt.reads (I : Inv X pins σ H s) : ∀ {v : V} {d : PyData} {u : Value}, Dt X.K H v d → RelV v u → ∃ as, Reads s.heap u d as
  | _, _, _, .nn, r => by
    cases r; exact ⟨_, .none⟩
  | _, _, _, .bb b, r => by
    cases r; exact ⟨_, .bool b⟩
  | _, _, _, .ii i, r => by
    obtain ⟨t, rfl⟩ := r; exact ⟨_, .int i t⟩
  | _, _, _, .ss x, r => by
    obtain ⟨t, rfl⟩ := r; exact ⟨_, .str x t⟩
  | _, _, _, .ll h t, r => by
    cases r
    obtain ⟨its, rv, ⟨o, n, ho, hc, _, hd⟩, _⟩ := I.list h.sq
    obtain ⟨as, hr⟩ := Da.reads I t rv
    exact ⟨_, .list ho hc hd hr⟩
  | _, _, _, .tt h t, r => by
    cases r
    obtain ⟨its, rv, ⟨o, ho, hc, n, hd⟩, _⟩ := I.tuple h.sq
    obtain ⟨as, hr⟩ := Da.reads I t rv
    exact ⟨_, .tuple ho hc hd hr⟩
  | _, _, _, .dd (a := a) (kvs := kvs) (ds := ds) h t, r => by
    cases r
    obtain ⟨_, _, vs, rk, o, es, ep, ho, hx, hd, hk, hp, _⟩ := (show ObjOk X.prog X.w H s.heap a (.dK kvs) from rd_of I.hok h)
    obtain ⟨⟨as, q⟩, qv⟩ := keys_read (h := s.heap) rk hp
    obtain ⟨bs, q2⟩ := Da.reads I t qv
    have hl : (kvs.map fun p => keyD p.1).length = ds.length := by
      rw [List.length_map, ← t.len, List.length_map]
    refine ⟨_, .dict (as := as) (bs := bs) ho hx.1 hd ?_ ?_⟩
    · rw [List.map_fst_zip (Nat.le_of_eq hl)]
      exact q
    · rw [List.map_snd_zip (Nat.le_of_eq hl.symm)]
      exact q2
theorem Da.reads (I : Inv X pins σ H s) : ∀ {vs : List V} {ds : List PyData} {us : List Value}, Da X.K H vs ds → Vals vs us → ∃ as, ReadsAll s.heap us ds as
  | _, _, _, .nil, r => by
    cases r; exact ⟨_, .nil⟩
  | _, _, _, .cons h t, r => by
    cases r with
    | cons r1 r2 =>
      obtain ⟨as, q1⟩ := Dt.reads I h r1
      obtain ⟨bs, q2⟩ := Da.reads I t r2
      exact ⟨_, .cons q1 q2⟩
end
end
/-! ### slots -/
/-- what a slot holds: nothing that is known, data, a list of one's own that may change -/
inductive Mu where
  | l (xs : List PyData)
  | k (es : List (PyData × PyData))
instance : Coe (List PyData) Mu := ⟨Mu.l⟩
inductive Sl where
  | un
  | d (x : PyData)
  | m (o : Mu)
abbrev Rho := List Sl
/-- what a changing thing of one's own holds -/
inductive MuOk (K : PySem.W.Frag) (G : Hp) : HO → Mu → Prop
  | l {xs : List V} {ds : List PyData} (h : Da K G xs ds) : MuOk K G (.lst xs) (.l ds)
  | k {kvs : List (Key × V)} {ds : List PyData} (h : Da K G (kvs.map (·.2)) ds) : MuOk K G (.dK kvs) (.k ((kvs.map fun p => keyD p.1).zip ds))
theorem MuOk.mono {K : PySem.W.Frag} {G G' : Hp} {o : HO} {u : Mu} (h : MuOk K G o u) (e : Ex G G') : MuOk K G' o u := by
  cases h with
  | l h => exact .l (h.mono e)
  | k h => exact .k (h.mono e)

def own (σ : L2.St) (ρ : Rho) (l : Addr) : Prop := ∃ (i : Nat) (ds : Mu), ρ[i]? = some (.m ds) ∧ σ[i]? = some (some (.ref l))

structure EnvOk (K : PySem.W.Frag) (G H : Hp) (σ : L2.St) (ρ : Rho) : Prop where
  ex : Ex G H
  len : σ.length = ρ.length
  dat : ∀ (i : Nat) (d : PyData), ρ[i]? = some (.d d) → ∃ v, σ[i]? = some (some v) ∧ Dt K G v d
  mu : ∀ (i : Nat) (ds : Mu), ρ[i]? = some (.m ds) → ∃ l xs, σ[i]? = some (some (.ref l)) ∧ G l = none ∧ H l = some xs ∧ MuOk K G xs ds
  ne : ∀ (i j : Nat) (ds es : Mu) (l : Addr), ρ[i]? = some (.m ds) → ρ[j]? = some (.m es) → σ[i]? = some (some (.ref l)) → σ[j]? = some (some (.ref l)) → i = j

/-- from one state to a later one: what may have changed are the cells of ow -/
structure Tr (ow : Addr → Prop) (G H G' H' : Hp) : Prop where
  g : Ex G G'
  h : ∀ a o, H a = some o → ¬ ow a → H' a = some o
  n : ∀ a o, H a = some o → G a = none → ¬ ow a → G' a = none
  k : ∀ a o, H a = some o → ∃ o', H' a = some o'
abbrev nobody : Addr → Prop := fun _ => False

section
variable {K : PySem.W.Frag} {G H G1 H1 G2 H2 : Hp} {ow ow' : Addr → Prop} {σ : L2.St} {ρ : Rho}
theorem Tr.refl : Tr ow G H G H := ⟨fun _ _ e => e, fun _ _ e _ => e, fun _ _ _ e _ => e, fun _ o e => ⟨o, e⟩⟩
theorem Tr.trans (a : Tr ow G H G1 H1) (b : Tr ow' G1 H1 G2 H2) (s : ∀ x o, H x = some o → ow' x → ow x) : Tr ow G H G2 H2 where
  g := fun x o e => b.g x o (a.g x o e)
  h := fun x o e n => b.h x o (a.h x o e n) fun q => n (s x o e q)
  n := fun x o e g n => b.n x o (a.h x o e n) (a.n x o e g n) fun q => n (s x o e q)
  k := fun x o e => let ⟨o1, e1⟩ := a.k x o e; b.k x o1 e1
theorem Tr.wide (a : Tr ow G H G1 H1) (s : ∀ x o, H x = some o → ow x → ow' x) : Tr ow' G H G1 H1 where
  g := a.g
  h := fun x o e n => a.h x o e fun q => n (s x o e q)
  n := fun x o e g n => a.n x o e g fun q => n (s x o e q)
  k := a.k
theorem Tr.none (a : Tr nobody G H G1 H1) : Tr ow G H G1 H1 := a.wide fun _ _ _ q => q.elim
theorem Tr.exH (a : Tr nobody G H G1 H1) : Ex H H1 := fun x o e => a.h x o e id
/-- a new thing that never changes -/
theorem Tr.new {p : Addr} {o : HO} (hp : H p = Option.none) (e : Ex G H) : Tr ow G H (upd G p o) (upd H p o) where
  g := fun x u q => by
    rw [upd_ne fun z => by subst z; rw [e _ _ q] at hp; cases hp]
    exact q
  h := fun x u q _ => by
    rw [upd_ne fun z => by subst z; rw [q] at hp; cases hp]
    exact q
  n := fun x u q g _ => by
    rw [upd_ne fun z => by subst z; rw [q] at hp; cases hp]
    exact g
  k := fun x u q => ⟨u, by
    rw [upd_ne fun z => by subst z; rw [q] at hp; cases hp]
    exact q⟩
theorem ex_upd {p : Addr} {o : HO} (e : Ex G H) : Ex (upd G p o) (upd H p o) := fun x u q => by
  by_cases z : x = p
  · subst z; rw [upd_same] at q ⊢; exact q
  · rw [upd_ne z] at q ⊢; exact e _ _ q
theorem ex_new {p : Addr} {o : HO} (e : Ex G H) (hp : H p = Option.none) : Ex G (upd H p o) := fun x u q => by
  rw [upd_ne fun z => by subst z; rw [e _ _ q] at hp; cases hp]
  exact e _ _ q
theorem EnvOk.dat' (E : EnvOk K G H σ ρ) {i : Nat} {d : PyData} (h : ρ[i]? = some (.d d)) : ∃ v, σ[i]? = some (some v) ∧ Dt K G v d := E.dat i d h
theorem EnvOk.muL (E : EnvOk K G H σ ρ) {i : Nat} {ds : List PyData} (h : ρ[i]? = some (.m (.l ds))) : ∃ l xs, σ[i]? = some (some (.ref l)) ∧ G l = none ∧ H l = some (.lst xs) ∧ Da K G xs ds := by
  obtain ⟨l, o, h1, h2, h3, h4⟩ := E.mu i _ h
  cases h4 with
  | l h4 => exact ⟨l, _, h1, h2, h3, h4⟩
theorem EnvOk.muK (E : EnvOk K G H σ ρ) {i : Nat} {es : List (PyData × PyData)} (h : ρ[i]? = some (.m (.k es))) : ∃ l kvs ds, σ[i]? = some (some (.ref l)) ∧ G l = none ∧ H l = some (.dK kvs) ∧ Da K G (kvs.map (·.2)) ds ∧ es = (kvs.map fun p => keyD p.1).zip ds := by
  obtain ⟨l, o, h1, h2, h3, h4⟩ := E.mu i _ h
  cases h4 with
  | k h4 => exact ⟨l, _, _, h1, h2, h3, h4, rfl⟩
/-- behind a step that changed none of its cells -/
theorem EnvOk.tr (E : EnvOk K G H σ ρ) (t : Tr nobody G H G1 H1) (e : Ex G1 H1) : EnvOk K G1 H1 σ ρ where
  ex := e
  len := E.len
  dat := fun i d q => by
    obtain ⟨v, h1, h2⟩ := E.dat i d q
    exact ⟨v, h1, h2.mono t.g⟩
  mu := fun i ds q => by
    obtain ⟨l, xs, h1, h2, h3, h4⟩ := E.mu i ds q
    exact ⟨l, xs, h1, t.n l _ h3 h2 id, t.h l _ h3 id, h4.mono t.g⟩
  ne := E.ne
end

/-! ### readings of expressions -/
/-- what one owns, where b says that it may change -/
def ows (b : Bool) (σ : L2.St) (ρ : Rho) : Addr → Prop := fun a => b = true ∧ own σ ρ a
abbrev FE (α : Type) := Rho → Option (α × Rho)
/-- f tells the data that come, and the slots behind -/
def tE (K : PySem.W.Frag) (b : Bool) (f : FE PyData) : TE := fun σ H Q => ∃ (G : Hp) (ρ : Rho) (d : PyData) (ρ' : Rho), EnvOk K G H σ ρ ∧ f ρ = some (d, ρ') ∧
  ∀ v G' H', Tr (ows b σ ρ) G H G' H' → (∀ l, own σ ρ' l → own σ ρ l) → EnvOk K G' H' σ ρ' → Dt K G' v d → Q v H'
def tT (K : PySem.W.Frag) (b : Bool) (f : FE Bool) : TT := fun σ H Q => ∃ (G : Hp) (ρ : Rho) (d : Bool) (ρ' : Rho), EnvOk K G H σ ρ ∧ f ρ = some (d, ρ') ∧
  ∀ G' H', Tr (ows b σ ρ) G H G' H' → (∀ l, own σ ρ' l → own σ ρ l) → EnvOk K G' H' σ ρ' → Q d H'
def tA (K : PySem.W.Frag) (b : Bool) (f : FE (List PyData)) : TA := fun σ H Q => ∃ (G : Hp) (ρ : Rho) (d : List PyData) (ρ' : Rho), EnvOk K G H σ ρ ∧ f ρ = some (d, ρ') ∧
  ∀ v G' H', Tr (ows b σ ρ) G H G' H' → (∀ l, own σ ρ' l → own σ ρ l) → EnvOk K G' H' σ ρ' → Da K G' v d → Q v H'

section
variable {X : Cx} {e : Expr} {es : List Expr} {t t' : TE}
theorem PE.weak (h : PE X e t) (w : ∀ σ H Q, t' σ H Q → t σ H Q) : PE X e t' := ⟨fun pins s σ H Q I q => h.run pins s σ H Q I (w σ H Q q)⟩
theorem PE.weakI (h : PE X e t) (w : ∀ pins s σ H Q, Inv X pins σ H s → t' σ H Q → t σ H Q) : PE X e t' := ⟨fun pins s σ H Q I q => h.run pins s σ H Q I (w pins s σ H Q I q)⟩
theorem PT.weak {t t' : TT} (h : PT X e t) (w : ∀ σ H Q, t' σ H Q → t σ H Q) : PT X e t' := ⟨fun pins s σ H Q I q => h.run pins s σ H Q I (w σ H Q q)⟩
theorem PA.weak {t t' : TA} (h : PA X es t) (w : ∀ σ H Q, t' σ H Q → t σ H Q) : PA X es t' := ⟨fun pos pins s σ H Q I q => h.run pos pins s σ H Q I (w σ H Q q)⟩
theorem PS.weak {st : Stmt} {t t' : TS} (h : PS X st t) (w : ∀ D σ H, t' D σ H → t D σ H) : PS X st t' := ⟨fun pins s σ H D I q => h.run pins s σ H D I (w D σ H q)⟩
theorem PS.weakI {st : Stmt} {t t' : TS} (h : PS X st t) (w : ∀ pins s D σ H, Inv X pins σ H s → t' D σ H → t D σ H) : PS X st t' := ⟨fun pins s σ H D I q => h.run pins s σ H D I (w pins s D σ H I q)⟩
theorem PSs.weak {st : List Stmt} {t t' : TS} (h : PSs X st t) (w : ∀ D σ H, t' D σ H → t D σ H) : PSs X st t' := ⟨fun pins s σ H D I q => h.run pins s σ H D I (w D σ H q)⟩
end
section
variable {X : Cx} {e a b : Expr} {es : List Expr} {pos : Pos} {bb : Bool} {f fa fb : FE PyData}
theorem ows_true {σ : L2.St} {ρ : Rho} {b : Bool} {x : Addr} (h : ows b σ ρ x) : ows true σ ρ x := ⟨rfl, h.2⟩
/-- an expression that changes nothing is one that may -/
theorem e_up (h : PE X e (tE X.K false f)) : PE X e (tE X.K true f) := PE.weak h fun σ H Q ⟨G, ρ, d, ρ', E, ef, k⟩ =>
  ⟨G, ρ, d, ρ', E, ef, fun v G' H' t => k v G' H' (t.wide fun _ _ _ q => ows_true q)⟩
theorem t_up {f : FE Bool} (h : PT X e (tT X.K false f)) : PT X e (tT X.K true f) := PT.weak h fun σ H Q ⟨G, ρ, d, ρ', E, ef, k⟩ =>
  ⟨G, ρ, d, ρ', E, ef, fun G' H' t => k G' H' (t.wide fun _ _ _ q => ows_true q)⟩
theorem a_up {f : FE (List PyData)} (h : PA X es (tA X.K false f)) : PA X es (tA X.K true f) := PA.weak h fun σ H Q ⟨G, ρ, d, ρ', E, ef, k⟩ =>
  ⟨G, ρ, d, ρ', E, ef, fun v G' H' t => k v G' H' (t.wide fun _ _ _ q => ows_true q)⟩
theorem e_cong {f' : FE PyData} (h : PE X e (tE X.K bb f)) (w : ∀ ρ, f' ρ = f ρ) : PE X e (tE X.K bb f') := by
  rw [show f' = f from funext w]; exact h
/-- two steps, one behind the other -/
theorem Tr.seq {σ : L2.St} {ρ ρ1 : Rho} {G H G1 H1 G2 H2 : Hp} (a : Tr (ows bb σ ρ) G H G1 H1) (s : ∀ l, own σ ρ1 l → own σ ρ l) (b : Tr (ows bb σ ρ1) G1 H1 G2 H2) : Tr (ows bb σ ρ) G H G2 H2 :=
  a.trans b fun _ _ _ q => ⟨q.1, s _ q.2⟩
end
/-- nothing behind -/
def ret {α : Type} (x : α) : FE α := fun ρ => some (x, ρ)
/-- one behind another -/
def thnE {α β : Type} (f : FE α) (g : α → FE β) : FE β := fun ρ => (f ρ).bind fun p => g p.1 p.2
theorem thnE_of {α β : Type} {f : FE α} {g : α → FE β} {ρ ρ2 : Rho} {y : β} (h : thnE f g ρ = some (y, ρ2)) : ∃ x ρ1, f ρ = some (x, ρ1) ∧ g x ρ1 = some (y, ρ2) := by
  unfold thnE at h
  obtain ⟨⟨x, ρ1⟩, h1, h2⟩ := Option.bind_eq_some_iff.mp h
  exact ⟨x, ρ1, h1, h2⟩
/-- a reckoning of values that may have no answer -/
def liftO {α : Type} (o : Option α) : FE α := fun ρ => o.map fun x => (x, ρ)
theorem liftO_of {α : Type} {o : Option α} {ρ ρ2 : Rho} {y : α} (h : liftO o ρ = some (y, ρ2)) : o = some y ∧ ρ2 = ρ := by
  unfold liftO at h
  cases o with
  | none => cases h
  | some z =>
    have e := Option.some.inj h
    exact ⟨congrArg some (Prod.mk.inj e).1, (Prod.mk.inj e).2.symm⟩
end Tw

set_option Elab.async false
set_option linter.all false
set_option maxRecDepth 100000
set_option maxHeartbeats 2000000
namespace Tw
open PySem PySem.Spec PyProof.Rows L2
open Evl (Ex)

/-! ### names, constants -/
def fVar (i : Nat) : FE PyData := fun ρ => match ρ[i]? with
  | some (.d x) => some (x, ρ)
  | _ => none
theorem fVar_of {i : Nat} {ρ ρ' : Rho} {d : PyData} (h : fVar i ρ = some (d, ρ')) : ρ[i]? = some (.d d) ∧ ρ' = ρ := by
  unfold fVar at h
  split at h
  · rename_i x e
    have q := Option.some.inj h
    exact ⟨by rw [e, (Prod.mk.inj q).1], (Prod.mk.inj q).2.symm⟩
  · cases h
section
variable {X : Cx} {e a b c : Expr} {es : List Expr} {pos : Pos} {bb : Bool} {f fa fb fc : FE PyData} {g : FE Bool} {σ : L2.St} {ρ ρ1 ρ2 : Rho}
theorem e_var (i : Nat) (h : PE X e (tVar i)) : PE X e (tE X.K bb (fVar i)) := PE.weak h fun σ H Q ⟨G, ρ, d, ρ', E, ef, k⟩ => by
  obtain ⟨h1, rfl⟩ := fVar_of ef
  obtain ⟨v, hv, hd⟩ := E.dat i d h1
  exact ⟨v, hv, k v G H .refl (fun _ q => q) E hd⟩
theorem e_con {v : V} {d : PyData} (h : PE X e (tC v)) (hd : ∀ G, Dt X.K G v d) : PE X e (tE X.K bb (ret d)) := PE.weak h fun σ H Q ⟨G, ρ, d', ρ', E, ef, k⟩ => by
  have q := Option.some.inj ef
  obtain ⟨rfl, rfl⟩ := Prod.mk.inj q
  exact k v G H .refl (fun _ q => q) E (hd G)
theorem e_int {i j pos} : PE X (.Constant (.int i) j pos) (tE X.K bb (ret (.int i))) := e_con pe_int fun _ => .ii i
theorem e_bl {b j pos} : PE X (.Constant (.bool b) j pos) (tE X.K bb (ret (.bool b))) := e_con pe_bl fun _ => .bb b
theorem e_non {j pos} : PE X (.Constant .none j pos) (tE X.K bb (ret .none)) := e_con pe_non fun _ => .nn
theorem e_str {x j pos} : PE X (.Constant (.str x) j pos) (tE X.K bb (ret (.str x))) := e_con pe_str fun _ => .ss x
/-- a module's number -/
theorem e_glob {x : Str} {i : Int} {t : Tok} (hg : Gl X x) (hm : X.mg x = some (.int i t)) (hd : (x == ("__debug__" : Str)) = false := by decide) : PE X (.Name x pos) (tE X.K bb (ret (.int i))) :=
  e_con (v := .int i) (pe_glob hg hm ⟨_, rfl⟩ hd) fun _ => .ii i

/-! ### an operation on two values -/
def OpD (K : PySem.W.Frag) (r : R2) (g : PyData → PyData → Option PyData) : Prop :=
  ∀ (G H : Hp) (x y : V) (d e z : PyData) (Q : VK), Ex G H → Dt K G x d → Dt K G y e → g d e = some z → (∀ v G' H', Tr nobody G H G' H' → Ex G' H' → Dt K G' v z → Q v H') → r x y H Q
def fBin (g : PyData → PyData → Option PyData) (fa fb : FE PyData) : FE PyData := thnE fa fun x => thnE fb fun y => liftO (g x y)
theorem bin_run {r : R2} {g : PyData → PyData → Option PyData} (hr : OpD X.K r g) {H : Hp} {Q : VK} (h : tE X.K bb (fBin g fa fb) σ H Q) : tOp r (tE X.K bb fa) (tE X.K bb fb) σ H Q := by
  obtain ⟨G, ρ, d, ρ', E, ef, k⟩ := h
  obtain ⟨x, ρ1, h1, h2⟩ := thnE_of ef
  obtain ⟨y, ρ2, h3, h4⟩ := thnE_of h2
  obtain ⟨h5, rfl⟩ := liftO_of h4
  refine ⟨G, ρ, x, ρ1, E, h1, fun v G1 H1 t1 o1 E1 d1 => ⟨G1, ρ1, y, ρ', E1, h3, fun u G2 H2 t2 o2 E2 d2 => ?_⟩⟩
  refine hr G2 H2 v u x y d Q E2.ex (d1.mono t2.g) d2 h5 fun z G3 H3 t3 x3 d3 => ?_
  exact k z G3 H3 ((t1.seq o1 t2).trans t3 fun _ _ _ q => q.elim) (fun l q => o1 l (o2 l q)) (E2.tr t3 x3) d3
theorem e_op {op : Operator} {r : R2} {g : PyData → PyData → Option PyData} (ho : OpR X (binaryOp op) r) (hr : OpD X.K r g) (ha : PE X a (tE X.K bb fa)) (hb : PE X b (tE X.K bb fb)) :
    PE X (.BinOp a op b pos) (tE X.K bb (fBin g fa fb)) := PE.weak (pe_op ho ha hb) fun _ _ _ h => bin_run hr h
theorem e_cmp {op : CmpOp} {r : R2} {g : PyData → PyData → Option PyData} (ho : OpR X (compareOp op) r) (hr : OpD X.K r g) (hm : behindInMarks op b = false) (ha : PE X a (tE X.K bb fa)) (hb : PE X b (tE X.K bb fb)) :
    PE X (.Compare a [op] [b] pos) (tE X.K bb (fBin g fa fb)) := PE.weak (pe_cmpR ho ha hb hm) fun _ _ _ h => bin_run hr h
theorem e_ix {r : R2} {g : PyData → PyData → Option PyData} (ho : IxR X r) (hr : OpD X.K r g) (hs : PlainIx b) (ha : PE X a (tE X.K bb fa)) (hb : PE X b (tE X.K bb fb)) :
    PE X (.Subscript a b pos) (tE X.K bb (fBin g fa fb)) := PE.weak (pe_ix ho ha hb hs) fun _ _ _ h => bin_run hr h
theorem OpD.or {K : PySem.W.Frag} {r r' : R2} {g g' : PyData → PyData → Option PyData} (h : OpD K r g) (h' : OpD K r' g') : OpD K (fun x y H Q => r x y H Q ∨ r' x y H Q) (fun d e => (g d e).or (g' d e)) :=
  fun G H x y d e z Q ex hd he hz k => by
    cases q : g d e with
    | some w =>
      have hz' : (g d e).or (g' d e) = some z := hz
      rw [q] at hz'
      exact .inl (h G H x y d e z Q ex hd he (q.trans hz') k)
    | none =>
      have hz' : (g d e).or (g' d e) = some z := hz
      rw [q] at hz'
      exact .inr (h' G H x y d e z Q ex hd he hz' k)
/-- a chain a op b op' c -/
def fChain (g g' : PyData → PyData → Option PyData) (fa fb fc : FE PyData) : FE PyData := thnE fa fun x => thnE fb fun y => thnE (liftO (g x y)) fun k => match k with
  | .bool true => thnE fc fun z => liftO (g' y z)
  | .bool false => ret (.bool false)
  | _ => fun _ => none
theorem dt_bool {K : PySem.W.Frag} {G : Hp} {v : V} {b : Bool} (h : Dt K G v (.bool b)) : v = .bl b := by cases h; rfl
theorem dt_int {K : PySem.W.Frag} {G : Hp} {v : V} {b : Int} (h : Dt K G v (.int b)) : v = .int b := by cases h; rfl
theorem dt_str {K : PySem.W.Frag} {G : Hp} {v : V} {b : Str} (h : Dt K G v (.str b)) : v = .str b := by cases h; rfl
theorem dt_none {K : PySem.W.Frag} {G : Hp} {v : V} (h : Dt K G v .none) : v = .non := by cases h; rfl
theorem dt_list {K : PySem.W.Frag} {G : Hp} {v : V} {ds : List PyData} (h : Dt K G v (.list ds)) : ∃ a xs, v = .ref a ∧ RL K G a xs ∧ Da K G xs ds := by cases h; exact ⟨_, _, rfl, ‹_›, ‹_›⟩
theorem dt_tupP {K : PySem.W.Frag} {G : Hp} {v : V} {ds : List PyData} (h : Dt K G v (.tuple ds)) : ∃ a xs, v = .ref a ∧ PTu K G a xs ∧ Da K G xs ds := by cases h; exact ⟨_, _, rfl, ‹_›, ‹_›⟩
theorem dt_tup {K : PySem.W.Frag} {G : Hp} {v : V} {ds : List PyData} (h : Dt K G v (.tuple ds)) : ∃ a xs, v = .ref a ∧ SqT K G a xs ∧ Da K G xs ds := let ⟨a, xs, h1, h2, h3⟩ := dt_tupP h; ⟨a, xs, h1, h2.sq, h3⟩
theorem chain_run {r r' : R2} {g g' : PyData → PyData → Option PyData} (hr : OpD X.K r g) (hr' : OpD X.K r' g') {H : Hp} {Q : VK} (h : tE X.K bb (fChain g g' fa fb fc) σ H Q) : tChain r r' (tE X.K bb fa) (tE X.K bb fb) (tE X.K bb fc) σ H Q := by
    obtain ⟨G, ρ, d, ρ', E, ef, k⟩ := h
    obtain ⟨x, ρ1, h1, h2⟩ := thnE_of ef
    obtain ⟨y, ρ2, h3, h4⟩ := thnE_of h2
    obtain ⟨z, ρ3, h55, h6⟩ := thnE_of h4
    obtain ⟨h5, rfl⟩ := liftO_of h55
    refine ⟨G, ρ, x, ρ1, E, h1, fun v G1 H1 t1 o1 E1 d1 => ⟨G1, ρ1, y, ρ3, E1, h3, fun u G2 H2 t2 o2 E2 d2 => ?_⟩⟩
    refine hr G2 H2 v u x y z _ E2.ex (d1.mono t2.g) d2 h5 fun w G3 H3 t3 x3 d3 => ?_
    have E3 := E2.tr t3 x3
    have t03 := (t1.seq o1 t2).trans t3 fun _ _ _ q => q.elim
    cases z with
    | bool q =>
      cases q with
      | false =>
        obtain ⟨rfl, rfl⟩ := Prod.mk.inj (Option.some.inj h6)
        refine ⟨false, dt_bool d3, ?_⟩
        rw [if_neg Bool.false_ne_true]
        exact k _ G3 H3 t03 (fun l q => o1 l (o2 l q)) E3 (.bb false)
      | true =>
        obtain ⟨m, ρ4, h7, h8⟩ := thnE_of h6
        obtain ⟨h9, rfl⟩ := liftO_of h8
        refine ⟨true, dt_bool d3, ?_⟩
        rw [if_pos rfl]
        refine ⟨G3, ρ3, m, ρ', E3, h7, fun u4 G4 H4 t4 o4 E4 d4 => ?_⟩
        refine hr' G4 H4 u u4 y m d Q E4.ex (d2.mono fun x o q => t4.g x o (t3.g x o q)) d4 h9 fun z G5 H5 t5 x5 d5 => ?_
        exact k z G5 H5 ((t03.seq (fun l q => o1 l (o2 l q)) t4).trans t5 fun _ _ _ q => q.elim) (fun l q => o1 l (o2 l (o4 l q))) (E4.tr t5 x5) d5
    | _ => cases h6
theorem e_chain {op op' : CmpOp} {r r' : R2} {g g' : PyData → PyData → Option PyData} (ho : OpR X (compareOp op) r) (ho' : OpR X (compareOp op') r') (hr : OpD X.K r g) (hr' : OpD X.K r' g')
    (ha : PE X a (tE X.K bb fa)) (hb : PE X b (tE X.K bb fb)) (hc : PE X c (tE X.K bb fc)) (hm : lastMarks [op, op'] [b, c] = false := by rfl) : PE X (.Compare a [op, op'] [b, c] pos) (tE X.K bb (fChain g g' fa fb fc)) :=
  PE.weak (pe_chain ho ho' ha hb hc hm) fun σ H Q h => chain_run hr hr' h
/-! ### an operation on one value -/
def UnD (K : PySem.W.Frag) (r : V → Hp → VK → Prop) (g : PyData → Option PyData) : Prop :=
  ∀ (G H : Hp) (x : V) (d z : PyData) (Q : VK), Ex G H → Dt K G x d → g d = some z → (∀ v G' H', Tr nobody G H G' H' → Ex G' H' → Dt K G' v z → Q v H') → r x H Q
def fUn (g : PyData → Option PyData) (fa : FE PyData) : FE PyData := thnE fa fun x => liftO (g x)
theorem e_un {op : UnaryOp} {r : V → Hp → VK → Prop} {g : PyData → Option PyData} (ho : UnR X (unaryOp op) r) (hr : UnD X.K r g) (ha : PE X a (tE X.K bb fa)) : PE X (.UnaryOp op a pos) (tE X.K bb (fUn g fa)) :=
  PE.weak (pe_un ho ha) fun σ H Q h => by
    obtain ⟨G, ρ, d, ρ', E, ef, k⟩ := h
    obtain ⟨x, ρ1, h1, h2⟩ := thnE_of ef
    obtain ⟨h5, rfl⟩ := liftO_of h2
    refine ⟨G, ρ, x, ρ', E, h1, fun v G1 H1 t1 o1 E1 d1 => ?_⟩
    refine hr G1 H1 v x d Q E1.ex d1 h5 fun z G3 H3 t3 x3 d3 => ?_
    exact k z G3 H3 (t1.trans t3 fun _ _ _ q => q.elim) o1 (E1.tr t3 x3) d3
/-! ### arguments, displays, calls of what is built in -/
def fNil : FE (List PyData) := ret []
def fCons (f : FE PyData) (r : FE (List PyData)) : FE (List PyData) := thnE f fun x => thnE r fun xs => ret (x :: xs)
theorem ret_of {α : Type} {x y : α} {ρ ρ' : Rho} (h : ret x ρ = some (y, ρ')) : y = x ∧ ρ' = ρ := by
  obtain ⟨q, p⟩ := Prod.mk.inj (Option.some.inj h)
  exact ⟨q.symm, p.symm⟩
theorem a_nil : PA X [] (tA X.K bb fNil) := PA.weak pa_nil fun σ H Q ⟨G, ρ, d, ρ', E, ef, k⟩ => by
  obtain ⟨rfl, rfl⟩ := ret_of ef
  exact k [] G H .refl (fun _ q => q) E .nil
theorem a_cons {r : FE (List PyData)} (ha : PE X e (tE X.K bb f)) (hr : PA X es (tA X.K bb r)) (hs : starEach (e :: es) X.env = (false, eval e X.env) :: starEach es X.env := by rfl) : PA X (e :: es) (tA X.K bb (fCons f r)) :=
  PA.weak (pa_cons ha hr hs) fun σ H Q ⟨G, ρ, d, ρ', E, ef, k⟩ => by
    obtain ⟨x, ρ1, h1, h2⟩ := thnE_of ef
    obtain ⟨xs, ρ2, h3, h4⟩ := thnE_of h2
    obtain ⟨rfl, rfl⟩ := ret_of h4
    refine ⟨G, ρ, x, ρ1, E, h1, fun v G1 H1 t1 o1 E1 d1 => ⟨G1, ρ1, xs, ρ', E1, h3, fun u G2 H2 t2 o2 E2 d2 => ?_⟩⟩
    exact k (v :: u) G2 H2 (t1.seq o1 t2) (fun l q => o1 l (o2 l q)) E2 (.cons (d1.mono t2.g) d2)
def sizeOk (n : Nat) : Bool := decide (n ≤ 100000)
theorem sizeOk_le {n : Nat} (h : sizeOk n = true) : n ≤ sizeLine := Evl.sz_of (of_decide_eq_true h)
def fTup (r : FE (List PyData)) : FE PyData := thnE r fun xs => liftO (if sizeOk xs.length then some (.tuple xs) else none)
def fLst (r : FE (List PyData)) : FE PyData := thnE r fun xs => liftO (if sizeOk xs.length then some (.list xs) else none)
theorem ite_some {α : Type} {c : Bool} {x y : α} (h : (if c = true then some x else none) = some y) : c = true ∧ x = y := by
  cases c with
  | false => cases h
  | true => exact ⟨rfl, Option.some.inj h⟩
theorem e_tup {x1} {r : FE (List PyData)} (h : PA X es (tA X.K bb r)) : PE X (.Tuple es x1 pos) (tE X.K bb (fTup r)) := PE.weak (pe_tupP h) fun σ H Q ⟨G, ρ, d, ρ', E, ef, k⟩ => by
  obtain ⟨x, ρ1, h1, h2⟩ := thnE_of ef
  obtain ⟨h3, rfl⟩ := liftO_of h2
  obtain ⟨hz, rfl⟩ := ite_some h3
  refine ⟨G, ρ, x, ρ', E, h1, fun v G1 H1 t1 o1 E1 d1 => ⟨by rw [d1.len]; exact sizeOk_le hz, fun p o hp ho => ?_⟩⟩
  have t2 : Tr nobody G1 H1 (upd G1 p (.frz o (.tup v))) (upd H1 p (.frz o (.tup v))) := Tr.new hp E1.ex
  exact k _ _ _ (t1.trans t2 fun _ _ _ q => q.elim) o1 (E1.tr t2 (ex_upd E1.ex)) (.tt (PTu.new ho) (d1.mono t2.g))
theorem e_lst {r : FE (List PyData)} (h : PA X es (tA X.K bb r)) : PE X (.List es pos) (tE X.K bb (fLst r)) := PE.weak (pe_lst h) fun σ H Q ⟨G, ρ, d, ρ', E, ef, k⟩ => by
  obtain ⟨x, ρ1, h1, h2⟩ := thnE_of ef
  obtain ⟨h3, rfl⟩ := liftO_of h2
  obtain ⟨hz, rfl⟩ := ite_some h3
  refine ⟨G, ρ, x, ρ', E, h1, fun v G1 H1 t1 o1 E1 d1 => ⟨by rw [d1.len]; exact sizeOk_le hz, fun p hp => ?_⟩⟩
  have t2 : Tr nobody G1 H1 (upd G1 p (.lst v)) (upd H1 p (.lst v)) := Tr.new hp E1.ex
  exact k _ _ _ (t1.trans t2 fun _ _ _ q => q.elim) o1 (E1.tr t2 (ex_upd E1.ex)) (.ll (RL.of upd_same) (d1.mono t2.g))
def CallD (K : PySem.W.Frag) (r : List V → Hp → VK → Prop) (g : List PyData → Option PyData) : Prop :=
  ∀ (G H : Hp) (xs : List V) (ds : List PyData) (z : PyData) (Q : VK), Ex G H → Da K G xs ds → g ds = some z → (∀ v G' H', Tr nobody G H G' H' → Ex G' H' → Dt K G' v z → Q v H') → r xs H Q
def fCall (g : List PyData → Option PyData) (r : FE (List PyData)) : FE PyData := thnE r fun xs => liftO (g xs)
theorem call_run {r : List V → Hp → VK → Prop} {g : List PyData → Option PyData} {ra : FE (List PyData)} (hr : CallD X.K r g) {H : Hp} {Q : VK} (h : tE X.K bb (fCall g ra) σ H Q) : tA X.K bb ra σ H fun vs H1 => r vs H1 Q := by
  obtain ⟨G, ρ, d, ρ', E, ef, k⟩ := h
  obtain ⟨x, ρ1, h1, h2⟩ := thnE_of ef
  obtain ⟨h5, rfl⟩ := liftO_of h2
  refine ⟨G, ρ, x, ρ', E, h1, fun v G1 H1 t1 o1 E1 d1 => ?_⟩
  refine hr G1 H1 v x d Q E1.ex d1 h5 fun z G3 H3 t3 x3 d3 => ?_
  exact k z G3 H3 (t1.trans t3 fun _ _ _ q => q.elim) o1 (E1.tr t3 x3) d3
theorem e_callB {x : Str} {p : Pos} {id : String} {r : List V → Hp → VK → Prop} {g : List PyData → Option PyData} {ra : FE (List PyData)} (hc : CallR X (.builtin id) r) (hr : CallD X.K r g) (hg : Gl X x) (hm : X.mg x = none)
    (hv : bootBuiltins x = some (.builtin id)) (ha : PA X (e :: es) (tA X.K bb ra)) (hn : x ≠ "__name__" := by decide) (hdb : (x == ("__debug__" : Str)) = false := by decide)
    (he : starEach (e :: es) X.env = (false, eval e X.env) :: starEach es X.env := by rfl) (hpl : (backTo pos (starEach es X.env)).any (·.1) = false := by rfl) : PE X (.Call (.Name x p) (e :: es) [] pos) (tE X.K bb (fCall g ra)) :=
  PE.weak (pe_callB hc hg hm hv ha hn hdb he hpl) fun _ _ _ h => call_run hr h
theorem e_callTy {x : Str} {p : Pos} {T : String} {r : List V → Hp → VK → Prop} {g : List PyData → Option PyData} {ra : FE (List PyData)} (hc : CallR X (.type T) r) (hr : CallD X.K r g) (hg : Gl X x) (hm : X.mg x = none)
    (hv : bootBuiltins x = some (.type T)) (ha : PA X (e :: es) (tA X.K bb ra)) (hn : x ≠ "__name__" := by decide) (hdb : (x == ("__debug__" : Str)) = false := by decide)
    (he : starEach (e :: es) X.env = (false, eval e X.env) :: starEach es X.env := by rfl) (hpl : (backTo pos (starEach es X.env)).any (·.1) = false := by rfl) : PE X (.Call (.Name x p) (e :: es) [] pos) (tE X.K bb (fCall g ra)) :=
  PE.weak (pe_callTy hc hg hm hv ha hn hdb he hpl) fun _ _ _ h => call_run hr h
end
end Tw

set_option Elab.async false
set_option linter.all false
set_option maxRecDepth 100000
set_option maxHeartbeats 4000000
/-! ### dicts beside what is no dict: == and != -/
namespace Tw
open PySem PySem.Spec PyProof.Rows
open PySem.SeqAt PySem.AutoSeq1
structure IsD (s : Shared) (l : Addr) : Prop where
  ex : ∃ (dd : Option Addr) (es : Array DictEntry) (n : Nat) (sl : Array (Option Value)), s.heap.get? l = some { cls := .type "dict", dict := dd, data := .dict es n, slots := sl }
theorem IsD.of {s : Shared} {a : Addr} {o : Obj} {es : Array DictEntry} {n : Nat} (h : s.heap.get? a = some o) (hc : o.cls = .type "dict") (hd : o.data = .dict es n) : IsD s a := by
  obtain ⟨c, dd, d, sl⟩ := o
  dsimp only at hc hd
  subst hc
  subst hd
  exact ⟨⟨dd, es, n, sl, h⟩⟩
abbrev dOb (dd : Option Addr) (es : Array DictEntry) (n : Nat) (sl : Array (Option Value)) : Obj := { cls := .type "dict", dict := dd, data := .dict es n, slots := sl }
abbrev qOb (c : Value) (dd : Option Addr) (its : Array Value) (n : Nat) (sl : Array (Option Value)) : Obj := { cls := c, dict := dd, data := .seq its n, slots := sl }
abbrev NI (R : Result → Shared → Prop) (s : Shared) : Prop := R (.ok (.ret .notImplemented)) s
theorem dk_eq_n (l : Addr) (dd : Option Addr) (es : Array DictEntry) (n : Nat) (sl : Array (Option Value)) :
    Meets (Builtin.«dict.__eq__» ⟨[.ref l, .none], []⟩) (fun _ R s => s.heap.get? l = some (dOb dd es n sl) ∧ NI R s) :=
  .of_wp fun prog w A R s h => by
    obtain ⟨hp, g, d, tk, os⟩ := s
    obtain ⟨hl, h⟩ := h
    have f1 := F.sub_NoneType_dict
    wp_walk using wpAny_loadPart' hl, wpAny_load hl
    exact ⟨_, rfl, h⟩
theorem kd_eq_n (l : Addr) (dd : Option Addr) (es : Array DictEntry) (n : Nat) (sl : Array (Option Value)) :
    Meets (Builtin.«NoneType.__eq__» ⟨[.none, .ref l], []⟩) (fun _ R s => s.heap.get? l = some (dOb dd es n sl) ∧ NI R s) :=
  .of_wp fun prog w A R s h => by
    obtain ⟨hp, g, d, tk, os⟩ := s
    obtain ⟨hl, h⟩ := h
    have f1 := F.sub_dict_NoneType
    wp_walk using wpAny_loadPart' hl, wpAny_load hl
    exact ⟨_, rfl, h⟩
theorem dk_eq_b (l : Addr) (dd : Option Addr) (es : Array DictEntry) (n : Nat) (sl : Array (Option Value)) (x : Bool) :
    Meets (Builtin.«dict.__eq__» ⟨[.ref l, .bool x], []⟩) (fun _ R s => s.heap.get? l = some (dOb dd es n sl) ∧ NI R s) :=
  .of_wp fun prog w A R s h => by
    obtain ⟨hp, g, d, tk, os⟩ := s
    obtain ⟨hl, h⟩ := h
    have f1 := F.sub_bool_dict
    wp_walk using wpAny_loadPart' hl, wpAny_load hl
    exact ⟨_, rfl, h⟩
theorem kd_eq_b (l : Addr) (dd : Option Addr) (es : Array DictEntry) (n : Nat) (sl : Array (Option Value)) (x : Bool) :
    Meets (Builtin.«int.__eq__» ⟨[.bool x, .ref l], []⟩) (fun _ R s => s.heap.get? l = some (dOb dd es n sl) ∧ NI R s) :=
  .of_wp fun prog w A R s h => by
    obtain ⟨hp, g, d, tk, os⟩ := s
    obtain ⟨hl, h⟩ := h
    have f1 := F.sub_dict_bool
    wp_walk using wpAny_loadPart' hl, wpAny_load hl
    exact ⟨_, rfl, h⟩
theorem dk_eq_i (l : Addr) (dd : Option Addr) (es : Array DictEntry) (n : Nat) (sl : Array (Option Value)) (x : Int) (u : Tok) :
    Meets (Builtin.«dict.__eq__» ⟨[.ref l, .int x u], []⟩) (fun _ R s => s.heap.get? l = some (dOb dd es n sl) ∧ NI R s) :=
  .of_wp fun prog w A R s h => by
    obtain ⟨hp, g, d, tk, os⟩ := s
    obtain ⟨hl, h⟩ := h
    have f1 := F.sub_int_dict
    wp_walk using wpAny_loadPart' hl, wpAny_load hl
    exact ⟨_, rfl, h⟩
theorem kd_eq_i (l : Addr) (dd : Option Addr) (es : Array DictEntry) (n : Nat) (sl : Array (Option Value)) (x : Int) (u : Tok) :
    Meets (Builtin.«int.__eq__» ⟨[.int x u, .ref l], []⟩) (fun _ R s => s.heap.get? l = some (dOb dd es n sl) ∧ NI R s) :=
  .of_wp fun prog w A R s h => by
    obtain ⟨hp, g, d, tk, os⟩ := s
    obtain ⟨hl, h⟩ := h
    have f1 := F.sub_dict_int
    wp_walk using wpAny_loadPart' hl, wpAny_load hl
    exact ⟨_, rfl, h⟩
theorem dk_eq_s (l : Addr) (dd : Option Addr) (es : Array DictEntry) (n : Nat) (sl : Array (Option Value)) (x : Str) (u : Tok) :
    Meets (Builtin.«dict.__eq__» ⟨[.ref l, .str x u], []⟩) (fun _ R s => s.heap.get? l = some (dOb dd es n sl) ∧ NI R s) :=
  .of_wp fun prog w A R s h => by
    obtain ⟨hp, g, d, tk, os⟩ := s
    obtain ⟨hl, h⟩ := h
    have f1 := F.sub_str_dict
    wp_walk using wpAny_loadPart' hl, wpAny_load hl
    exact ⟨_, rfl, h⟩
theorem kd_eq_s (l : Addr) (dd : Option Addr) (es : Array DictEntry) (n : Nat) (sl : Array (Option Value)) (x : Str) (u : Tok) :
    Meets (Builtin.«str.__eq__» ⟨[.str x u, .ref l], []⟩) (fun _ R s => s.heap.get? l = some (dOb dd es n sl) ∧ NI R s) :=
  .of_wp fun prog w A R s h => by
    obtain ⟨hp, g, d, tk, os⟩ := s
    obtain ⟨hl, h⟩ := h
    have f1 := F.sub_dict_str
    wp_walk using wpAny_loadPart' hl, wpAny_load hl
    exact ⟨_, rfl, h⟩
theorem dk_eq_l (l b : Addr) (dd : Option Addr) (es : Array DictEntry) (n : Nat) (sl : Array (Option Value)) (dd2 : Option Addr) (its : Array Value) (n2 : Nat) (sl2 : Array (Option Value)) :
    Meets (Builtin.«dict.__eq__» ⟨[.ref l, .ref b], []⟩) (fun _ R s => s.heap.get? l = some (dOb dd es n sl) ∧ s.heap.get? b = some (qOb (.type "list") dd2 its n2 sl2) ∧ NI R s) :=
  .of_wp fun prog w A R s h => by
    obtain ⟨hp, g, d, tk, os⟩ := s
    obtain ⟨hl, hb, h⟩ := h
    have f1 := F.sub_list_dict
    wp_walk using wpAny_loadPart' hl, wpAny_loadPart' hb, wpAny_load hb
    exact ⟨_, rfl, h⟩
theorem kd_eq_l (l b : Addr) (dd : Option Addr) (es : Array DictEntry) (n : Nat) (sl : Array (Option Value)) (dd2 : Option Addr) (its : Array Value) (n2 : Nat) (sl2 : Array (Option Value)) :
    Meets (Builtin.«list.__eq__» ⟨[.ref b, .ref l], []⟩) (fun _ R s => s.heap.get? l = some (dOb dd es n sl) ∧ s.heap.get? b = some (qOb (.type "list") dd2 its n2 sl2) ∧ NI R s) :=
  .of_wp fun prog w A R s h => by
    obtain ⟨hp, g, d, tk, os⟩ := s
    obtain ⟨hl, hb, h⟩ := h
    have f1 := F.sub_dict_list
    wp_walk using wpAny_loadPart' hb, wpAny_loadPart' hl, wpAny_load hl
    exact ⟨_, rfl, h⟩
theorem dk_eq_t (l b : Addr) (dd : Option Addr) (es : Array DictEntry) (n : Nat) (sl : Array (Option Value)) (dd2 : Option Addr) (its : Array Value) (n2 : Nat) (sl2 : Array (Option Value)) :
    Meets (Builtin.«dict.__eq__» ⟨[.ref l, .ref b], []⟩) (fun _ R s => s.heap.get? l = some (dOb dd es n sl) ∧ s.heap.get? b = some (qOb (.type "tuple") dd2 its n2 sl2) ∧ NI R s) :=
  .of_wp fun prog w A R s h => by
    obtain ⟨hp, g, d, tk, os⟩ := s
    obtain ⟨hl, hb, h⟩ := h
    have f1 := F.sub_tuple_dict
    wp_walk using wpAny_loadPart' hl, wpAny_loadPart' hb, wpAny_load hb
    exact ⟨_, rfl, h⟩
theorem kd_eq_t (l b : Addr) (dd : Option Addr) (es : Array DictEntry) (n : Nat) (sl : Array (Option Value)) (dd2 : Option Addr) (its : Array Value) (n2 : Nat) (sl2 : Array (Option Value)) :
    Meets (Builtin.«tuple.__eq__» ⟨[.ref b, .ref l], []⟩) (fun _ R s => s.heap.get? l = some (dOb dd es n sl) ∧ s.heap.get? b = some (qOb (.type "tuple") dd2 its n2 sl2) ∧ NI R s) :=
  .of_wp fun prog w A R s h => by
    obtain ⟨hp, g, d, tk, os⟩ := s
    obtain ⟨hl, hb, h⟩ := h
    have f1 := F.sub_dict_tuple
    wp_walk using wpAny_loadPart' hb, wpAny_loadPart' hl, wpAny_load hl
    exact ⟨_, rfl, h⟩
theorem dk_ne_n (l : Addr) (dd : Option Addr) (es : Array DictEntry) (n : Nat) (sl : Array (Option Value)) :
    Meets (Builtin.«dict.__ne__» ⟨[.ref l, .none], []⟩) (fun _ R s => s.heap.get? l = some (dOb dd es n sl) ∧ NI R s) :=
  .of_wp fun prog w A R s h => by
    obtain ⟨hp, g, d, tk, os⟩ := s
    obtain ⟨hl, h⟩ := h
    have f1 := F.sub_NoneType_dict
    wp_walk using wpAny_loadPart' hl, wpAny_load hl
    exact ⟨_, rfl, h⟩
theorem kd_ne_n (l : Addr) (dd : Option Addr) (es : Array DictEntry) (n : Nat) (sl : Array (Option Value)) :
    Meets (Builtin.«NoneType.__ne__» ⟨[.none, .ref l], []⟩) (fun _ R s => s.heap.get? l = some (dOb dd es n sl) ∧ NI R s) :=
  .of_wp fun prog w A R s h => by
    obtain ⟨hp, g, d, tk, os⟩ := s
    obtain ⟨hl, h⟩ := h
    have f1 := F.sub_dict_NoneType
    wp_walk using wpAny_loadPart' hl, wpAny_load hl
    exact ⟨_, rfl, h⟩
theorem dk_ne_b (l : Addr) (dd : Option Addr) (es : Array DictEntry) (n : Nat) (sl : Array (Option Value)) (x : Bool) :
    Meets (Builtin.«dict.__ne__» ⟨[.ref l, .bool x], []⟩) (fun _ R s => s.heap.get? l = some (dOb dd es n sl) ∧ NI R s) :=
  .of_wp fun prog w A R s h => by
    obtain ⟨hp, g, d, tk, os⟩ := s
    obtain ⟨hl, h⟩ := h
    have f1 := F.sub_bool_dict
    wp_walk using wpAny_loadPart' hl, wpAny_load hl
    exact ⟨_, rfl, h⟩
theorem kd_ne_b (l : Addr) (dd : Option Addr) (es : Array DictEntry) (n : Nat) (sl : Array (Option Value)) (x : Bool) :
    Meets (Builtin.«int.__ne__» ⟨[.bool x, .ref l], []⟩) (fun _ R s => s.heap.get? l = some (dOb dd es n sl) ∧ NI R s) :=
  .of_wp fun prog w A R s h => by
    obtain ⟨hp, g, d, tk, os⟩ := s
    obtain ⟨hl, h⟩ := h
    have f1 := F.sub_dict_bool
    wp_walk using wpAny_loadPart' hl, wpAny_load hl
    exact ⟨_, rfl, h⟩
theorem dk_ne_i (l : Addr) (dd : Option Addr) (es : Array DictEntry) (n : Nat) (sl : Array (Option Value)) (x : Int) (u : Tok) :
    Meets (Builtin.«dict.__ne__» ⟨[.ref l, .int x u], []⟩) (fun _ R s => s.heap.get? l = some (dOb dd es n sl) ∧ NI R s) :=
  .of_wp fun prog w A R s h => by
    obtain ⟨hp, g, d, tk, os⟩ := s
    obtain ⟨hl, h⟩ := h
    have f1 := F.sub_int_dict
    wp_walk using wpAny_loadPart' hl, wpAny_load hl
    exact ⟨_, rfl, h⟩
theorem kd_ne_i (l : Addr) (dd : Option Addr) (es : Array DictEntry) (n : Nat) (sl : Array (Option Value)) (x : Int) (u : Tok) :
    Meets (Builtin.«int.__ne__» ⟨[.int x u, .ref l], []⟩) (fun _ R s => s.heap.get? l = some (dOb dd es n sl) ∧ NI R s) :=
  .of_wp fun prog w A R s h => by
    obtain ⟨hp, g, d, tk, os⟩ := s
    obtain ⟨hl, h⟩ := h
    have f1 := F.sub_dict_int
    wp_walk using wpAny_loadPart' hl, wpAny_load hl
    exact ⟨_, rfl, h⟩
theorem dk_ne_s (l : Addr) (dd : Option Addr) (es : Array DictEntry) (n : Nat) (sl : Array (Option Value)) (x : Str) (u : Tok) :
    Meets (Builtin.«dict.__ne__» ⟨[.ref l, .str x u], []⟩) (fun _ R s => s.heap.get? l = some (dOb dd es n sl) ∧ NI R s) :=
  .of_wp fun prog w A R s h => by
    obtain ⟨hp, g, d, tk, os⟩ := s
    obtain ⟨hl, h⟩ := h
    have f1 := F.sub_str_dict
    wp_walk using wpAny_loadPart' hl, wpAny_load hl
    exact ⟨_, rfl, h⟩
theorem kd_ne_s (l : Addr) (dd : Option Addr) (es : Array DictEntry) (n : Nat) (sl : Array (Option Value)) (x : Str) (u : Tok) :
    Meets (Builtin.«str.__ne__» ⟨[.str x u, .ref l], []⟩) (fun _ R s => s.heap.get? l = some (dOb dd es n sl) ∧ NI R s) :=
  .of_wp fun prog w A R s h => by
    obtain ⟨hp, g, d, tk, os⟩ := s
    obtain ⟨hl, h⟩ := h
    have f1 := F.sub_dict_str
    wp_walk using wpAny_loadPart' hl, wpAny_load hl
    exact ⟨_, rfl, h⟩
theorem dk_ne_l (l b : Addr) (dd : Option Addr) (es : Array DictEntry) (n : Nat) (sl : Array (Option Value)) (dd2 : Option Addr) (its : Array Value) (n2 : Nat) (sl2 : Array (Option Value)) :
    Meets (Builtin.«dict.__ne__» ⟨[.ref l, .ref b], []⟩) (fun _ R s => s.heap.get? l = some (dOb dd es n sl) ∧ s.heap.get? b = some (qOb (.type "list") dd2 its n2 sl2) ∧ NI R s) :=
  .of_wp fun prog w A R s h => by
    obtain ⟨hp, g, d, tk, os⟩ := s
    obtain ⟨hl, hb, h⟩ := h
    have f1 := F.sub_list_dict
    wp_walk using wpAny_loadPart' hl, wpAny_loadPart' hb, wpAny_load hb
    exact ⟨_, rfl, h⟩
theorem kd_ne_l (l b : Addr) (dd : Option Addr) (es : Array DictEntry) (n : Nat) (sl : Array (Option Value)) (dd2 : Option Addr) (its : Array Value) (n2 : Nat) (sl2 : Array (Option Value)) :
    Meets (Builtin.«list.__ne__» ⟨[.ref b, .ref l], []⟩) (fun _ R s => s.heap.get? l = some (dOb dd es n sl) ∧ s.heap.get? b = some (qOb (.type "list") dd2 its n2 sl2) ∧ NI R s) :=
  .of_wp fun prog w A R s h => by
    obtain ⟨hp, g, d, tk, os⟩ := s
    obtain ⟨hl, hb, h⟩ := h
    have f1 := F.sub_dict_list
    wp_walk using wpAny_loadPart' hb, wpAny_loadPart' hl, wpAny_load hl
    exact ⟨_, rfl, h⟩
theorem dk_ne_t (l b : Addr) (dd : Option Addr) (es : Array DictEntry) (n : Nat) (sl : Array (Option Value)) (dd2 : Option Addr) (its : Array Value) (n2 : Nat) (sl2 : Array (Option Value)) :
    Meets (Builtin.«dict.__ne__» ⟨[.ref l, .ref b], []⟩) (fun _ R s => s.heap.get? l = some (dOb dd es n sl) ∧ s.heap.get? b = some (qOb (.type "tuple") dd2 its n2 sl2) ∧ NI R s) :=
  .of_wp fun prog w A R s h => by
    obtain ⟨hp, g, d, tk, os⟩ := s
    obtain ⟨hl, hb, h⟩ := h
    have f1 := F.sub_tuple_dict
    wp_walk using wpAny_loadPart' hl, wpAny_loadPart' hb, wpAny_load hb
    exact ⟨_, rfl, h⟩
theorem kd_ne_t (l b : Addr) (dd : Option Addr) (es : Array DictEntry) (n : Nat) (sl : Array (Option Value)) (dd2 : Option Addr) (its : Array Value) (n2 : Nat) (sl2 : Array (Option Value)) :
    Meets (Builtin.«tuple.__ne__» ⟨[.ref b, .ref l], []⟩) (fun _ R s => s.heap.get? l = some (dOb dd es n sl) ∧ s.heap.get? b = some (qOb (.type "tuple") dd2 its n2 sl2) ∧ NI R s) :=
  .of_wp fun prog w A R s h => by
    obtain ⟨hp, g, d, tk, os⟩ := s
    obtain ⟨hl, hb, h⟩ := h
    have f1 := F.sub_dict_tuple
    wp_walk using wpAny_loadPart' hb, wpAny_loadPart' hl, wpAny_load hl
    exact ⟨_, rfl, h⟩
section
variable {A : Around} {s : Shared} {l : Addr}
theorem rc_eq_n (hl : IsD s l) (hu : A.units < cLine) : RcAt A s (.ref l) (.none) false := fun prog w E Q h => by
  obtain ⟨dd, es, n, sl, ho⟩ := hl.ex
  exact rc_eq_decline_or (k := false) ⟨_, ho, rfl⟩ rfl (by decide) F.sub_NoneType_dict F.slot_dict_eq F.slot_NoneType_eq_refl
    (fun _ hq => call_meets F.slot_dict_eq ⟨_, ho, rfl⟩ F.entry_dict_eq (F.args_dict_eq_2 _ _) (dk_eq_n l dd es n sl ) ⟨ho, hq⟩)
    (fun _ hq => call_meets F.slot_NoneType_eq_refl rfl F.entry_NoneType_eq (F.args_NoneType_eq_2 _ _) (kd_eq_n l dd es n sl ) ⟨ho, hq⟩)
    (fun _ hq => wpAny_of_eq (rfl : isSame (.ref l) (.none) = pure false) hq) (.inr hu) h
theorem rc_eq_b (x : Bool) (hl : IsD s l) (hu : A.units < cLine) : RcAt A s (.ref l) (.bool x) false := fun prog w E Q h => by
  obtain ⟨dd, es, n, sl, ho⟩ := hl.ex
  exact rc_eq_decline_or (k := false) ⟨_, ho, rfl⟩ rfl (by decide) F.sub_bool_dict F.slot_dict_eq F.slot_bool_eq_refl
    (fun _ hq => call_meets F.slot_dict_eq ⟨_, ho, rfl⟩ F.entry_dict_eq (F.args_dict_eq_2 _ _) (dk_eq_b l dd es n sl x) ⟨ho, hq⟩)
    (fun _ hq => call_meets F.slot_bool_eq_refl rfl F.entry_int_eq (F.args_int_eq_2 _ _) (kd_eq_b l dd es n sl x) ⟨ho, hq⟩)
    (fun _ hq => wpAny_of_eq (rfl : isSame (.ref l) (.bool x) = pure false) hq) (.inr hu) h
theorem rc_eq_i (x : Int) (u : Tok) (hl : IsD s l) (hu : A.units < cLine) : RcAt A s (.ref l) (.int x u) false := fun prog w E Q h => by
  obtain ⟨dd, es, n, sl, ho⟩ := hl.ex
  exact rc_eq_decline_or (k := false) ⟨_, ho, rfl⟩ rfl (by decide) F.sub_int_dict F.slot_dict_eq F.slot_int_eq_refl
    (fun _ hq => call_meets F.slot_dict_eq ⟨_, ho, rfl⟩ F.entry_dict_eq (F.args_dict_eq_2 _ _) (dk_eq_i l dd es n sl x u) ⟨ho, hq⟩)
    (fun _ hq => call_meets F.slot_int_eq_refl rfl F.entry_int_eq (F.args_int_eq_2 _ _) (kd_eq_i l dd es n sl x u) ⟨ho, hq⟩)
    (fun _ hq => wpAny_of_eq (rfl : isSame (.ref l) (.int x u) = pure false) hq) (.inr hu) h
theorem rc_eq_s (x : Str) (u : Tok) (hl : IsD s l) (hu : A.units < cLine) : RcAt A s (.ref l) (.str x u) false := fun prog w E Q h => by
  obtain ⟨dd, es, n, sl, ho⟩ := hl.ex
  exact rc_eq_decline_or (k := false) ⟨_, ho, rfl⟩ rfl (by decide) F.sub_str_dict F.slot_dict_eq F.slot_str_eq_refl
    (fun _ hq => call_meets F.slot_dict_eq ⟨_, ho, rfl⟩ F.entry_dict_eq (F.args_dict_eq_2 _ _) (dk_eq_s l dd es n sl x u) ⟨ho, hq⟩)
    (fun _ hq => call_meets F.slot_str_eq_refl rfl F.entry_str_eq (F.args_str_eq_2 _ _) (kd_eq_s l dd es n sl x u) ⟨ho, hq⟩)
    (fun _ hq => wpAny_of_eq (rfl : isSame (.ref l) (.str x u) = pure false) hq) (.inr hu) h
theorem rc_eq_l {b : Addr} {its : Array Value} (hl : IsD s l) (hb : s.heap.IsList b its) (hu : A.units < cLine) : RcAt A s (.ref l) (.ref b) false := fun prog w E Q h => by
  obtain ⟨dd, es, n, sl, ho⟩ := hl.ex
  obtain ⟨⟨c2, dd2, d2, sl2⟩, ho2, hc2, n2, hd2⟩ := id hb
  simp only at hc2 hd2
  subst hc2 hd2
  have hne : l ≠ b := fun e => by
    subst e
    rw [ho] at ho2
    have q := congrArg (fun o : Option Obj => o.map (·.cls)) ho2
    simp at q
  exact rc_eq_decline_or (k := false) ⟨_, ho, rfl⟩ ⟨_, ho2, rfl⟩ (by decide) F.sub_list_dict F.slot_dict_eq F.slot_list_eq_refl
    (fun _ hq => call_meets F.slot_dict_eq ⟨_, ho, rfl⟩ F.entry_dict_eq (F.args_dict_eq_2 _ _) (dk_eq_l l b dd es n sl dd2 its n2 sl2) ⟨ho, ho2, hq⟩)
    (fun _ hq => call_meets F.slot_list_eq_refl ⟨_, ho2, rfl⟩ F.entry_list_eq (F.args_list_eq_2 _ _) (kd_eq_l l b dd es n sl dd2 its n2 sl2) ⟨ho, ho2, hq⟩)
    (fun _ hq => wpAny_isSame_ref_other hne ho ho2 (by simp) hq) (.inr hu) h
theorem rc_eq_t {b : Addr} {its : Array Value} (hl : IsD s l) (hb : s.heap.IsTuple b its) (hu : A.units < cLine) : RcAt A s (.ref l) (.ref b) false := fun prog w E Q h => by
  obtain ⟨dd, es, n, sl, ho⟩ := hl.ex
  obtain ⟨⟨c2, dd2, d2, sl2⟩, ho2, hc2, n2, hd2⟩ := id hb
  simp only at hc2 hd2
  subst hc2 hd2
  have hne : l ≠ b := fun e => by
    subst e
    rw [ho] at ho2
    have q := congrArg (fun o : Option Obj => o.map (·.cls)) ho2
    simp at q
  exact rc_eq_decline_or (k := false) ⟨_, ho, rfl⟩ ⟨_, ho2, rfl⟩ (by decide) F.sub_tuple_dict F.slot_dict_eq F.slot_tuple_eq_refl
    (fun _ hq => call_meets F.slot_dict_eq ⟨_, ho, rfl⟩ F.entry_dict_eq (F.args_dict_eq_2 _ _) (dk_eq_t l b dd es n sl dd2 its n2 sl2) ⟨ho, ho2, hq⟩)
    (fun _ hq => call_meets F.slot_tuple_eq_refl ⟨_, ho2, rfl⟩ F.entry_tuple_eq (F.args_tuple_eq_2 _ _) (kd_eq_t l b dd es n sl dd2 its n2 sl2) ⟨ho, ho2, hq⟩)
    (fun _ hq => wpAny_isSame_ref_other hne ho ho2 (by simp) hq) (.inr hu) h
theorem rc_ne_n (hl : IsD s l) (hu : A.units < cLine) : RcNeAt A s (.ref l) (.none) true := fun prog w E Q h => by
  obtain ⟨dd, es, n, sl, ho⟩ := hl.ex
  exact rc_ne_decline_or (k := false) ⟨_, ho, rfl⟩ rfl (by decide) F.sub_NoneType_dict F.slot_dict_ne F.slot_NoneType_ne_refl
    (fun _ hq => call_meets F.slot_dict_ne ⟨_, ho, rfl⟩ F.entry_dict_ne (F.args_dict_ne_2 _ _) (dk_ne_n l dd es n sl ) ⟨ho, hq⟩)
    (fun _ hq => call_meets F.slot_NoneType_ne_refl rfl F.entry_NoneType_ne (F.args_NoneType_ne_2 _ _) (kd_ne_n l dd es n sl ) ⟨ho, hq⟩)
    (fun _ hq => wpAny_of_eq (rfl : isSame (.ref l) (.none) = pure false) hq) (.inr hu) h
theorem rc_ne_b (x : Bool) (hl : IsD s l) (hu : A.units < cLine) : RcNeAt A s (.ref l) (.bool x) true := fun prog w E Q h => by
  obtain ⟨dd, es, n, sl, ho⟩ := hl.ex
  exact rc_ne_decline_or (k := false) ⟨_, ho, rfl⟩ rfl (by decide) F.sub_bool_dict F.slot_dict_ne F.slot_bool_ne_refl
    (fun _ hq => call_meets F.slot_dict_ne ⟨_, ho, rfl⟩ F.entry_dict_ne (F.args_dict_ne_2 _ _) (dk_ne_b l dd es n sl x) ⟨ho, hq⟩)
    (fun _ hq => call_meets F.slot_bool_ne_refl rfl F.entry_int_ne (F.args_int_ne_2 _ _) (kd_ne_b l dd es n sl x) ⟨ho, hq⟩)
    (fun _ hq => wpAny_of_eq (rfl : isSame (.ref l) (.bool x) = pure false) hq) (.inr hu) h
theorem rc_ne_i (x : Int) (u : Tok) (hl : IsD s l) (hu : A.units < cLine) : RcNeAt A s (.ref l) (.int x u) true := fun prog w E Q h => by
  obtain ⟨dd, es, n, sl, ho⟩ := hl.ex
  exact rc_ne_decline_or (k := false) ⟨_, ho, rfl⟩ rfl (by decide) F.sub_int_dict F.slot_dict_ne F.slot_int_ne_refl
    (fun _ hq => call_meets F.slot_dict_ne ⟨_, ho, rfl⟩ F.entry_dict_ne (F.args_dict_ne_2 _ _) (dk_ne_i l dd es n sl x u) ⟨ho, hq⟩)
    (fun _ hq => call_meets F.slot_int_ne_refl rfl F.entry_int_ne (F.args_int_ne_2 _ _) (kd_ne_i l dd es n sl x u) ⟨ho, hq⟩)
    (fun _ hq => wpAny_of_eq (rfl : isSame (.ref l) (.int x u) = pure false) hq) (.inr hu) h
theorem rc_ne_s (x : Str) (u : Tok) (hl : IsD s l) (hu : A.units < cLine) : RcNeAt A s (.ref l) (.str x u) true := fun prog w E Q h => by
  obtain ⟨dd, es, n, sl, ho⟩ := hl.ex
  exact rc_ne_decline_or (k := false) ⟨_, ho, rfl⟩ rfl (by decide) F.sub_str_dict F.slot_dict_ne F.slot_str_ne_refl
    (fun _ hq => call_meets F.slot_dict_ne ⟨_, ho, rfl⟩ F.entry_dict_ne (F.args_dict_ne_2 _ _) (dk_ne_s l dd es n sl x u) ⟨ho, hq⟩)
    (fun _ hq => call_meets F.slot_str_ne_refl rfl F.entry_str_ne (F.args_str_ne_2 _ _) (kd_ne_s l dd es n sl x u) ⟨ho, hq⟩)
    (fun _ hq => wpAny_of_eq (rfl : isSame (.ref l) (.str x u) = pure false) hq) (.inr hu) h
theorem rc_ne_l {b : Addr} {its : Array Value} (hl : IsD s l) (hb : s.heap.IsList b its) (hu : A.units < cLine) : RcNeAt A s (.ref l) (.ref b) true := fun prog w E Q h => by
  obtain ⟨dd, es, n, sl, ho⟩ := hl.ex
  obtain ⟨⟨c2, dd2, d2, sl2⟩, ho2, hc2, n2, hd2⟩ := id hb
  simp only at hc2 hd2
  subst hc2 hd2
  have hne : l ≠ b := fun e => by
    subst e
    rw [ho] at ho2
    have q := congrArg (fun o : Option Obj => o.map (·.cls)) ho2
    simp at q
  exact rc_ne_decline_or (k := false) ⟨_, ho, rfl⟩ ⟨_, ho2, rfl⟩ (by decide) F.sub_list_dict F.slot_dict_ne F.slot_list_ne_refl
    (fun _ hq => call_meets F.slot_dict_ne ⟨_, ho, rfl⟩ F.entry_dict_ne (F.args_dict_ne_2 _ _) (dk_ne_l l b dd es n sl dd2 its n2 sl2) ⟨ho, ho2, hq⟩)
    (fun _ hq => call_meets F.slot_list_ne_refl ⟨_, ho2, rfl⟩ F.entry_list_ne (F.args_list_ne_2 _ _) (kd_ne_l l b dd es n sl dd2 its n2 sl2) ⟨ho, ho2, hq⟩)
    (fun _ hq => wpAny_isSame_ref_other hne ho ho2 (by simp) hq) (.inr hu) h
theorem rc_ne_t {b : Addr} {its : Array Value} (hl : IsD s l) (hb : s.heap.IsTuple b its) (hu : A.units < cLine) : RcNeAt A s (.ref l) (.ref b) true := fun prog w E Q h => by
  obtain ⟨dd, es, n, sl, ho⟩ := hl.ex
  obtain ⟨⟨c2, dd2, d2, sl2⟩, ho2, hc2, n2, hd2⟩ := id hb
  simp only at hc2 hd2
  subst hc2 hd2
  have hne : l ≠ b := fun e => by
    subst e
    rw [ho] at ho2
    have q := congrArg (fun o : Option Obj => o.map (·.cls)) ho2
    simp at q
  exact rc_ne_decline_or (k := false) ⟨_, ho, rfl⟩ ⟨_, ho2, rfl⟩ (by decide) F.sub_tuple_dict F.slot_dict_ne F.slot_tuple_ne_refl
    (fun _ hq => call_meets F.slot_dict_ne ⟨_, ho, rfl⟩ F.entry_dict_ne (F.args_dict_ne_2 _ _) (dk_ne_t l b dd es n sl dd2 its n2 sl2) ⟨ho, ho2, hq⟩)
    (fun _ hq => call_meets F.slot_tuple_ne_refl ⟨_, ho2, rfl⟩ F.entry_tuple_ne (F.args_tuple_ne_2 _ _) (kd_ne_t l b dd es n sl dd2 its n2 sl2) ⟨ho, ho2, hq⟩)
    (fun _ hq => wpAny_isSame_ref_other hne ho ho2 (by simp) hq) (.inr hu) h
end
end Tw

set_option Elab.async false
set_option linter.all false
set_option maxRecDepth 100000
set_option maxHeartbeats 4000000
namespace Tw
open PySem PySem.Spec PyProof.Rows
open PySem.SeqAt PySem.AutoSeq1
theorem eq_of_rc {A : Around} {s : Shared} {l : Addr} {b : Value} {k : Bool} (hne : Value.ref l ≠ b) (h : RcAt A s (.ref l) b k) : EqAt A s (.ref l) b k := fun prog w E Q hq => by
  unfold eqBool
  refine wpAny_holding (wpAny_ite_split (fun z => absurd (eq_of_beq z) hne) fun _ => ?_)
  cases b <;> exact wpAny_bind (h prog w E _ (wpAny_truthy_bool hq))
theorem dep_t (ys : List PyData) : (PyData.tuple ys).depth = PyData.depthAll ys + 1 := rfl
theorem dep_l (ys : List PyData) : (PyData.list ys).depth = PyData.depthAll ys + 1 := rfl
theorem dep_c (y : PyData) (ys : List PyData) : PyData.depthAll (y :: ys) = max y.depth (PyData.depthAll ys) := rfl
theorem un_in (A : Around) : A.in1.units = A.units + 1 := rfl
mutual
/-- ==, where what stands right has no dict within -/
theorem eq_half : ∀ (db da : PyData) (A : Around) (s : Shared) (a b : Value) (p q : List Addr), Reads s.heap a da p → Reads s.heap b db q → db.plain = true → A.units + db.depth < cLine → EqAt A s a b (PyData.eqv da db)
  | db, da, A, s, a, b, p, q, ra, rb, hb, hu => by
    have h0 : A.units < cLine := by omega
    by_cases hp : da.plain = true
    · exact eqAt_plain da db A s a b p q ra rb hp hb (by omega)
    · cases ra with
      | none => exact absurd rfl hp
      | bool => exact absurd rfl hp
      | int => exact absurd rfl hp
      | str => exact absurd rfl hp
      | dict h1 h2 h3 h4 h5 =>
        have D := IsD.of h1 h2 h3
        cases rb with
        | none => exact eq_of_rc (fun z => nomatch z) (rc_eq_n D h0)
        | bool x => exact eq_of_rc (fun z => nomatch z) (rc_eq_b x D h0)
        | int x u => exact eq_of_rc (fun z => nomatch z) (rc_eq_i x u D h0)
        | str x u => exact eq_of_rc (fun z => nomatch z) (rc_eq_s x u D h0)
        | list k1 k2 k3 k4 =>
          refine eq_of_rc (fun z => ?_) (rc_eq_l D ⟨_, k1, k2, _, k3⟩ h0)
          cases z
          rw [h1] at k1
          cases k1
          rw [h2] at k2
          exact absurd k2 (by simp)
        | tuple k1 k2 k3 k4 =>
          refine eq_of_rc (fun z => ?_) (rc_eq_t D ⟨_, k1, k2, _, k3⟩ h0)
          cases z
          rw [h1] at k1
          cases k1
          rw [h2] at k2
          exact absurd k2 (by simp)
        | dict => exact nomatch hb
      | @list l o vs n xs as1 h1 h2 h3 h4 =>
        have hl : s.heap.IsList l vs := ⟨_, h1, h2, _, h3⟩
        cases rb with
        | none => exact EqAt.list_none hl h0
        | bool x => exact EqAt.list_bool x hl h0
        | int x u => exact EqAt.list_int x u hl h0
        | str x u => exact EqAt.list_str x u hl h0
        | tuple k1 k2 k3 k4 => exact EqAt.list_tuple hl ⟨_, k1, k2, _, k3⟩ h0
        | dict => exact nomatch hb
        | @list m o2 ws n2 ys bs1 k1 k2 k3 k4 =>
          have hm : s.heap.IsList m ws := ⟨_, k1, k2, _, k3⟩
          have n1 : vs.size = xs.length := by simpa using ReadsAll.length _ _ _ h4
          have n2 : ws.size = ys.length := by simpa using ReadsAll.length _ _ _ k4
          have hd := dep_l ys
          refine EqAt.of_refs (fun z => hp ?_) ?_
          · subst z
            rw [plain_unique (.list ys) (.list xs) _ _ _ hb (.list k1 k2 k3 k4) (.list h1 h2 h3 h4)] at hb
            exact hb
          · show RcAt A s (.ref l) (.ref m) (PyData.eqvAll xs ys)
            by_cases hz : vs.size = ws.size
            · rw [← eqvAll_same_length (by omega : xs.length = ys.length), ← n1]
              refine RcAt.lists hl hm hz h0 fun j j1 j2 => ?_
              have := eq_halfAll ys xs A.in1 s vs.toList ws.toList _ _ h4 k4 hb (by rw [un_in]; omega) j (by simpa using j1) (by simpa using j2)
              simpa using this
            · rw [eqvAll_other_length (by omega : xs.length ≠ ys.length)]
              exact RcAt.lists_lengths hl hm (by simpa using hz) h0
      | @tuple l o vs n xs as1 h1 h2 h3 h4 =>
        have hl : s.heap.IsTuple l vs := ⟨_, h1, h2, _, h3⟩
        cases rb with
        | none => exact EqAt.tuple_none hl h0
        | bool x => exact EqAt.tuple_bool x hl h0
        | int x u => exact EqAt.tuple_int x u hl h0
        | str x u => exact EqAt.tuple_str x u hl h0
        | list k1 k2 k3 k4 => exact EqAt.tuple_list hl ⟨_, k1, k2, _, k3⟩ h0
        | dict => exact nomatch hb
        | @tuple m o2 ws n2 ys bs1 k1 k2 k3 k4 =>
          have hm : s.heap.IsTuple m ws := ⟨_, k1, k2, _, k3⟩
          have n1 : vs.size = xs.length := by simpa using ReadsAll.length _ _ _ h4
          have n2 : ws.size = ys.length := by simpa using ReadsAll.length _ _ _ k4
          have hd := dep_t ys
          refine EqAt.of_refs (fun z => hp ?_) ?_
          · subst z
            rw [plain_unique (.tuple ys) (.tuple xs) _ _ _ hb (.tuple k1 k2 k3 k4) (.tuple h1 h2 h3 h4)] at hb
            exact hb
          · show RcAt A s (.ref l) (.ref m) (PyData.eqvAll xs ys)
            rw [← eqvAll_eq xs ys, ← n1, ← n2]
            refine RcAt.tuples hl hm h0 fun j j1 j2 => ?_
            have := eq_halfAll ys xs A.in1 s vs.toList ws.toList _ _ h4 k4 hb (by rw [un_in]; omega) j (by simpa using j1) (by simpa using j2)
            simpa using this
theorem eq_halfAll : ∀ (ys xs : List PyData) (A : Around) (s : Shared) (vs ws : List Value) (p q : List Addr), ReadsAll s.heap vs xs p → ReadsAll s.heap ws ys q → PyData.plainAll ys = true → A.units + PyData.depthAll ys < cLine →
    ∀ j (h1 : j < vs.length) (h2 : j < ws.length), EqAt A s vs[j] ws[j] (pairEq xs ys j)
  | [], xs, A, s, vs, ws, p, q, ra, rb, hb, hu => fun j h1 h2 => by
    cases rb
    exact absurd h2 (Nat.not_lt_zero _)
  | y :: ys, xs, A, s, vs, ws, p, q, ra, rb, hb, hu => fun j h1 h2 => by
    cases rb with
    | cons r' rs' =>
      cases ra with
      | nil => exact absurd h1 (Nat.not_lt_zero _)
      | cons r rs =>
        have hb' : y.plain = true ∧ PyData.plainAll ys = true := by simpa [PyData.plainAll] using hb
        have hd := dep_c y ys
        cases j with
        | zero => exact eq_half y _ A s _ _ _ _ r r' hb'.1 (by omega)
        | succ j => exact eq_halfAll ys _ A s _ _ _ _ rs rs' hb'.2 (by omega) j (Nat.lt_of_succ_lt_succ h1) (Nat.lt_of_succ_lt_succ h2)
end
/-- == at the top -/
theorem rc_half {db da : PyData} {A : Around} {s : Shared} {a b : Value} {p q : List Addr} (ra : Reads s.heap a da p) (rb : Reads s.heap b db q) (hb : db.plain = true) (hu : A.units + db.depth < cLine) : RcAt A s a b (PyData.eqv da db) := by
  have h0 : A.units < cLine := by omega
  by_cases hp : da.plain = true
  · exact rcAt_plain ra rb hp hb (by omega)
  · cases ra with
    | none => exact absurd rfl hp
    | bool => exact absurd rfl hp
    | int => exact absurd rfl hp
    | str => exact absurd rfl hp
    | dict h1 h2 h3 h4 h5 =>
      have D := IsD.of h1 h2 h3
      cases rb with
      | none => exact rc_eq_n D h0
      | bool x => exact rc_eq_b x D h0
      | int x u => exact rc_eq_i x u D h0
      | str x u => exact rc_eq_s x u D h0
      | list k1 k2 k3 k4 => exact rc_eq_l D ⟨_, k1, k2, _, k3⟩ h0
      | tuple k1 k2 k3 k4 => exact rc_eq_t D ⟨_, k1, k2, _, k3⟩ h0
      | dict => exact nomatch hb
    | @list l o vs n xs as1 h1 h2 h3 h4 =>
      have hl : s.heap.IsList l vs := ⟨_, h1, h2, _, h3⟩
      cases rb with
      | none => exact RcAt.list_none hl h0
      | bool x => exact RcAt.list_bool x hl h0
      | int x u => exact RcAt.list_int x u hl h0
      | str x u => exact RcAt.list_str x u hl h0
      | tuple k1 k2 k3 k4 => exact RcAt.list_tuple hl ⟨_, k1, k2, _, k3⟩ h0
      | dict => exact nomatch hb
      | @list m o2 ws n2 ys bs1 k1 k2 k3 k4 =>
        have hm : s.heap.IsList m ws := ⟨_, k1, k2, _, k3⟩
        have n1 : vs.size = xs.length := by simpa using ReadsAll.length _ _ _ h4
        have n2 : ws.size = ys.length := by simpa using ReadsAll.length _ _ _ k4
        have hd := dep_l ys
        show RcAt A s (.ref l) (.ref m) (PyData.eqvAll xs ys)
        by_cases hz : vs.size = ws.size
        · rw [← eqvAll_same_length (by omega : xs.length = ys.length), ← n1]
          refine RcAt.lists hl hm hz h0 fun j j1 j2 => ?_
          have := eq_halfAll ys xs A.in1 s vs.toList ws.toList _ _ h4 k4 hb (by rw [un_in]; omega) j (by simpa using j1) (by simpa using j2)
          simpa using this
        · rw [eqvAll_other_length (by omega : xs.length ≠ ys.length)]
          exact RcAt.lists_lengths hl hm (by simpa using hz) h0
    | @tuple l o vs n xs as1 h1 h2 h3 h4 =>
      have hl : s.heap.IsTuple l vs := ⟨_, h1, h2, _, h3⟩
      cases rb with
      | none => exact RcAt.tuple_none hl h0
      | bool x => exact RcAt.tuple_bool x hl h0
      | int x u => exact RcAt.tuple_int x u hl h0
      | str x u => exact RcAt.tuple_str x u hl h0
      | list k1 k2 k3 k4 => exact RcAt.tuple_list hl ⟨_, k1, k2, _, k3⟩ h0
      | dict => exact nomatch hb
      | @tuple m o2 ws n2 ys bs1 k1 k2 k3 k4 =>
        have hm : s.heap.IsTuple m ws := ⟨_, k1, k2, _, k3⟩
        have n1 : vs.size = xs.length := by simpa using ReadsAll.length _ _ _ h4
        have n2 : ws.size = ys.length := by simpa using ReadsAll.length _ _ _ k4
        have hd := dep_t ys
        show RcAt A s (.ref l) (.ref m) (PyData.eqvAll xs ys)
        rw [← eqvAll_eq xs ys, ← n1, ← n2]
        refine RcAt.tuples hl hm h0 fun j j1 j2 => ?_
        have := eq_halfAll ys xs A.in1 s vs.toList ws.toList _ _ h4 k4 hb (by rw [un_in]; omega) j (by simpa using j1) (by simpa using j2)
        simpa using this
def atomE : PyData → Bool
  | .none => true
  | .bool _ => true
  | .int _ => true
  | .str _ => true
  | _ => false
/-- != of whatever stands left and an atom -/
theorem rn_half {db da : PyData} {A : Around} {s : Shared} {a b : Value} {p q : List Addr} (ra : Reads s.heap a da p) (rb : Reads s.heap b db q) (hb : atomE db = true) (h0 : A.units + 1 < cLine) : RcNeAt A s a b (!PyData.eqv da db) := by
  have h1 : A.units < cLine := by omega
  have hpl : db.plain = true := by cases db <;> first | rfl | cases hb
  have hdp : db.depth = 0 := by cases db <;> first | rfl | cases hb
  by_cases hp : da.plain = true
  · exact rcNe_plain ra rb hp hpl (by omega)
  · cases ra with
    | none => exact absurd rfl hp
    | bool => exact absurd rfl hp
    | int => exact absurd rfl hp
    | str => exact absurd rfl hp
    | dict g1 g2 g3 g4 g5 =>
      have D := IsD.of g1 g2 g3
      cases rb with
      | none => exact rc_ne_n D h1
      | bool x => exact rc_ne_b x D h1
      | int x u => exact rc_ne_i x u D h1
      | str x u => exact rc_ne_s x u D h1
      | list => cases hb
      | tuple => cases hb
      | dict => cases hb
    | @list l o vs n xs as1 g1 g2 g3 g4 =>
      have hl : s.heap.IsList l vs := ⟨_, g1, g2, _, g3⟩
      cases rb with
      | none => exact RcNeAt.list_none hl h1
      | bool x => exact RcNeAt.list_bool x hl h1
      | int x u => exact RcNeAt.list_int x u hl h1
      | str x u => exact RcNeAt.list_str x u hl h1
      | list => cases hb
      | tuple => cases hb
      | dict => cases hb
    | @tuple l o vs n xs as1 g1 g2 g3 g4 =>
      have hl : s.heap.IsTuple l vs := ⟨_, g1, g2, _, g3⟩
      cases rb with
      | none => exact RcNeAt.tuple_none hl h1
      | bool x => exact RcNeAt.tuple_bool x hl h1
      | int x u => exact RcNeAt.tuple_int x u hl h1
      | str x u => exact RcNeAt.tuple_str x u hl h1
      | list => cases hb
      | tuple => cases hb
      | dict => cases hb
end Tw

set_option Elab.async false
set_option linter.all false
set_option maxRecDepth 100000
set_option maxHeartbeats 2000000
namespace Tw
open PySem PySem.Spec PyProof.Rows L2
open Evl (Ex)
section
variable {X : Cx} {pins : List (Addr × Obj)} {σ : L2.St} {H : Hp} {s : Shared}
theorem lstR (I : Inv X pins σ H s) {l : Addr} {xs : List V} (hH : RL X.K H l xs) : xs.length ≤ sizeLine ∧ ∃ (its : List Value) (n : Nat), Vals xs its ∧ xs.length = its.length ∧
    s.heap.get? l = some { cls := .type "list", data := .seq its.toArray n } := by
  rcases hH with hH | ⟨its, n, e, r, z⟩
  · have o := hH.ok I.hok
    obtain ⟨z, its, n, r, e⟩ := o
    exact ⟨z, its, n, r, r.length, e⟩
  · exact ⟨z, its, n, r, r.length, I.kIn _ _ e⟩
end
/-! ### numbers -/
def addI : PyData → PyData → Option PyData
  | .int i, .int j => some (.int (i + j))
  | _, _ => none
def subD : PyData → PyData → Option PyData
  | .int i, .int j => some (.int (i - j))
  | _, _ => none
def mulI : PyData → PyData → Option PyData
  | .int i, .int j => if i.natAbs.log2 + j.natAbs.log2 < 1000000 then some (.int (i * j)) else none
  | _, _ => none
def fdivD : PyData → PyData → Option PyData
  | .int i, .int j => if 0 < j ∧ j.natAbs.log2 < 9000 then some (.int (i / j)) else none
  | _, _ => none
def modD : PyData → PyData → Option PyData
  | .int i, .int j => if 0 < j then some (.int (i % j)) else none
  | _, _ => none
def powD : PyData → PyData → Option PyData
  | .int i, .int j => if 0 ≤ j ∧ (Builtin.Int.intBits i : Int) * j ≤ 2 ^ 27 then some (.int (i ^ j.toNat)) else none
  | _, _ => none
def xorD : PyData → PyData → Option PyData
  | .int i, .int j => some (.int (Builtin.bitXor i j))
  | _, _ => none
def negD : PyData → Option PyData
  | .int i => some (.int (-i))
  | _ => none
theorem opD_I {K : PySem.W.Frag} {C : Int → Int → Prop} {h : Int → Int → PyData} {v : Int → Int → V} (hv : ∀ i j G, Dt K G (v i j) (h i j)) {g : PyData → PyData → Option PyData}
    (hg : ∀ d e z, g d e = some z → ∃ i j, d = .int i ∧ e = .int j ∧ C i j ∧ z = h i j) : OpD K (rI C v) g := fun G H x y d e z Q ex hd he hz k => by
  obtain ⟨i, j, rfl, rfl, hc, rfl⟩ := hg d e z hz
  exact ⟨i, j, dt_int hd, dt_int he, hc, k _ G H .refl ex (hv i j G)⟩
theorem opD_I0 {K : PySem.W.Frag} {h : Int → Int → PyData} {v : Int → Int → V} (hv : ∀ i j G, Dt K G (v i j) (h i j)) {g : PyData → PyData → Option PyData}
    (hg : ∀ d e z, g d e = some z → ∃ i j, d = .int i ∧ e = .int j ∧ z = h i j) : OpD K (rI0 v) g := fun G H x y d e z Q ex hd he hz k => by
  obtain ⟨i, j, rfl, rfl, rfl⟩ := hg d e z hz
  exact ⟨i, j, dt_int hd, dt_int he, k _ G H .refl ex (hv i j G)⟩
theorem ite_p {α : Type} {c : Prop} [Decidable c] {x y : α} (h : (if c then some x else none) = some y) : c ∧ y = x := by
  by_cases q : c
  · rw [if_pos q] at h; exact ⟨q, (Option.some.inj h).symm⟩
  · rw [if_neg q] at h; cases h
section
variable {X : Cx} {K : PySem.W.Frag}
theorem op_powW : OpR X (binaryOp .Pow) (rI (fun i j => 0 ≤ j ∧ (Builtin.Int.intBits i : Int) * j ≤ 2 ^ 27) fun i j => .int (i ^ j.toNat)) := opI fun _ _ _ _ _ _ _ hc q => pow_int hc.1 hc.2 q
theorem d_addI : OpD K (rI0 fun i j => .int (i + j)) addI := opD_I0 (h := fun i j => .int (i + j)) (fun _ _ _ => .ii _) fun d e z h => by
  unfold addI at h
  split at h
  · exact ⟨_, _, rfl, rfl, (Option.some.inj h).symm⟩
  · cases h
theorem d_sub : OpD K (rI0 fun i j => .int (i - j)) subD := opD_I0 (h := fun i j => .int (i - j)) (fun _ _ _ => .ii _) fun d e z h => by
  unfold subD at h
  split at h
  · exact ⟨_, _, rfl, rfl, (Option.some.inj h).symm⟩
  · cases h
theorem d_xor : OpD K (rI0 fun i j => .int (Builtin.bitXor i j)) xorD := opD_I0 (h := fun i j => .int (Builtin.bitXor i j)) (fun _ _ _ => .ii _) fun d e z h => by
  unfold xorD at h
  split at h
  · exact ⟨_, _, rfl, rfl, (Option.some.inj h).symm⟩
  · cases h
theorem d_mulI : OpD K (rI CMulW fun i j => .int (i * j)) mulI := opD_I (h := fun i j => .int (i * j)) (fun _ _ _ => .ii _) fun d e z h => by
  unfold mulI at h
  split at h
  · obtain ⟨h1, h2⟩ := ite_p h
    exact ⟨_, _, rfl, rfl, h1, h2⟩
  · cases h
theorem d_fdiv : OpD K (rI CDivW fun i j => .int (i / j)) fdivD := opD_I (h := fun i j => .int (i / j)) (fun _ _ _ => .ii _) fun d e z h => by
  unfold fdivD at h
  split at h
  · obtain ⟨h1, h2⟩ := ite_p h
    exact ⟨_, _, rfl, rfl, h1, h2⟩
  · cases h
theorem d_mod : OpD K (rI (fun _ j => 0 < j) fun i j => .int (i % j)) modD := opD_I (h := fun i j => .int (i % j)) (fun _ _ _ => .ii _) fun d e z h => by
  unfold modD at h
  split at h
  · obtain ⟨h1, h2⟩ := ite_p h
    exact ⟨_, _, rfl, rfl, h1, h2⟩
  · cases h
theorem d_pow : OpD K (rI (fun i j => 0 ≤ j ∧ (Builtin.Int.intBits i : Int) * j ≤ 2 ^ 27) fun i j => .int (i ^ j.toNat)) powD := opD_I (h := fun i j => .int (i ^ j.toNat)) (fun _ _ _ => .ii _) fun d e z h => by
  unfold powD at h
  split at h
  · obtain ⟨h1, h2⟩ := ite_p h
    exact ⟨_, _, rfl, rfl, h1, h2⟩
  · cases h
theorem d_neg : UnD K (rU fun i => .int (-i)) negD := fun G H x d z Q ex hd hz k => by
  unfold negD at hz
  split at hz
  · cases hz
    exact ⟨_, dt_int hd, k _ G H .refl ex (.ii _)⟩
  · cases hz
/-! ### comparisons of numbers -/
def ltI : PyData → PyData → Option PyData
  | .int i, .int j => some (.bool (decide (i < j)))
  | _, _ => none
/-- a truth as a number -/
def bI (b : Bool) : Int := if b = true then 1 else 0
def leI : PyData → PyData → Option PyData
  | .int i, .int j => some (.bool (decide (i ≤ j)))
  | .bool i, .int j => some (.bool (decide (bI i ≤ j)))
  | _, _ => none
def gtI : PyData → PyData → Option PyData
  | .int i, .int j => some (.bool (decide (j < i)))
  | .bool i, .int j => some (.bool (decide (j < bI i)))
  | _, _ => none
def geI : PyData → PyData → Option PyData
  | .int i, .int j => some (.bool (decide (j ≤ i)))
  | .bool i, .int j => some (.bool (decide (j ≤ bI i)))
  | _, _ => none
theorem d_ltI : OpD K (rI0 fun i j => .bl (decide (i < j))) ltI := opD_I0 (h := fun i j => .bool (decide (i < j))) (fun _ _ _ => .bb _) fun d e z h => by
  unfold ltI at h
  split at h
  · exact ⟨_, _, rfl, rfl, (Option.some.inj h).symm⟩
  · cases h
def r_leI : R2 := fun x y H Q => rI0 (fun i j => .bl (decide (i ≤ j))) x y H Q ∨ ∃ b j, x = .bl b ∧ y = .int j ∧ Q (.bl (decide (bI b ≤ j))) H
theorem gv_leI (b : Bool) (i : Int) (u : Tok) : Gives (Builtin.«int.__le__» ⟨[.bool b, .int i u], []⟩) (.val (.bool (decide (bI b ≤ i)))) := by cases b <;> exact .of_eq rfl
theorem op_leI : OpR X (compareOp .LtE) r_leI := fun pins s σ H x y v u Q I rx ry h => by
  rcases h with h | ⟨b, j, rfl, rfl, q⟩
  · exact op_le pins s σ H x y v u Q I rx ry h
  · obtain rfl : v = Value.bool b := rx
    obtain ⟨t, rfl⟩ := ry
    refine SeqAt.rc_left_or (op := .LtE) (Ta := "bool") (Tb := "int") rfl rfl (by decide) F.sub_int_bool F.slot_bool_le (call_meets F.slot_bool_le rfl F.entry_int_le (F.args_int_le_2 _ _) (gv_leI b j t).meets ?_) (.inl rfl)
    exact ⟨(fun z => nomatch z), .bl _, H, I, rfl, q⟩
theorem d_leI : OpD K r_leI leI := fun G H x y d e z Q ex hd he hz k => by
  unfold leI at hz
  split at hz
  · cases hz
    exact .inl ⟨_, _, dt_int hd, dt_int he, k _ G H .refl ex (.bb _)⟩
  · cases hz
    exact .inr ⟨_, _, dt_bool hd, dt_int he, k _ G H .refl ex (.bb _)⟩
  · cases hz
def r_gtI : R2 := fun x y H Q => rI0 (fun i j => .bl (decide (j < i))) x y H Q ∨ ∃ b j, x = .bl b ∧ y = .int j ∧ Q (.bl (decide (j < bI b))) H
theorem gv_gtI (b : Bool) (i : Int) (u : Tok) : Gives (Builtin.«int.__gt__» ⟨[.bool b, .int i u], []⟩) (.val (.bool (decide (i < bI b)))) := by cases b <;> exact .of_eq rfl
theorem op_gtI : OpR X (compareOp .Gt) r_gtI := fun pins s σ H x y v u Q I rx ry h => by
  rcases h with h | ⟨b, j, rfl, rfl, q⟩
  · exact op_gt pins s σ H x y v u Q I rx ry h
  · obtain rfl : v = Value.bool b := rx
    obtain ⟨t, rfl⟩ := ry
    refine SeqAt.rc_left_or (op := .Gt) (Ta := "bool") (Tb := "int") rfl rfl (by decide) F.sub_int_bool F.slot_bool_gt (call_meets F.slot_bool_gt rfl F.entry_int_gt (F.args_int_gt_2 _ _) (gv_gtI b j t).meets ?_) (.inl rfl)
    exact ⟨(fun z => nomatch z), .bl _, H, I, rfl, q⟩
theorem d_gtI : OpD K r_gtI gtI := fun G H x y d e z Q ex hd he hz k => by
  unfold gtI at hz
  split at hz
  · cases hz
    exact .inl ⟨_, _, dt_int hd, dt_int he, k _ G H .refl ex (.bb _)⟩
  · cases hz
    exact .inr ⟨_, _, dt_bool hd, dt_int he, k _ G H .refl ex (.bb _)⟩
  · cases hz
/-- < where a truth stands for a number -/
def rLtB : R2 := fun x y H Q => (∃ b j, x = .bl b ∧ y = .int j ∧ Q (.bl (decide (bI b < j))) H) ∨ (∃ i b, x = .int i ∧ y = .bl b ∧ Q (.bl (decide (i < bI b))) H) ∨ ∃ a b, x = .bl a ∧ y = .bl b ∧ Q (.bl (decide (bI a < bI b))) H
theorem gv_ltI (b : Bool) (i : Int) (u : Tok) : Gives (Builtin.«int.__lt__» ⟨[.bool b, .int i u], []⟩) (.val (.bool (decide (bI b < i)))) := by cases b <;> exact .of_eq rfl
theorem gv_ltB (a b : Bool) : Gives (Builtin.«int.__lt__» ⟨[.bool a, .bool b], []⟩) (.val (.bool (decide (bI a < bI b)))) := by cases a <;> cases b <;> exact .of_eq rfl
theorem op_ltB : OpR X (compareOp .Lt) rLtB := fun pins s σ H x y v u Q I rx ry h => by
  rcases h with ⟨b, j, rfl, rfl, q⟩ | ⟨i, b, rfl, rfl, q⟩ | ⟨a, b, rfl, rfl, q⟩
  · obtain rfl : v = Value.bool b := rx
    obtain ⟨t, rfl⟩ := ry
    refine SeqAt.rc_left_or (op := .Lt) (Ta := "bool") (Tb := "int") rfl rfl (by decide) F.sub_int_bool F.slot_bool_lt (call_meets F.slot_bool_lt rfl F.entry_int_lt (F.args_int_lt_2 _ _) (gv_ltI b j t).meets ?_) (.inl rfl)
    exact ⟨(fun z => nomatch z), .bl _, H, I, rfl, q⟩
  · obtain ⟨t, rfl⟩ := rx
    obtain rfl : u = Value.bool b := ry
    refine SeqAt.rc_sub_first_or (op := .Lt) (Ta := "int") (Tb := "bool") rfl rfl (by decide) F.sub_bool_int F.slot_bool_gt (call_meets F.slot_bool_gt rfl F.entry_int_gt (F.args_int_gt_2 _ _) (gv_gtI b i t).meets ?_) (.inl rfl)
    exact ⟨(fun z => nomatch z), .bl _, H, I, rfl, q⟩
  · obtain rfl : v = Value.bool a := rx
    obtain rfl : u = Value.bool b := ry
    exact richCompare_gives (op := .Lt) (T := "bool") rfl rfl F.slot_bool_lt F.entry_int_lt (F.args_int_lt_2 _ _) (gv_ltB a b) (fun x => nomatch x) ⟨.bl _, H, I, rfl, q⟩
def ltB : PyData → PyData → Option PyData
  | .bool b, .int j => some (.bool (decide (bI b < j)))
  | .int i, .bool b => some (.bool (decide (i < bI b)))
  | .bool a, .bool b => some (.bool (decide (bI a < bI b)))
  | _, _ => none
theorem d_ltB : OpD K rLtB ltB := fun G H x y d e z Q ex hd he hz k => by
  unfold ltB at hz
  split at hz
  · cases hz
    exact .inl ⟨_, _, dt_bool hd, dt_int he, k _ G H .refl ex (.bb _)⟩
  · cases hz
    exact .inr (.inl ⟨_, _, dt_int hd, dt_bool he, k _ G H .refl ex (.bb _)⟩)
  · cases hz
    exact .inr (.inr ⟨_, _, dt_bool hd, dt_bool he, k _ G H .refl ex (.bb _)⟩)
  · cases hz
def r_geI : R2 := fun x y H Q => rI0 (fun i j => .bl (decide (j ≤ i))) x y H Q ∨ ∃ b j, x = .bl b ∧ y = .int j ∧ Q (.bl (decide (j ≤ bI b))) H
theorem gv_geI (b : Bool) (i : Int) (u : Tok) : Gives (Builtin.«int.__ge__» ⟨[.bool b, .int i u], []⟩) (.val (.bool (decide (i ≤ bI b)))) := by cases b <;> exact .of_eq rfl
theorem op_geI : OpR X (compareOp .GtE) r_geI := fun pins s σ H x y v u Q I rx ry h => by
  rcases h with h | ⟨b, j, rfl, rfl, q⟩
  · exact op_ge pins s σ H x y v u Q I rx ry h
  · obtain rfl : v = Value.bool b := rx
    obtain ⟨t, rfl⟩ := ry
    refine SeqAt.rc_left_or (op := .GtE) (Ta := "bool") (Tb := "int") rfl rfl (by decide) F.sub_int_bool F.slot_bool_ge (call_meets F.slot_bool_ge rfl F.entry_int_ge (F.args_int_ge_2 _ _) (gv_geI b j t).meets ?_) (.inl rfl)
    exact ⟨(fun z => nomatch z), .bl _, H, I, rfl, q⟩
theorem d_geI : OpD K r_geI geI := fun G H x y d e z Q ex hd he hz k => by
  unfold geI at hz
  split at hz
  · cases hz
    exact .inl ⟨_, _, dt_int hd, dt_int he, k _ G H .refl ex (.bb _)⟩
  · cases hz
    exact .inr ⟨_, _, dt_bool hd, dt_int he, k _ G H .refl ex (.bb _)⟩
  · cases hz
/-- tuples of numbers -/
def intsOf : List PyData → Option (List Int)
  | [] => some []
  | .int i :: r => (intsOf r).map (i :: ·)
  | _ :: _ => none
theorem intsOf_eq : ∀ {ds : List PyData} {ns : List Int}, intsOf ds = some ns → ds = ns.map .int
  | [], ns, h => by cases h; rfl
  | .int i :: r, ns, h => by
    unfold intsOf at h
    cases q : intsOf r with
    | none => rw [q] at h; cases h
    | some ms =>
      rw [q] at h
      cases h
      rw [intsOf_eq q]
      rfl
  | .none :: _, _, h => by cases h
  | .bool _ :: _, _, h => by cases h
  | .str _ :: _, _, h => by cases h
  | .list _ :: _, _, h => by cases h
  | .tuple _ :: _, _, h => by cases h
  | .dict _ :: _, _, h => by cases h
theorem intsOf_map : ∀ ns : List Int, intsOf (ns.map .int) = some ns
  | [] => rfl
  | n :: ns => by
    show (intsOf (ns.map .int)).map (n :: ·) = _
    rw [intsOf_map ns]
    rfl
theorem da_ints {G : Hp} : ∀ {xs : List V} {ns : List Int}, Da K G xs (ns.map .int) → xs = ns.map V.int
  | _, [], .nil => rfl
  | _, _ :: _, .cons h t => by
    rw [List.map_cons, dt_int h, da_ints t]
def ltT : PyData → PyData → Option PyData
  | .tuple ds, .tuple es => (intsOf ds).bind fun ns => (intsOf es).map fun ms => .bool (HT.lexLt ns ms)
  | _, _ => none
theorem d_ltT : OpD K (rLtT K) ltT := fun G H x y d e z Q ex hd he hz k => by
  unfold ltT at hz
  split at hz
  · rename_i ds es
    obtain ⟨ns, h1, h2⟩ := Option.bind_eq_some_iff.mp hz
    obtain ⟨ms, h3, rfl⟩ := Option.map_eq_some_iff.mp h2
    obtain rfl := intsOf_eq h1
    obtain rfl := intsOf_eq h3
    obtain ⟨a, xs, rfl, hx, dx⟩ := dt_tup hd
    obtain ⟨b, ys, rfl, hy, dy⟩ := dt_tup he
    obtain rfl := da_ints dx
    obtain rfl := da_ints dy
    exact ⟨a, b, ns, ms, rfl, rfl, Evl.ex_t ex hx, Evl.ex_t ex hy, k _ G H .refl ex (.bb _)⟩
  · cases hz
/-! ### == and != -/
/-- no dict within, not too deep -/
def flatOk (d : PyData) : Bool := d.plain && decide (d.depth ≤ 60)
theorem flatOk_of {d : PyData} (h : flatOk d = true) : d.plain = true ∧ d.depth ≤ 60 := by
  have q := Bool.and_eq_true_iff.mp h
  exact ⟨q.1, of_decide_eq_true q.2⟩
/-- lists of unlike lengths, whatever they hold -/
def unlen : PyData → PyData → Bool
  | .list xs, .list ys => xs.length != ys.length
  | _, _ => false
/-- what is right of == has no dict within, of != it is an atom: then left may stand anything -/
def halfE (_ e : PyData) : Bool := flatOk e
def halfN (_ e : PyData) : Bool := atomE e
def eqD : PyData → PyData → Option PyData := fun d e => if unlen d e = true then some (.bool false) else if (flatOk d && flatOk e) = true then some (.bool (PyData.eqv d e)) else if halfE d e = true then some (.bool (PyData.eqv d e)) else none
def neD : PyData → PyData → Option PyData := fun d e => if unlen d e = true then some (.bool true) else if (flatOk d && flatOk e) = true then some (.bool (!PyData.eqv d e)) else if halfN d e = true then some (.bool (!PyData.eqv d e)) else none
def rCmp2 (K : PySem.W.Frag) (u : Bool) (h g : PyData → PyData → Bool) : R2 := fun x y H Q => ∃ d e, Dt K H x d ∧ Dt K H y e ∧ ((unlen d e = true ∧ Q (.bl u) H) ∨ (flatOk d = true ∧ flatOk e = true ∧ Q (.bl (g d e)) H) ∨ (h d e = true ∧ Q (.bl (g d e)) H))
abbrev rEq2 (K : PySem.W.Frag) : R2 := rCmp2 K false halfE PyData.eqv
abbrev rNe2 (K : PySem.W.Frag) : R2 := rCmp2 K true halfN fun d e => !PyData.eqv d e
theorem unlen_at {h : Heap} {a b : Value} {d e : PyData} {as bs : List Addr} (u : unlen d e = true) (ra : Reads h a d as) (rb : Reads h b e bs) : ∃ l l' vs vs', a = .ref l ∧ b = .ref l' ∧ h.IsList l vs ∧ h.IsList l' vs' ∧ (vs.size != vs'.size) = true := by
  unfold unlen at u
  split at u
  · cases ra with
    | list h1 h2 h3 h4 =>
      cases rb with
      | list k1 k2 k3 k4 =>
        rename_i vs _ _ _ _ vs' _ _
        have n1 := SeqAt.ReadsAll.length _ _ _ h4
        have n2 := SeqAt.ReadsAll.length _ _ _ k4
        refine ⟨_, _, _, _, rfl, rfl, ⟨_, h1, h2, _, h3⟩, ⟨_, k1, k2, _, k3⟩, ?_⟩
        simp only [Array.length_toList] at n1 n2
        rw [n1, n2]
        exact u
  · cases u
theorem op_eq2 (hu : X.A.units + 64 < cLine) : OpR X (compareOp .Eq) (rEq2 X.K) := fun pins s σ H x y v u Q I rx ry ⟨d, e, hd, he, q⟩ => by
  obtain ⟨as, r1⟩ := hd.reads I rx
  obtain ⟨bs, r2⟩ := he.reads I ry
  rcases q with ⟨z, q⟩ | ⟨sd, se, q⟩ | ⟨se, q⟩
  rotate_right
  · exact rc_half r1 r2 (flatOk_of se).1 (by have := (flatOk_of se).2; omega) _ _ _ _ ⟨.bl _, H, I, rfl, q⟩
  · obtain ⟨l, l', vs, vs', rfl, rfl, h1, h2, h3⟩ := unlen_at z r1 r2
    exact SeqAt.RcAt.lists_lengths h1 h2 h3 (by omega) _ _ _ _ ⟨.bl _, H, I, rfl, q⟩
  · exact SeqAt.eq_plain r1 r2 (flatOk_of sd).1 (flatOk_of se).1 (by have := (flatOk_of sd).2; omega) ⟨.bl _, H, I, rfl, q⟩
theorem op_ne2 (hu : X.A.units + 64 < cLine) : OpR X (compareOp .NotEq) (rNe2 X.K) := fun pins s σ H x y v u Q I rx ry ⟨d, e, hd, he, q⟩ => by
  obtain ⟨as, r1⟩ := hd.reads I rx
  obtain ⟨bs, r2⟩ := he.reads I ry
  rcases q with ⟨z, q⟩ | ⟨sd, se, q⟩ | ⟨se, q⟩
  rotate_right
  · exact rn_half r1 r2 se (by omega) _ _ _ _ ⟨.bl _, H, I, rfl, q⟩
  · obtain ⟨l, l', vs, vs', rfl, rfl, h1, h2, h3⟩ := unlen_at z r1 r2
    exact SeqAt.RcNeAt.lists_lengths h1 h2 h3 (by omega) _ _ _ _ ⟨.bl _, H, I, rfl, q⟩
  · exact SeqAt.ne_plain r1 r2 (flatOk_of sd).1 (flatOk_of se).1 (by have := (flatOk_of sd).2; omega) ⟨.bl _, H, I, rfl, q⟩
theorem d_cmp2 {u : Bool} {h g : PyData → PyData → Bool} : OpD K (rCmp2 K u h g) (fun d e => if unlen d e = true then some (.bool u) else if (flatOk d && flatOk e) = true then some (.bool (g d e)) else if h d e = true then some (.bool (g d e)) else none) := fun G H x y d e z Q ex hd he hz k => by
  refine ⟨d, e, hd.mono ex, he.mono ex, ?_⟩
  dsimp only at hz
  split at hz
  · rename_i hc
    cases hz
    exact .inl ⟨hc, k _ G H .refl ex (.bb _)⟩
  · split at hz
    · rename_i h1
      cases hz
      rw [Bool.and_eq_true] at h1
      exact .inr (.inl ⟨h1.1, h1.2, k _ G H .refl ex (.bb _)⟩)
    · obtain ⟨h1, rfl⟩ := ite_p hz
      exact .inr (.inr ⟨h1, k _ G H .refl ex (.bb _)⟩)
theorem d_eq : OpD K (rEq2 K) eqD := d_cmp2
theorem d_ne : OpD K (rNe2 K) neD := d_cmp2
/-! ### items -/
/-- a list's place told by a truth -/
theorem sub_bool {M : Model} {A : Around} {E : Value → Shared → Prop} {s : Shared} {b : Bool} {Q : Option Int → Shared → Prop} (h : Q (some (bI b)) s) : wpAny M A (Builtin.List.listSubscript? (.bool b)) Q E s := by
  unfold Builtin.List.listSubscript?
  refine wpAny_bind (wpAny_specialOf (T := "bool") rfl F.slot_bool_index.lookup ?_)
  show wpAny M A (asIndex (.bool b) >>= _) Q E s
  refine wpAny_bind (wpAny_of_eq (a := bI b) (by cases b <;> rfl) ?_)
  have hf : Builtin.List.listFitsIndex (bI b) = true := by cases b <;> decide
  show wpAny M A (if (!Builtin.List.listFitsIndex (bI b)) = true then _ else _) Q E s
  rw [hf]
  exact wpAny_pure h
theorem get_bool {prog : Program} {w : World} {A : Around} {E : Value → Shared → Prop} {s : Shared} {l : Addr} {items : Array Value} {b : Bool} {x : Value} {Q : Value → Shared → Prop} (hl : s.heap.IsList l items) (hx : items[(bI b).toNat]? = some x) (h : Q x s) :
    wpAny (model prog w) A (getItem (.ref l) (.bool b)) Q E s := by
  obtain ⟨o, ho, hc, ne, hd⟩ := id hl
  unfold getItem
  try with_reducible refine wpAny_holding ?_
  first | refine wpAny_bind (wpAny_pure ?_) | skip
  refine wpAny_bind (wpAny_sequenceKey hl.typeIs (by decide) ?_)
  refine wpAny_bind (wpAny_callSpecial?_slot (name := Str.ofString "__getitem__") hl.typeIs slot_list_getitem (wpAny_call_entry slot_list_getitem hl.typeIs entry_list_getitem ?_ (args_list_getitem _ _)))
  show wpAny _ _ (Builtin.List.listSubscript? (.bool b) >>= _) _ _ s
  refine wpAny_bind (sub_bool ?_)
  have hb : bI b = (((bI b).toNat : Nat) : Int) := by cases b <;> rfl
  rw [hb]
  generalize (bI b).toNat = j at hx
  show wpAny _ _ ((seqItemAt l j >>= fun r => pure (r.map (j, ·))) >>= _) _ _ s
  refine wpAny_bind (wpAny_bind (wpAny_seqItemAt ho hd (wpAny_pure ?_)))
  rw [hx]
  first
    | exact wpAny_bind (wpAny_pure (wpAny_pure ⟨x, rfl, wpAny_pure h⟩))
    | exact wpAny_pure ⟨x, rfl, wpAny_pure h⟩
def rIxB (K : PySem.W.Frag) : R2 := fun x y H Q => ∃ p xs b v, x = .ref p ∧ y = .bl b ∧ SqL K H p xs ∧ xs[(bI b).toNat]? = some v ∧ Q v H
theorem ix_listB {X : Cx} : IxR X (rIxB X.K) := fun value slice pins s σ H x y v u Q I rx ry h hs => by
  obtain ⟨p, xs, b, z, rfl, rfl, hq, he, q⟩ := h
  cases rx
  obtain rfl : u = Value.bool b := ry
  obtain ⟨its, r, pl, hz⟩ := I.list hq
  obtain ⟨w, ew, rw'⟩ := r.get he
  exact subscriptTail_builtinR (x := w) pl.isList.typeIs slot_list_getitem.lookup (get_bool (Q := fun r s' => r = w ∧ EP X pins σ Q r s') pl.isList (by simpa using ew) ⟨rfl, z, H, I, rw', q⟩) hs
def rIx3 (K : PySem.W.Frag) : R2 := fun x y H Q => rIx K x y H Q ∨ rIxB K x y H Q
theorem ix_seqB {X : Cx} : IxR X (rIx3 X.K) := ix_seq.or ix_listB
def ixD : PyData → PyData → Option PyData
  | .list ds, .int i => atI ds i
  | .list ds, .bool b => ds[(bI b).toNat]?
  | .tuple ds, .int i => atI ds i
  | .str z, .int i => if z.length ≤ sizeLine then (atI z.cps.toList i).map fun c => .str ⟨#[c]⟩ else none
  | _, _ => none
theorem atI_da {G : Hp} {xs : List V} {ds : List PyData} (h : Da K G xs ds) {i : Int} {d : PyData} (e : atI ds i = some d) : ∃ v, atI xs i = some v ∧ Dt K G v d := by
  unfold atI at e ⊢
  obtain ⟨j, h1, h2⟩ := Option.bind_eq_some_iff.mp e
  obtain ⟨v, h3, h4⟩ := h.get h2
  rw [h.len, h1]
  exact ⟨v, h3, h4⟩
theorem d_ix : OpD K (rIx3 K) ixD := fun G H x y d e z Q ex hd he hz k => by
  unfold ixD at hz
  split at hz
  · obtain ⟨a, xs, rfl, hx, dx⟩ := dt_list hd
    obtain ⟨v, hv, dv⟩ := atI_da dx hz
    exact .inl (.inl ⟨a, xs, _, v, rfl, dt_int he, (hx.mono ex).sq, hv, k _ G H .refl ex dv⟩)
  · obtain ⟨a, xs, rfl, hx, dx⟩ := dt_list hd
    obtain ⟨v, hv, dv⟩ := dx.get hz
    exact .inr ⟨a, xs, _, v, rfl, dt_bool he, (hx.mono ex).sq, hv, k _ G H .refl ex dv⟩
  · obtain ⟨a, xs, rfl, hx, dx⟩ := dt_tup hd
    obtain ⟨v, hv, dv⟩ := atI_da dx hz
    exact .inl (.inr (.inl ⟨a, xs, _, v, rfl, dt_int he, Evl.ex_t ex hx, hv, k _ G H .refl ex dv⟩))
  · split at hz
    · rename_i hl
      obtain ⟨c, hc, rfl⟩ := Option.map_eq_some_iff.mp hz
      exact .inl (.inr (.inr ⟨_, _, c, dt_str hd, dt_int he, hl, hc, k _ G H .refl ex (.ss _)⟩))
    · cases hz
  · cases hz
/-! ### + of lists, tuples, texts -/
def rCatR (K : PySem.W.Frag) : R2 := fun x y H Q => ∃ l b xs zs, x = .ref l ∧ y = .ref b ∧ RL K H l xs ∧ RL K H b zs ∧ xs.length + zs.length ≤ sizeLine ∧ ∀ p, H p = none → Q (.ref p) (upd H p (.lst (xs ++ zs)))
theorem op_catR : OpR X (binaryOp .Add) (rCatR X.K) := fun pins s σ H x y v u Q I rx ry ⟨l, b, xs, zs, ex, ey, hH, hB, hz, q⟩ => by
  subst ex; subst ey
  cases rx
  cases ry
  obtain ⟨z, its, n, r, hl, e⟩ := lstR I hH
  obtain ⟨z2, its2, n2, r2, hl2, e2⟩ := lstR I hB
  refine PySem.P.add_list e e2 ?_ (by simp only [List.size_toArray]; omega)
  have ea : its.toArray ++ its2.toArray = (its ++ its2).toArray := by simp
  rw [ea]
  refine ⟨.ref s.heap.objs.size, _, I.lnew (t' := s.toks) (r.append r2) (by simp only [List.length_append]; omega), rfl, q _ I.fresh⟩
def catD : PyData → PyData → Option PyData
  | .list ds, .list es => if sizeOk (ds.length + es.length) = true then some (.list (ds ++ es)) else none
  | _, _ => none
theorem d_cat : OpD K (rCatR K) catD := fun G H x y d e z Q ex hd he hz k => by
  unfold catD at hz
  split at hz
  · obtain ⟨hs, rfl⟩ := ite_p hz
    obtain ⟨a, xs, rfl, hx, dx⟩ := dt_list hd
    obtain ⟨b, ys, rfl, hy, dy⟩ := dt_list he
    refine ⟨a, b, xs, ys, rfl, rfl, (hx.mono ex), (hy.mono ex), by rw [dx.len, dy.len]; exact sizeOk_le hs, fun p hp => ?_⟩
    have t : Tr nobody G H (upd G p (.lst (xs ++ ys))) (upd H p (.lst (xs ++ ys))) := Tr.new hp ex
    exact k _ _ _ t (ex_upd ex) (.ll (RL.of upd_same) ((dx.app dy).mono t.g))
  · cases hz
def catT : PyData → PyData → Option PyData
  | .tuple ds, .tuple es => if sizeOk (ds.length + es.length) = true then some (.tuple (ds ++ es)) else none
  | _, _ => none
theorem d_catT : OpD K (rCatP K) catT := fun G H x y d e z Q ex hd he hz k => by
  unfold catT at hz
  split at hz
  · obtain ⟨hs, rfl⟩ := ite_p hz
    obtain ⟨a, xs, rfl, hx, dx⟩ := dt_tup hd
    obtain ⟨b, ys, rfl, hy, dy⟩ := dt_tup he
    refine ⟨a, b, xs, ys, rfl, rfl, Evl.ex_t ex hx, Evl.ex_t ex hy, by rw [dx.len, dy.len]; exact sizeOk_le hs, fun h0 => ?_, fun h1 h2 => ?_, fun h1 h2 p o hp ho => ?_⟩
    · subst h0
      cases dx
      exact k _ G H .refl ex he
    · subst h2
      cases dy
      exact k _ G H .refl ex (by rw [List.append_nil]; exact hd)
    · have t : Tr nobody G H (upd G p (.frz o (.tup (xs ++ ys)))) (upd H p (.frz o (.tup (xs ++ ys)))) := Tr.new hp ex
      exact k _ _ _ t (ex_upd ex) (.tt (PTu.new ho) ((dx.app dy).mono t.g))
  · cases hz
def catS : PyData → PyData → Option PyData
  | .str x, .str y => if x.length + y.length ≤ sizeLine then some (.str (x ++ y)) else none
  | _, _ => none
def rCatZ : R2 := fun x y H Q => ∃ i j, x = .str i ∧ y = .str j ∧ i.length + j.length ≤ sizeLine ∧ Q (.str (i ++ j)) H
theorem d_catS : OpD K rCatZ catS := fun G H x y d e z Q ex hd he hz k => by
  unfold catS at hz
  split at hz
  · obtain ⟨hs, rfl⟩ := ite_p hz
    exact ⟨_, _, dt_str hd, dt_str he, hs, k _ G H .refl ex (.ss _)⟩
  · cases hz
def addB : PyData → PyData → Option PyData
  | .bool b, .int j => some (.int (bI b + j))
  | _, _ => none
def rAddB : R2 := fun x y H Q => ∃ b j, x = .bl b ∧ y = .int j ∧ Q (.int (bI b + j)) H
theorem op_addB : OpR X (binaryOp .Add) rAddB := fun pins s σ H x y v u Q I rx ry ⟨b, j, e1, e2, q⟩ => by
  subst e1; subst e2
  obtain rfl : v = Value.bool b := rx
  obtain ⟨t, rfl⟩ := ry
  exact PySem.IntBool.add_bool_int ⟨.int _, H, I.tok _, ⟨_, rfl⟩, q⟩
theorem d_addB : OpD K rAddB addB := fun G H x y d e z Q ex hd he hz k => by
  unfold addB at hz
  split at hz
  · cases hz
    exact ⟨_, _, dt_bool hd, dt_int he, k _ G H .refl ex (.ii _)⟩
  · cases hz
def addD : PyData → PyData → Option PyData
  | .int i, .int j => some (.int (i + j))
  | .bool b, .int j => some (.int (bI b + j))
  | .list ds, .list es => if sizeOk (ds.length + es.length) = true then some (.list (ds ++ es)) else none
  | .tuple ds, .tuple es => if sizeOk (ds.length + es.length) = true then some (.tuple (ds ++ es)) else none
  | .str x, .str y => if x.length + y.length ≤ sizeLine then some (.str (x ++ y)) else none
  | _, _ => none
theorem OpD.eq {r : R2} {g g' : PyData → PyData → Option PyData} (h : OpD K r g) (e : ∀ d z, g' d z = g d z) : OpD K r g' := by
  rw [show g' = g from funext fun d => funext fun z => e d z]; exact h
def rAdd (K : PySem.W.Frag) : R2 := fun x y H Q => rI0 (fun i j => .int (i + j)) x y H Q ∨ rCatR K x y H Q ∨ rCatP K x y H Q ∨ rCatZ x y H Q ∨ rAddB x y H Q
theorem op_addD : OpR X (binaryOp .Add) (rAdd X.K) := op_add.or (op_catR.or (op_catP.or (op_add_str.or op_addB)))
theorem d_add : OpD K (rAdd K) addD := (d_addI.or (d_cat.or (d_catT.or (d_catS.or d_addB)))).eq fun d e => by
  cases d <;> cases e <;> first | rfl | (simp only [addD, addI, catD, catT, catS, addB]; split <;> rfl)
def ltD : PyData → PyData → Option PyData
  | .int i, .int j => some (.bool (decide (i < j)))
  | .tuple ds, .tuple es => (intsOf ds).bind fun ns => (intsOf es).map fun ms => .bool (HT.lexLt ns ms)
  | .bool b, .int j => some (.bool (decide (bI b < j)))
  | .int i, .bool b => some (.bool (decide (i < bI b)))
  | .bool a, .bool b => some (.bool (decide (bI a < bI b)))
  | _, _ => none
def rLtD (K : PySem.W.Frag) : R2 := fun x y H Q => rI0 (fun i j => .bl (decide (i < j))) x y H Q ∨ rLtT K x y H Q ∨ rLtB x y H Q
theorem op_ltD (hu : X.A.units < cLine) : OpR X (compareOp .Lt) (rLtD X.K) := op_lt.or ((op_ltT hu).or op_ltB)
theorem d_lt : OpD K (rLtD K) ltD := (d_ltI.or (d_ltT.or d_ltB)).eq fun d e => by
  cases d <;> cases e <;> first | rfl | (simp only [ltD, ltI, ltT, ltB, Option.none_or, Option.or_none])
end
end Tw

set_option Elab.async false
set_option linter.all false
set_option maxRecDepth 100000
set_option maxHeartbeats 2000000
namespace Tw
open PySem PySem.Spec PyProof.Rows L2
open Evl (Ex)
section
variable {X : Cx} {e a b c : Expr} {es rest : List Expr} {pos : Pos} {bb : Bool} {f fa fb fc : FE PyData} {g g1 g2 : FE Bool} {σ : L2.St} {ρ ρ1 ρ2 : Rho}
/-! ### tests -/
def fTst (f : FE PyData) : FE Bool := thnE f fun x => match x with
  | .bool b => ret b
  | _ => fun _ => none
theorem fTst_of {f : FE PyData} {ρ ρ' : Rho} {b : Bool} (h : fTst f ρ = some (b, ρ')) : f ρ = some (.bool b, ρ') := by
  obtain ⟨x, ρ1, h1, h2⟩ := thnE_of h
  cases x with
  | bool c =>
    obtain ⟨rfl, rfl⟩ := ret_of h2
    exact h1
  | _ => cases h2
theorem tst_run {H : Hp} {Q : Bool → Hp → Prop} (h : tT X.K bb (fTst f) σ H Q) : tE X.K bb f σ H fun x H1 => ∃ c, x = .bl c ∧ Q c H1 := by
  obtain ⟨G, ρ, d, ρ', E, ef, k⟩ := h
  exact ⟨G, ρ, _, ρ', E, fTst_of ef, fun v G1 H1 t1 o1 E1 d1 => ⟨d, dt_bool d1, k G1 H1 t1 o1 E1⟩⟩
theorem t_val (h : PE X e (tE X.K bb f)) (he : ∀ whole, isTrue e X.env whole = (do let v ← whole; standAt e.pos; holding [v] (truthy v)) := by intro _; rfl) : PT X e (tT X.K bb (fTst f)) :=
  PT.weak (pt_val h he) fun _ _ _ h => tst_run h
theorem t_cmp {op : CmpOp} {r : R2} {g : PyData → PyData → Option PyData} (ho : OpR X (compareOp op) r) (hr : OpD X.K r g) (hm : behindInMarks op b = false) (ha : PE X a (tE X.K bb fa)) (hb : PE X b (tE X.K bb fb)) :
    PT X (.Compare a [op] [b] pos) (tT X.K bb (fTst (fBin g fa fb))) := PT.weak (pt_cmpR ho ha hb hm) fun _ _ _ h => by
  obtain ⟨G, ρ, d, ρ', E, ef, k⟩ := tst_run h
  exact bin_run hr ⟨G, ρ, d, ρ', E, ef, k⟩
def tdAnd (g1 g2 : FE Bool) : FE Bool := thnE g1 fun c => if c = true then g2 else ret false
def tdOr (g1 g2 : FE Bool) : FE Bool := thnE g1 fun c => if c = true then ret true else g2
def tdNot (g1 : FE Bool) : FE Bool := thnE g1 fun c => ret (!c)
theorem w_and1 (h : PT X a (tT X.K bb g)) : PW X (.BoolOp .And [a] pos) (tT X.K bb g) := pw_and1 h
theorem w_or1 (h : PT X a (tT X.K bb g)) : PW X (.BoolOp .Or [a] pos) (tT X.K bb g) := pw_or1 h
theorem PW.weak {t t' : TT} (h : PW X e t) (w : ∀ σ H Q, t' σ H Q → t σ H Q) : PW X e t' := ⟨fun whole pins s σ H Q I q => h.run whole pins s σ H Q I (w σ H Q q)⟩
theorem w_and (ha : PT X a (tT X.K bb g1)) (hb : PW X (.BoolOp .And (b :: rest) pos) (tT X.K bb g2)) : PW X (.BoolOp .And (a :: b :: rest) pos) (tT X.K bb (tdAnd g1 g2)) :=
  PW.weak (pw_and ha hb) fun σ H Q ⟨G, ρ, d, ρ', E, ef, k⟩ => by
    obtain ⟨c, ρ1, h1, h2⟩ := thnE_of ef
    refine ⟨G, ρ, c, ρ1, E, h1, fun G1 H1 t1 o1 E1 => ?_⟩
    cases c with
    | true => exact ⟨G1, ρ1, d, ρ', E1, h2, fun G2 H2 t2 o2 E2 => k G2 H2 (t1.seq o1 t2) (fun l q => o1 l (o2 l q)) E2⟩
    | false =>
      obtain ⟨rfl, rfl⟩ := ret_of (show ret false ρ1 = _ from h2)
      exact k G1 H1 t1 o1 E1
theorem w_or (ha : PT X a (tT X.K bb g1)) (hb : PW X (.BoolOp .Or (b :: rest) pos) (tT X.K bb g2)) : PW X (.BoolOp .Or (a :: b :: rest) pos) (tT X.K bb (tdOr g1 g2)) :=
  PW.weak (pw_or ha hb) fun σ H Q ⟨G, ρ, d, ρ', E, ef, k⟩ => by
    obtain ⟨c, ρ1, h1, h2⟩ := thnE_of ef
    refine ⟨G, ρ, c, ρ1, E, h1, fun G1 H1 t1 o1 E1 => ?_⟩
    cases c with
    | false => exact ⟨G1, ρ1, d, ρ', E1, h2, fun G2 H2 t2 o2 E2 => k G2 H2 (t1.seq o1 t2) (fun l q => o1 l (o2 l q)) E2⟩
    | true =>
      obtain ⟨rfl, rfl⟩ := ret_of (show ret true ρ1 = _ from h2)
      exact k G1 H1 t1 o1 E1
theorem t_not (ha : PT X a (tT X.K bb g)) : PT X (.UnaryOp .Not a pos) (tT X.K bb (tdNot g)) := PT.weak (pt_not ha) fun σ H Q ⟨G, ρ, d, ρ', E, ef, k⟩ => by
  obtain ⟨c, ρ1, h1, h2⟩ := thnE_of ef
  obtain ⟨rfl, rfl⟩ := ret_of h2
  exact ⟨G, ρ, c, ρ', E, h1, fun G1 H1 t1 o1 E1 => k G1 H1 t1 o1 E1⟩
/-! ### and, or, not, if as values -/
def vAnd (fa fb : FE PyData) : FE PyData := thnE (fTst fa) fun c => if c = true then fb else ret (.bool false)
def vOr (fa fb : FE PyData) : FE PyData := thnE (fTst fa) fun c => if c = true then ret (.bool true) else fb
def vNot (fa : FE PyData) : FE PyData := thnE (fTst fa) fun c => ret (.bool (!c))
def fIf (g : FE Bool) (fa fb : FE PyData) : FE PyData := thnE g fun c => if c = true then fa else fb
theorem e_one {op} (h : PE X a (tE X.K bb f)) : PE X (.BoolOp op [a] pos) (tE X.K bb f) := pe_one h
theorem e_and (ha : PE X a (tE X.K bb fa)) (hb : PE X (.BoolOp .And (b :: rest) pos) (tE X.K bb fb)) : PE X (.BoolOp .And (a :: b :: rest) pos) (tE X.K bb (vAnd fa fb)) :=
  PE.weak (pe_and ha hb) fun σ H Q ⟨G, ρ, d, ρ', E, ef, k⟩ => by
    obtain ⟨c, ρ1, h1, h2⟩ := thnE_of ef
    refine ⟨G, ρ, _, ρ1, E, fTst_of h1, fun v G1 H1 t1 o1 E1 d1 => ⟨c, dt_bool d1, ?_⟩⟩
    cases c with
    | true =>
      rw [if_pos rfl]
      exact ⟨G1, ρ1, d, ρ', E1, h2, fun u G2 H2 t2 o2 E2 d2 => k u G2 H2 (t1.seq o1 t2) (fun l q => o1 l (o2 l q)) E2 d2⟩
    | false =>
      rw [if_neg Bool.false_ne_true]
      obtain ⟨rfl, rfl⟩ := ret_of (show ret (PyData.bool false) ρ1 = _ from h2)
      exact k _ G1 H1 t1 o1 E1 (.bb false)
theorem e_or (ha : PE X a (tE X.K bb fa)) (hb : PE X (.BoolOp .Or (b :: rest) pos) (tE X.K bb fb)) : PE X (.BoolOp .Or (a :: b :: rest) pos) (tE X.K bb (vOr fa fb)) :=
  PE.weak (pe_or ha hb) fun σ H Q ⟨G, ρ, d, ρ', E, ef, k⟩ => by
    obtain ⟨c, ρ1, h1, h2⟩ := thnE_of ef
    refine ⟨G, ρ, _, ρ1, E, fTst_of h1, fun v G1 H1 t1 o1 E1 d1 => ⟨c, dt_bool d1, ?_⟩⟩
    cases c with
    | false =>
      rw [if_neg Bool.false_ne_true]
      exact ⟨G1, ρ1, d, ρ', E1, h2, fun u G2 H2 t2 o2 E2 d2 => k u G2 H2 (t1.seq o1 t2) (fun l q => o1 l (o2 l q)) E2 d2⟩
    | true =>
      rw [if_pos rfl]
      obtain ⟨rfl, rfl⟩ := ret_of (show ret (PyData.bool true) ρ1 = _ from h2)
      exact k _ G1 H1 t1 o1 E1 (.bb true)
theorem e_not (ha : PE X a (tE X.K bb fa)) : PE X (.UnaryOp .Not a pos) (tE X.K bb (vNot fa)) := PE.weak (pe_not ha) fun σ H Q ⟨G, ρ, d, ρ', E, ef, k⟩ => by
  obtain ⟨c, ρ1, h1, h2⟩ := thnE_of ef
  obtain ⟨rfl, rfl⟩ := ret_of h2
  exact ⟨G, ρ, _, ρ', E, fTst_of h1, fun v G1 H1 t1 o1 E1 d1 => ⟨c, dt_bool d1, k _ G1 H1 t1 o1 E1 (.bb _)⟩⟩
theorem e_if (ht : PT X c (tT X.K bb g)) (ha : PE X a (tE X.K bb fa)) (hb : PE X b (tE X.K bb fb)) : PE X (.IfExp c a b pos) (tE X.K bb (fIf g fa fb)) := PE.weak (pe_ifExp ht ha hb) fun σ H Q ⟨G, ρ, d, ρ', E, ef, k⟩ => by
  obtain ⟨q, ρ1, h1, h2⟩ := thnE_of ef
  refine ⟨G, ρ, q, ρ1, E, h1, fun G1 H1 t1 o1 E1 => ?_⟩
  cases q with
  | true =>
    rw [if_pos rfl]
    exact ⟨G1, ρ1, d, ρ', E1, h2, fun u G2 H2 t2 o2 E2 d2 => k u G2 H2 (t1.seq o1 t2) (fun l q => o1 l (o2 l q)) E2 d2⟩
  | false =>
    rw [if_neg Bool.false_ne_true]
    exact ⟨G1, ρ1, d, ρ', E1, h2, fun u G2 H2 t2 o2 E2 d2 => k u G2 H2 (t1.seq o1 t2) (fun l q => o1 l (o2 l q)) E2 d2⟩
/-! ### slices -/
def tO (K : PySem.W.Frag) (b : Bool) (f : FE (Option Int)) : TO := fun σ H Q => ∃ (G : Hp) (ρ : Rho) (d : Option Int) (ρ' : Rho), EnvOk K G H σ ρ ∧ f ρ = some (d, ρ') ∧
  ∀ G' H', Tr (ows b σ ρ) G H G' H' → (∀ l, own σ ρ' l → own σ ρ l) → EnvOk K G' H' σ ρ' → Q d H'
def fPart (f : FE PyData) : FE (Option Int) := thnE f fun x => match x with
  | .int i => ret (some i)
  | _ => fun _ => none
theorem PO.weak {o : Option Expr} {t t' : TO} (h : PO X o t) (w : ∀ σ H Q, t' σ H Q → t σ H Q) : PO X o t' := ⟨fun pins s σ H Q I q => h.run pins s σ H Q I (w σ H Q q)⟩
theorem o_none : PO X none (tO X.K bb (ret none)) := PO.weak po_none fun σ H Q ⟨G, ρ, d, ρ', E, ef, k⟩ => by
  obtain ⟨rfl, rfl⟩ := ret_of ef
  exact k G H .refl (fun _ q => q) E
theorem o_some (h : PE X e (tE X.K bb f)) : PO X (some e) (tO X.K bb (fPart f)) := PO.weak (po_some h) fun σ H Q ⟨G, ρ, d, ρ', E, ef, k⟩ => by
  obtain ⟨x, ρ1, h1, h2⟩ := thnE_of ef
  cases x with
  | int i =>
    obtain ⟨rfl, rfl⟩ := ret_of (show ret (some i) ρ1 = _ from h2)
    exact ⟨G, ρ, _, ρ', E, h1, fun v G1 H1 t1 o1 E1 d1 => ⟨i, dt_int d1, k G1 H1 t1 o1 E1⟩⟩
  | _ => cases h2
def cutD (ds : List PyData) (lo hi : Option Int) : List PyData := (ds.drop (HT.sIx ds.length 0 lo)).take (HT.sIx ds.length ds.length hi - HT.sIx ds.length 0 lo)
theorem cut_da {K : PySem.W.Frag} {G : Hp} {xs : List V} {ds : List PyData} (h : Da K G xs ds) (lo hi : Option Int) : Da K G (cutV xs lo hi) (cutD ds lo hi) := by
  unfold cutV cutD
  rw [h.len]
  exact (h.drop _).take _
def slD (x : PyData) (lo hi : Option Int) : Option PyData := match x with
  | .list ds => some (.list (cutD ds lo hi))
  | .tuple ds => some (.tuple (cutD ds lo hi))
  | _ => none
def rSlD (K : PySem.W.Frag) : V → Option Int → Option Int → Hp → VK → Prop := fun x lo hi H Q => rSlL K x lo hi H Q ∨ rSlP K x lo hi H Q
theorem sl_D : SlR X (rSlD X.K) := sl_list.or sl_tupP
def fSl (f : FE PyData) (lo hi : FE (Option Int)) : FE PyData := thnE f fun x => thnE lo fun l => thnE hi fun h => liftO (slD x l h)
theorem take_all {α : Type} {l : List α} {n : Nat} (h : n = l.length) : l.take n = l := List.take_of_length_le (Nat.le_of_eq h.symm)
theorem e_sl {lo hi : Option Expr} {flo fhi : FE (Option Int)} {p2 : Pos} (he : PE X e (tE X.K bb f)) (hl : PO X lo (tO X.K bb flo)) (hh : PO X hi (tO X.K bb fhi)) :
    PE X (.Subscript e (.Slice lo hi none p2) pos) (tE X.K bb (fSl f flo fhi)) := PE.weak (pe_slice sl_D he hl hh) fun σ H Q ⟨G, ρ, d, ρ', E, ef, k⟩ => by
  obtain ⟨x, ρ1, h1, h2⟩ := thnE_of ef
  obtain ⟨l, ρ2, h3, h4⟩ := thnE_of h2
  obtain ⟨u, ρ3, h5, h6⟩ := thnE_of h4
  obtain ⟨h7, rfl⟩ := liftO_of h6
  refine ⟨G, ρ, x, ρ1, E, h1, fun v G1 H1 t1 o1 E1 d1 => ⟨G1, ρ1, l, ρ2, E1, h3, fun G2 H2 t2 o2 E2 => ⟨G2, ρ2, u, ρ', E2, h5, fun G3 H3 t3 o3 E3 => ?_⟩⟩⟩
  have t := (t1.seq o1 t2).seq (fun l q => o1 l (o2 l q)) t3
  have o : ∀ l, own σ ρ' l → own σ ρ l := fun l q => o1 l (o2 l (o3 l q))
  have d3 := d1.mono fun x o q => t3.g x o (t2.g x o q)
  unfold slD at h7
  split at h7
  · cases h7
    obtain ⟨a, xs, rfl, hx, dx⟩ := dt_list d3
    refine .inl ⟨a, xs, rfl, (hx.mono E3.ex).sq, fun p hp => ?_⟩
    have t4 : Tr nobody G3 H3 (upd G3 p (.lst (cutV xs l u))) (upd H3 p (.lst (cutV xs l u))) := Tr.new hp E3.ex
    exact k _ _ _ (t.trans t4 fun _ _ _ q => q.elim) o (E3.tr t4 (ex_upd E3.ex)) (.ll (RL.of upd_same) ((cut_da dx l u).mono t4.g))
  · cases h7
    obtain ⟨a, xs, rfl, hx, dx⟩ := dt_tup d3
    refine .inr ⟨a, xs, rfl, Evl.ex_t E3.ex hx, fun hw => ?_, fun hw p ob hp ho => ?_⟩
    · refine k _ G3 H3 t o E3 ?_
      have e1 : cutD ‹List PyData› l u = ‹List PyData› := by
        unfold cutD
        rw [← dx.len, hw.1, hw.2, List.drop_zero, Nat.sub_zero]
        exact take_all dx.len
      rw [e1]
      exact d3
    · have t4 : Tr nobody G3 H3 (upd G3 p (.frz ob (.tup (cutV xs l u)))) (upd H3 p (.frz ob (.tup (cutV xs l u)))) := Tr.new hp E3.ex
      exact k _ _ _ (t.trans t4 fun _ _ _ q => q.elim) o (E3.tr t4 (ex_upd E3.ex)) (.tt (PTu.new ho) ((cut_da dx l u).mono t4.g))
  · cases h7
end
end Tw

set_option Elab.async false
set_option linter.all false
set_option maxRecDepth 100000
set_option maxHeartbeats 2000000
/-! ### sorted of a tuple -/
namespace PySem.W
open PySem PySem.Spec PyProof.Rows PySem.Calls
section
variable {prog : Program} {w : World} {A : Around} {E : Value → Shared → Prop} {s : Shared}
/-- what a tuple holds, in a new list -/
theorem gatherT {t : Addr} {us : List Value} {Q : List Value → Shared → Prop} (ht : s.heap.IsTuple t us.toArray) (hz : us.length ≤ sizeLine)
    (h : Q us { s with heap := (s.heap.push (seqObj "list" #[] 0)).update s.heap.objs.size (Obj.mapSeq (· ++ us.toArray)) }) : wpAny (model prog w) A (collect (.ref t)) Q E s := by
  obtain ⟨o, ho, hc, n, hd⟩ := id ht
  have made : (s.heap.push (seqObj "list" #[] 0)).get? s.heap.objs.size = some (seqObj "list" #[] 0) := Heap.get?_push_size _ rfl
  have kept := Heap.get?_push_of_some (seqObj "list" #[] 0) ho
  have same : (Value.type "tuple" == Value.type "tuple") = true := by rfl
  unfold collect
  refine wpAny_bind (wpAny_runValue (codeAny_builtin entry_proto_collect' ?_))
  show wpAny _ _ (do again (.builtin "list.__iadd__" ⟨[← newList [], .ref t], []⟩)) _ _ s
  refine wpAny_bind (wpAny_newList (wpAny_pure ⟨Code.quiet_builtin _ (by decide +kernel), ?_⟩))
  refine codeAny_builtin entry_list_iadd' ?_
  show wpAny _ _ (Builtin.List.listExtendWith (.ref s.heap.objs.size) (.ref t) (.ref s.heap.objs.size)) _ _ ⟨s.heap.push (seqObj "list" #[] 0), s.gens, s.drawn, s.toks, s.os⟩
  unfold Builtin.List.listExtendWith
  refine wpAny_bind (wpAny_typeOf (T := "tuple") ⟨o, kept, hc⟩ ?_)
  rw [if_pos (by simp [same])]
  refine wpAny_bind (listItems_at kept hd (wpAny_bind (listItems_at made rfl ?_)))
  rw [if_neg (by simp)]
  refine wpAny_bind (listUpdate_at made rfl (wpAny_pure ?_) (Nat.zero_le _) (by simp only [Array.size_append, List.size_toArray, List.length_nil]; omega))
  refine wpAny_bind (wpAny_load (get?_update_seq made _) ?_)
  show wpAny _ _ (pure ((#[] : Array Value) ++ us.toArray).toList) Q E _
  rw [show ((#[] : Array Value) ++ us.toArray).toList = us from by simp]
  exact wpAny_pure h
theorem sortT_of {t : Addr} {us : List Value} {Q : Value → Shared → Prop} (ht : s.heap.IsTuple t us.toArray) (hz : us.length ≤ sizeLine)
    (body : ∀ E' : Value → Shared → Prop, wpAny (model prog w) A.in1.in1 (Builtin.«list.sort» ⟨[.ref (s.heap.objs.size + 1)], []⟩) (fun f s' => f = .done (.ret .none) ∧ Q (.ref (s.heap.objs.size + 1)) s') E' { s with heap := copyHeap s.heap us }) :
    wpAny (model prog w) A (call (.builtin "sorted") [.ref t]) Q E s := by
  refine call_function_entry_kw kind_sorted plain_sorted entry_sorted (args_sorted1 _) ?_
  unfold Builtin.«sorted»
  refine wpAny_bind (m := checkCount "sorted" 1 1 _) (wpAny_pure (wpAny_bind (gatherT ht hz (wpAny_bind (wpAny_newList ?_ hz)))))
  have e : ((s.heap.push (seqObj "list" #[] 0)).update s.heap.objs.size (Obj.mapSeq (· ++ us.toArray))).objs.size = s.heap.objs.size + 1 := (Heap.size_update _ _ _).trans (size_push' _ _)
  show wpAny _ _ _ _ _ { s with heap := copyHeap s.heap us }
  rw [e]
  refine wpAny_bind (wpAny_holding (wpAny_call_entry_kw slot_list_sort ⟨_, copyHeap_at s.heap us, rfl⟩ entry_list_sort ?_ (args_list_sort _)))
  refine wpAny_mono (body _) (fun f s' ⟨ef, hq⟩ => ?_) fun _ _ z => z
  subst ef
  exact ⟨_, rfl, wpAny_pure ⟨_, rfl, hq⟩⟩
theorem sortT_data {t : Addr} {us : List Value} {bs : List PyData} {R : Value → PyData → Prop} {Q : Value → Shared → Prop} (ht : s.heap.IsTuple t us.toArray) (e : EachIs R us bs) (er : EachIs (fun v b => ∃ as, Reads s.heap v b as) us bs) (hal : AllAlike bs) (hk : Sortable bs) (hL : bs.length ≤ sizeLine)
    (hu : ∀ b, b ∈ bs → A.units + 2 + b.depth < cLine) (h : ∀ out, out.length = bs.length → EachIs R out (bs.mergeSort (dataLe false id)) → Q (.ref (s.heap.objs.size + 1)) { s with heap := sortedAll s.heap us (List.toArray out) }) :
    wpAny (model prog w) A (call (.builtin "sorted") [.ref t]) Q E s := by
  have hz : us.length ≤ sizeLine := by rw [e.length]; exact hL
  have er' : EachIs (fun v b => ∃ as, Reads (sortingHeap (copyHeap s.heap us) (s.heap.objs.size + 1) us) v (id b) as) us bs := er.mono fun _ _ ⟨as, r⟩ => ⟨as, PyProof.Rows.Reads.keeps (fun _ _ => sorting_copy_old) r⟩
  have hal' : AllAlike (bs.map id) := by rw [List.map_id]; exact hal
  have hk' : Sortable (bs.map id) := by rw [List.map_id]; exact hk
  have S : SortsAt prog w A.in1.in1 { s with heap := sortingHeap (copyHeap s.heap us) (s.heap.objs.size + 1) us } (dataKind (sortingHeap (copyHeap s.heap us) (s.heap.objs.size + 1) us) (bs.map id)) us :=
    SortsAt.data (each_map (R := fun v d => ∃ as, Reads (sortingHeap (copyHeap s.heap us) (s.heap.objs.size + 1) us) v d as) id er') hal' hk' (bound_map hu)
  refine sortT_of ht hz fun _ => list_sort_vals (s := { s with heap := copyHeap s.heap us }) (copyHeap_at s.heap us) S hz ⟨rfl, ?_⟩
  exact h _ (by rw [sortVals_length false rfl]; exact e.length) (sortVals_data false e er' hal')
end
end PySem.W

set_option Elab.async false
set_option linter.all false
set_option maxRecDepth 100000
set_option maxHeartbeats 2000000
namespace Tw
open PySem PySem.Spec PyProof.Rows L2
open Evl (Ex)
/-! ### no list stands in it -/
mutual
def noList : PyData → Bool
  | .list _ => false
  | .tuple ds => noLists ds
  | .dict kvs => noListK kvs
  | .none | .bool _ | .int _ | .str _ => true
def noLists : List PyData → Bool
  | [] => true
  | d :: ds => noList d && noLists ds
def noListK : List (PyData × PyData) → Bool
  | [] => true
  | (_, d) :: ds => noList d && noListK ds
end
theorem noListK_zip : ∀ {ks ds : List PyData}, ks.length = ds.length → noListK (ks.zip ds) = noLists ds
  | [], [], _ => rfl
  | [], _ :: _, h => by cases h
  | _ :: _, [], h => by cases h
  | k :: ks, d :: ds, h => by
    show (noList d && noListK (ks.zip ds)) = (noList d && noLists ds)
    rw [noListK_zip (Nat.succ.inj h)]
section
variable {X : Cx} {pins : List (Addr × Obj)} {σ : L2.St} {H : Hp} {s : Shared}
theorem keys_read0 {P : Program} {w : World} {h : Heap} : ∀ {kvs : List (Key × V)} {vs : List (Key × Value)} {es : List DictEntry}, KV kvs vs → Pairs (mixKind P w) es vs →
    ReadsAll h (es.map (·.key)) (kvs.map fun p => keyD p.1) []
  | _, _, _, .nil, .nil => .nil
  | _, _, _, .cons r t, .cons e1 e2 e3 => by
    have q1 := keys_read0 (h := h) t e3
    have e1' : keyIs _ _ = true := e1
    rw [← r.1] at e1'
    rcases keyIs_shape e1' with ⟨i, t, eq, ek⟩ | ⟨x, t, eq, ek⟩
    · have q2 : Reads h (DictEntry.key _) _ [] := ek ▸ Reads.int i t
      have := ReadsAll.cons q2 q1
      rw [List.map_cons, List.map_cons, eq]
      exact this
    · have q2 : Reads h (DictEntry.key _) _ [] := ek ▸ Reads.str x t
      have := ReadsAll.cons q2 q1
      rw [List.map_cons, List.map_cons, eq]
      exact this
mutual
theorem Dt.reads2 (I : Inv X pins σ H s) : ∀ {v : V} {d : PyData} {u : Value}, Dt X.K H v d → RelV v u → noList d = true → ∃ as, Reads s.heap u d as ∧ sysModules ∉ as
  | _, _, _, .nn, r, _ => by
    cases r; exact ⟨_, .none, List.not_mem_nil⟩
  | _, _, _, .bb b, r, _ => by
    cases r; exact ⟨_, .bool b, List.not_mem_nil⟩
  | _, _, _, .ii i, r, _ => by
    obtain ⟨t, rfl⟩ := r; exact ⟨_, .int i t, List.not_mem_nil⟩
  | _, _, _, .ss x, r, _ => by
    obtain ⟨t, rfl⟩ := r; exact ⟨_, .str x t, List.not_mem_nil⟩
  | _, _, _, .ll h t, r, n => nomatch (show false = true from n)
  | _, _, _, .tt h t, r, n => by
    cases r
    obtain ⟨its, rv, ⟨o, ho, hc, n', hd⟩, _⟩ := I.tuple h.sq
    obtain ⟨as, hr, ha⟩ := Da.reads2 I t rv n
    exact ⟨_, .tuple ho hc hd hr, ha⟩
  | _, _, _, .dd (a := a) (kvs := kvs) (ds := ds) h t, r, n => by
    cases r
    obtain ⟨_, hs, vs, rk, o, es, ep, ho, hx, hd, hk, hp, _⟩ := (show ObjOk X.prog X.w H s.heap a (.dK kvs) from rd_of I.hok h)
    obtain ⟨_, qv⟩ := keys_read (h := s.heap) rk hp
    have q := keys_read0 (h := s.heap) rk hp
    have hl : (kvs.map fun p => keyD p.1).length = ds.length := by
      rw [List.length_map, ← t.len, List.length_map]
    obtain ⟨bs, q2, hb⟩ := Da.reads2 I t qv (by rw [← noListK_zip hl]; exact n)
    refine ⟨a :: [] ++ bs, .dict (as := []) (bs := bs) ho hx.1 hd ?_ ?_, ?_⟩
    · rw [List.map_fst_zip (Nat.le_of_eq hl)]
      exact q
    · rw [List.map_snd_zip (Nat.le_of_eq hl.symm)]
      exact q2
    · intro z
      rcases List.mem_cons.mp z with z | z
      · rw [z] at hs
        exact absurd hs (by simp)
      · exact hb z
theorem Da.reads2 (I : Inv X pins σ H s) : ∀ {vs : List V} {ds : List PyData} {us : List Value}, Da X.K H vs ds → Vals vs us → noLists ds = true → ∃ as, ReadsAll s.heap us ds as ∧ sysModules ∉ as
  | _, _, _, .nil, r, _ => by
    cases r; exact ⟨_, .nil, List.not_mem_nil⟩
  | _, _, _, .cons h t, r, n => by
    cases r with
    | cons r1 r2 =>
      have n' := Bool.and_eq_true_iff.mp n
      obtain ⟨as, q1, a1⟩ := Dt.reads2 I h r1 n'.1
      obtain ⟨bs, q2, a2⟩ := Da.reads2 I t r2 n'.2
      exact ⟨_, .cons q1 q2, fun z => (List.mem_append.mp z).elim a1 a2⟩
end
end
section
variable {X : Cx} {e a b c : Expr} {es rest : List Expr} {pos : Pos} {bb : Bool} {f fa fb fc : FE PyData} {K : PySem.W.Frag}
/-! ### repr -/
def shownOk (d : PyData) : Bool := d.showable && decide (d.shown.length ≤ sizeLine) && decide (d.depth ≤ 60) && (!d.hasDict || noList d)
def reprD : List PyData → Option PyData
  | [d] => if shownOk d = true then some (.str d.shown) else none
  | _ => none
def rReprD (K : PySem.W.Frag) : List V → Hp → VK → Prop := fun xs H Q => ∃ v d, xs = [v] ∧ Dt K H v d ∧ shownOk d = true ∧ Q (.str d.shown) H
theorem call_reprD (hg : X.A.guards = some []) (hu : X.A.units + 64 < cLine) : CallR X (.builtin "repr") (rReprD X.K) := fun pins s σ H xs us Q I r ⟨v, d, ex, hd, ok, q⟩ => by
  subst ex
  obtain ⟨u, eu, ru⟩ := vals1 r
  subst eu
  unfold shownOk at ok
  rw [Bool.and_eq_true, Bool.and_eq_true, Bool.and_eq_true] at ok
  obtain ⟨⟨⟨h1, h2⟩, h3⟩, h4⟩ := ok
  have h2 := of_decide_eq_true h2
  have h3 := of_decide_eq_true h3
  have fin : ∀ (rd : ∃ as, Reads s.heap u d as ∧ (d.hasDict = true → sysModules ∉ as)) (a : Addr), u = .ref a → wpAny (model X.prog X.w) X.A (call (.builtin "repr") [u]) (EP X pins σ Q) X.xe s := fun ⟨as, rd, hm⟩ a ea => by
    subst ea
    exact repr_of_reads' rd h1 hm hg (by omega) (fun _ _ z => z) (fun h' u' tk hk => ⟨.str _, H, I.kept (t' := tk) hk, ⟨_, rfl⟩, q⟩) h2
  have rd : ∃ as, Reads s.heap u d as ∧ (d.hasDict = true → sysModules ∉ as) := by
    cases hh : d.hasDict with
    | false =>
      obtain ⟨as, z⟩ := hd.reads I ru
      exact ⟨as, z, fun w => nomatch w⟩
    | true =>
      rw [hh] at h4
      obtain ⟨as, z, zz⟩ := hd.reads2 I ru h4
      exact ⟨as, z, fun _ => zz⟩
  cases hd with
  | nn =>
    cases ru
    exact PySem.P.repr_of_none ⟨.str _, H, I.tok _, ⟨s.toks, by simp only [PyData.shown]⟩, q⟩
  | bb b =>
    cases ru
    refine PySem.P.repr_of_bool ⟨.str _, H, I.tok _, ⟨s.toks, ?_⟩, q⟩
    cases b <;> simp only [PyData.shown] <;> rfl
  | ii i =>
    obtain ⟨t, rfl⟩ := ru
    exact PySem.P.repr_of_int (of_decide_eq_true (by simpa only [PyData.showable] using h1)) ⟨.str _, H, I.tok _, ⟨s.toks, by simp only [PyData.shown]⟩, q⟩
  | ss x =>
    obtain ⟨t, rfl⟩ := ru
    exact PySem.P.repr_of_str ⟨.str _, H, I.tok _, ⟨s.toks, by simp only [PyData.shown]⟩, q⟩ (by simpa only [PyData.shown] using h2)
  | ll h t => exact fin rd _ ru
  | tt h t => exact fin rd _ ru
  | dd h t => exact fin rd _ ru
theorem d_repr : CallD K (rReprD K) reprD := fun G H xs ds z Q ex hd hz k => by
  unfold reprD at hz
  split at hz
  · obtain ⟨h1, rfl⟩ := ite_p hz
    cases hd with
    | cons h t =>
      cases t
      exact ⟨_, _, rfl, h.mono ex, h1, k _ G H .refl ex (.ss _)⟩
  · cases hz
/-! ### len -/
def lenD : List PyData → Option PyData
  | [.list ds] => some (.int ds.length)
  | [.tuple ds] => some (.int ds.length)
  | [.str z] => if z.length ≤ sizeLine then some (.int z.length) else none
  | _ => none
def rLenD (K : PySem.W.Frag) : List V → Hp → VK → Prop := fun xs H Q => (∃ p ys, xs = [.ref p] ∧ (SqL K H p ys ∨ SqT K H p ys) ∧ Q (.int ys.length) H) ∨ (∃ z, xs = [.str z] ∧ z.length ≤ sizeLine ∧ Q (.int z.length) H)
theorem call_lenD2 : CallR X (.builtin "len") (rLenD X.K) := call_len_seq.or call_len_str
theorem da_one {G : Hp} {vs : List V} {d : PyData} (h : Da K G vs [d]) : ∃ v, vs = [v] ∧ Dt K G v d := by
  cases h with
  | cons h t => cases t; exact ⟨_, rfl, h⟩
theorem da_two {G : Hp} {vs : List V} {d e : PyData} (h : Da K G vs [d, e]) : ∃ v u, vs = [v, u] ∧ Dt K G v d ∧ Dt K G u e := by
  cases h with
  | cons h t =>
    obtain ⟨u, rfl, hu⟩ := da_one t
    exact ⟨_, u, rfl, h, hu⟩
theorem d_len : CallD K (rLenD K) lenD := fun G H xs ds z Q ex hd hz k => by
  unfold lenD at hz
  split at hz
  · cases hz
    obtain ⟨v, rfl, h⟩ := da_one hd
    obtain ⟨a, ys, rfl, hy, dy⟩ := dt_list h
    refine .inl ⟨a, ys, rfl, .inl ((hy.mono ex).sq), ?_⟩
    rw [dy.len]
    exact k _ G H .refl ex (.ii _)
  · cases hz
    obtain ⟨v, rfl, h⟩ := da_one hd
    obtain ⟨a, ys, rfl, hy, dy⟩ := dt_tup h
    refine .inl ⟨a, ys, rfl, .inr (Evl.ex_t ex hy), ?_⟩
    rw [dy.len]
    exact k _ G H .refl ex (.ii _)
  · obtain ⟨h1, rfl⟩ := ite_p hz
    obtain ⟨v, rfl, h⟩ := da_one hd
    exact .inr ⟨_, by rw [dt_str h], h1, k _ G H .refl ex (.ii _)⟩
  · cases hz
/-! ### all, any, sum, abs, int, max, min, list, tuple -/
def boolsOf : List PyData → Option (List Bool)
  | [] => some []
  | .bool i :: r => (boolsOf r).map (i :: ·)
  | _ :: _ => none
theorem da_bools {G : Hp} : ∀ {ds : List PyData} {xs : List V} {bs : List Bool}, boolsOf ds = some bs → Da K G xs ds → xs = bs.map V.bl
  | [], _, bs, h, .nil => by cases h; rfl
  | .bool i :: r, _, bs, h, .cons q t => by
    unfold boolsOf at h
    obtain ⟨ms, h1, rfl⟩ := Option.map_eq_some_iff.mp h
    rw [List.map_cons, dt_bool q, da_bools h1 t]
  | .none :: _, _, _, h, _ => by cases h
  | .int _ :: _, _, _, h, _ => by cases h
  | .str _ :: _, _, _, h, _ => by cases h
  | .list _ :: _, _, _, h, _ => by cases h
  | .tuple _ :: _, _, _, h, _ => by cases h
  | .dict _ :: _, _, _, h, _ => by cases h
theorem boolsOf_map : ∀ bs : List Bool, boolsOf (bs.map .bool) = some bs
  | [] => rfl
  | b :: bs => by
    show (boolsOf (bs.map .bool)).map (b :: ·) = _
    rw [boolsOf_map bs]
    rfl
def allD : List PyData → Option PyData
  | [.list ds] => (boolsOf ds).map fun bs => .bool (bs.all id)
  | _ => none
def anyD : List PyData → Option PyData
  | [.list ds] => (boolsOf ds).map fun bs => .bool (bs.any id)
  | _ => none
def sumD : List PyData → Option PyData
  | [.list ds] => (intsOf ds).map fun bs => .int bs.sum
  | _ => none
theorem d_all : CallD K (rAll K) allD := fun G H xs ds z Q ex hd hz k => by
  unfold allD at hz
  split at hz
  · obtain ⟨bs, h1, rfl⟩ := Option.map_eq_some_iff.mp hz
    obtain ⟨v, rfl, h⟩ := da_one hd
    obtain ⟨a, ys, rfl, hy, dy⟩ := dt_list h
    obtain rfl := da_bools h1 dy
    exact ⟨a, bs, rfl, (hy.mono ex).sq, k _ G H .refl ex (.bb _)⟩
  · cases hz
theorem d_any : CallD K (rAny K) anyD := fun G H xs ds z Q ex hd hz k => by
  unfold anyD at hz
  split at hz
  · obtain ⟨bs, h1, rfl⟩ := Option.map_eq_some_iff.mp hz
    obtain ⟨v, rfl, h⟩ := da_one hd
    obtain ⟨a, ys, rfl, hy, dy⟩ := dt_list h
    obtain rfl := da_bools h1 dy
    exact ⟨a, bs, rfl, (hy.mono ex).sq, k _ G H .refl ex (.bb _)⟩
  · cases hz
theorem d_sum : CallD K (rSum K) sumD := fun G H xs ds z Q ex hd hz k => by
  unfold sumD at hz
  split at hz
  · obtain ⟨bs, h1, rfl⟩ := Option.map_eq_some_iff.mp hz
    obtain ⟨v, rfl, h⟩ := da_one hd
    obtain ⟨a, ys, rfl, hy, dy⟩ := dt_list h
    obtain rfl := intsOf_eq h1
    obtain rfl := da_ints dy
    exact ⟨a, bs, rfl, (hy.mono ex).sq, k _ G H .refl ex (.ii _)⟩
  · cases hz
def absD : List PyData → Option PyData
  | [.int i] => some (.int (if i < 0 then -i else i))
  | _ => none
def rAbs : List V → Hp → VK → Prop := fun xs H Q => ∃ i, xs = [.int i] ∧ Q (.int (if i < 0 then -i else i)) H
theorem d_abs : CallD K rAbs absD := fun G H xs ds z Q ex hd hz k => by
  unfold absD at hz
  split at hz
  · cases hz
    obtain ⟨v, rfl, h⟩ := da_one hd
    exact ⟨_, by rw [dt_int h], k _ G H .refl ex (.ii _)⟩
  · cases hz
def intD : List PyData → Option PyData
  | [.int i] => some (.int i)
  | [.bool b] => some (.int (if b then 1 else 0))
  | _ => none
def rInt1 : List V → Hp → VK → Prop := fun xs H Q => (∃ i, xs = [.int i] ∧ Q (.int i) H) ∨ ∃ k, xs = [.bl k] ∧ Q (.int (if k then 1 else 0)) H
theorem d_int : CallD K rInt1 intD := fun G H xs ds z Q ex hd hz k => by
  unfold intD at hz
  split at hz
  · cases hz
    obtain ⟨v, rfl, h⟩ := da_one hd
    exact .inl ⟨_, by rw [dt_int h], k _ G H .refl ex (.ii _)⟩
  · cases hz
    obtain ⟨v, rfl, h⟩ := da_one hd
    exact .inr ⟨_, by rw [dt_bool h], k _ G H .refl ex (.ii _)⟩
  · cases hz
def maxD : List PyData → Option PyData
  | [.int i, .int j] => some (.int (if j > i then j else i))
  | _ => none
def minD : List PyData → Option PyData
  | [.int i, .int j] => some (.int (if j < i then j else i))
  | _ => none
def rMax2 : List V → Hp → VK → Prop := fun xs H Q => ∃ i j, xs = [.int i, .int j] ∧ Q (.int (if j > i then j else i)) H
def rMin2 : List V → Hp → VK → Prop := fun xs H Q => ∃ i j, xs = [.int i, .int j] ∧ Q (.int (if j < i then j else i)) H
theorem d_max : CallD K rMax2 maxD := fun G H xs ds z Q ex hd hz k => by
  unfold maxD at hz
  split at hz
  · cases hz
    obtain ⟨v, u, rfl, h, h'⟩ := da_two hd
    exact ⟨_, _, by rw [dt_int h, dt_int h'], k _ G H .refl ex (.ii _)⟩
  · cases hz
theorem d_min : CallD K rMin2 minD := fun G H xs ds z Q ex hd hz k => by
  unfold minD at hz
  split at hz
  · cases hz
    obtain ⟨v, u, rfl, h, h'⟩ := da_two hd
    exact ⟨_, _, by rw [dt_int h, dt_int h'], k _ G H .refl ex (.ii _)⟩
  · cases hz
def listD : List PyData → Option PyData
  | [.list ds] => some (.list ds)
  | [.tuple ds] => some (.list ds)
  | _ => none
def tupleD : List PyData → Option PyData
  | [.list ds] => some (.tuple ds)
  | [.tuple ds] => some (.tuple ds)
  | _ => none
def rListD2 (K : PySem.W.Frag) : List V → Hp → VK → Prop := fun xs H Q => ∃ p ys, xs = [.ref p] ∧ (SqL K H p ys ∨ SqT K H p ys) ∧ ∀ l, H l = none → Q (.ref l) (upd H l (.lst ys))
theorem d_list : CallD K (rListD2 K) listD := fun G H xs ds z Q ex hd hz k => by
  unfold listD at hz
  have fin : ∀ {ys : List V} {es : List PyData} {l : Addr}, Da K G ys es → H l = none → z = .list es → Q (.ref l) (upd H l (.lst ys)) := fun {ys es l} dy hl ez => by
    subst ez
    have t : Tr nobody G H (upd G l (.lst ys)) (upd H l (.lst ys)) := Tr.new hl ex
    exact k _ _ _ t (ex_upd ex) (.ll (RL.of upd_same) (dy.mono t.g))
  split at hz
  · cases hz
    obtain ⟨v, rfl, h⟩ := da_one hd
    obtain ⟨a, ys, rfl, hy, dy⟩ := dt_list h
    exact ⟨a, ys, rfl, .inl ((hy.mono ex).sq), fun l hl => fin dy hl rfl⟩
  · cases hz
    obtain ⟨v, rfl, h⟩ := da_one hd
    obtain ⟨a, ys, rfl, hy, dy⟩ := dt_tup h
    exact ⟨a, ys, rfl, .inr (Evl.ex_t ex hy), fun l hl => fin dy hl rfl⟩
  · cases hz
theorem d_tuple : CallD K (rTupP K) tupleD := fun G H xs ds z Q ex hd hz k => by
  unfold tupleD at hz
  split at hz
  · cases hz
    obtain ⟨v, rfl, h⟩ := da_one hd
    obtain ⟨a, ys, rfl, hy, dy⟩ := dt_list h
    refine ⟨a, ys, rfl, .inl ⟨(hy.mono ex).sq, fun l o hl ho => ?_⟩⟩
    have t : Tr nobody G H (upd G l (.frz o (.tup ys))) (upd H l (.frz o (.tup ys))) := Tr.new hl ex
    exact k _ _ _ t (ex_upd ex) (.tt (PTu.new ho) (dy.mono t.g))
  · cases hz
    obtain ⟨v, rfl, h⟩ := da_one hd
    obtain ⟨a, ys, rfl, hy, dy⟩ := dt_tup h
    exact ⟨a, ys, rfl, .inr ⟨Evl.ex_t ex hy, k _ G H .refl ex h⟩⟩
  · cases hz
/-! ### isinstance -/
def tyD : PyData → String
  | .none => "NoneType"
  | .bool _ => "bool"
  | .int _ => "int"
  | .str _ => "str"
  | .list _ => "list"
  | .tuple _ => "tuple"
  | .dict _ => "dict"
theorem ty_of {G H : Hp} (ex : Ex G H) {v : V} {d : PyData} (h : Dt K G v d) : TyX K H v (.type (tyD d)) := by
  cases h with
  | nn => exact .base .non
  | bb b => exact .base (.bl b)
  | ii i => exact .base (.int i)
  | ss x => exact .base (.str x)
  | ll h t =>
    rcases (h.mono ex) with (e | ⟨o, e⟩) | ⟨its, n, e, _⟩
    · exact .base (.lst e)
    · exact .base (.frz e)
    · exact .kList e rfl
  | tt h t =>
    rcases Evl.ex_t ex h.sq with (e | ⟨o, e⟩) | ⟨o, its, n, e, c, _⟩
    · exact .base (.tup e)
    · exact .fTuple e
    · exact .kTuple e c
  | dd h t =>
    rcases Evl.ex_rd ex h with e | ⟨o, e⟩
    · exact .base (.dK e)
    · exact .fDict e
def isiD (T : String) (d : PyData) : Option PyData := (kitB (tyD d) T).map .bool
theorem e_isi {T : String} {x xT : Str} {p q : Pos} (hg : Gl X x) (hm : X.mg x = none) (hv : bootBuiltins x = some (.builtin "isinstance")) (hgT : Gl X xT) (hmT : X.mg xT = none) (hvT : bootBuiltins xT = some (.type T))
    (ha : PE X a (tE X.K bb fa)) (hn : x ≠ "__name__" := by decide) (hdb : (x == ("__debug__" : Str)) = false := by decide) (hnT : xT ≠ "__name__" := by decide) (hdT : (xT == ("__debug__" : Str)) = false := by decide)
    (he : starEach (a :: [.Name xT q]) X.env = (false, eval a X.env) :: starEach [.Name xT q] X.env := by rfl) (hpl : (backTo pos (starEach [.Name xT q] X.env)).any (·.1) = false := by rfl) :
    PE X (.Call (.Name x p) [a, .Name xT q] [] pos) (tE X.K bb (fUn (isiD T) fa)) :=
  PE.weak (pe_callB call_isi hg hm hv (pa_cons ha (pa_cons (pe_bltn (v := .ty T) hgT hmT hvT rfl hnT hdT) pa_nil) he) hn hdb he hpl) fun σ H Q ⟨G, ρ, d, ρ', E, ef, k⟩ => by
    obtain ⟨y, ρ1, h1, h2⟩ := thnE_of ef
    obtain ⟨h5, rfl⟩ := liftO_of h2
    obtain ⟨b, hb, rfl⟩ := Option.map_eq_some_iff.mp h5
    exact ⟨G, ρ, y, ρ', E, h1, fun v G1 H1 t1 o1 E1 d1 => ⟨v, .ty T, _, _, b, rfl, .ty T, ty_of E1.ex d1, kit_ty hb, k _ G1 H1 t1 o1 E1 (.bb b)⟩⟩
/-! ### sorted -/
def allAlikeB (ds : List PyData) : Bool := ds.all fun d => ds.all fun e => PySem.W.alike d e
def isTup1 : PyData → Bool
  | .tuple (_ :: _) => true
  | _ => false
def isSortA : PyData → Bool
  | .none => false
  | .tuple _ => false
  | _ => true
def sortOk (ds : List PyData) : Bool := allAlikeB ds && (ds.all isTup1 || ds.all isSortA) && ds.all fun d => decide (d.depth ≤ 60)
theorem sortOk_of {ds : List PyData} (h : sortOk ds = true) : PySem.W.AllAlike ds ∧ PySem.W.Sortable ds ∧ ∀ d ∈ ds, d.depth ≤ 60 := by
  unfold sortOk at h
  rw [Bool.and_eq_true, Bool.and_eq_true] at h
  obtain ⟨⟨h1, h2⟩, h3⟩ := h
  refine ⟨fun d hd e he => ?_, ?_, fun d hd => of_decide_eq_true (List.all_eq_true.mp h3 d hd)⟩
  · exact List.all_eq_true.mp (List.all_eq_true.mp h1 d hd) e he
  · rcases Bool.or_eq_true_iff.mp h2 with h | h
    · refine .inl fun d hd => ?_
      have q := List.all_eq_true.mp h d hd
      unfold isTup1 at q
      split at q
      · exact ⟨_, _, rfl⟩
      · cases q
    · refine .inr fun d hd => ?_
      have q := List.all_eq_true.mp h d hd
      unfold isSortA at q
      split at q
      · cases q
      · cases q
      · rename_i h1 h2
        exact ⟨fun z => h1 z, fun xs z => h2 xs z⟩
def srt (ds : List PyData) : List PyData := ds.mergeSort (PySem.W.dataLe false id)
def sortedD : List PyData → Option PyData
  | [.list ds] => if sortOk ds = true then some (.list (srt ds)) else none
  | [.tuple ds] => if sortOk ds = true then some (.list (srt ds)) else none
  | _ => none
def rSortD (K : PySem.W.Frag) : List V → Hp → VK → Prop := fun vs H Q => ∃ (G : Hp) (a : Addr) (ds : List PyData), vs = [V.ref a] ∧ Ex G H ∧ (Dt K G (.ref a) (.list ds) ∨ Dt K G (.ref a) (.tuple ds)) ∧ sortOk ds = true ∧
  ∀ (xs : List V) (p : Addr), H p = none → Da K G xs (srt ds) → Q (.ref p) (upd H p (.lst xs))
theorem each_da {R : Value → PyData → Prop} {G : Hp} (w : ∀ v d u, Dt K G v d → RelV v u → R u d) : ∀ {xs : List V} {ds : List PyData} {us : List Value}, Da K G xs ds → Vals xs us → PySem.W.EachIs R us ds
  | _, _, _, .nil, .nil => .nil
  | _, _, _, .cons h t, .cons r q => .cons (w _ _ _ h r) (each_da w t q)
theorem da_each {G : Hp} : ∀ {ds : List PyData} {us : List Value}, PySem.W.EachIs (fun u d => ∃ v, RelV v u ∧ Dt K G v d) us ds → ∃ xs, Vals xs us ∧ Da K G xs ds
  | _, _, .nil => ⟨[], .nil, .nil⟩
  | _, _, .cons ⟨v, r, h⟩ t => by
    obtain ⟨xs, r2, h2⟩ := da_each t
    exact ⟨v :: xs, .cons r r2, .cons h h2⟩
theorem call_sortD (hu : X.A.units + 64 < cLine) : CallR X (.builtin "sorted") (rSortD X.K) := fun pins s σ H vs us Q I r ⟨G, a, ds, ev, ex, hd, ok, q⟩ => by
  subst ev
  rw [Vals.ref1 r]
  obtain ⟨h1, h2, h3⟩ := sortOk_of ok
  have bound : ∀ b ∈ ds, X.A.units + 2 + b.depth < cLine := fun b hb => by
    have := h3 b hb
    omega
  have fin : ∀ (its : List Value) (hz : ds.length ≤ sizeLine) (out : List Value), out.length = ds.length → PySem.W.EachIs (fun u d => ∃ v, RelV v u ∧ Dt X.K G v d) out (srt ds) →
      (∃ v H1, Inv X pins σ H1 { s with heap := PyProof.Rows.sortedAll s.heap its out.toArray } ∧ RelV v (.ref (s.heap.objs.size + 1)) ∧ Q v H1) := fun its hz out e1 e2 => by
    obtain ⟨ys, r2, dy⟩ := da_each e2
    obtain ⟨ep, he'⟩ := PyProof.Rows.sortedAll_at s.heap its out.toArray
    have hlen : ys.length ≤ sizeLine := by rw [r2.length, e1]; exact hz
    exact ⟨.ref (s.heap.objs.size + 1), upd H (s.heap.objs.size + 1) (.lst ys), I.laid (t' := s.toks) (fun _ _ => PyProof.Rows.sortedAll_old) (Nat.le_succ _) ⟨hlen, out, ep, r2, he'⟩, rfl, q _ _ (I.hok.fresh (Nat.le_succ _)) dy⟩
  rcases hd with hd | hd
  · obtain ⟨a', xs, ea, hx, dx⟩ := dt_list hd
    cases ea
    obtain ⟨its, rv, hl, hz⟩ := I.list ((hx.mono ex).sq)
    exact PySem.W.sorted_data (enc := id) (bs := ds) (R := fun u d => ∃ v, RelV v u ∧ Dt X.K G v d) hl.isList (each_da (fun v d u h r => ⟨v, r, h⟩) dx rv) (each_da (fun v d u h r => (h.mono ex).reads I r) dx rv) (by rw [List.map_id]; exact h1)
      (by rw [List.map_id]; exact h2) (by rw [← dx.len]; exact hz) bound fun out e1 e2 => fin its (by rw [← dx.len]; exact hz) out e1 e2
  · obtain ⟨a', xs, ea, hx, dx⟩ := dt_tup hd
    cases ea
    obtain ⟨its, rv, hl, hz⟩ := I.tuple (Evl.ex_t ex hx)
    exact PySem.W.sortT_data (bs := ds) (R := fun u d => ∃ v, RelV v u ∧ Dt X.K G v d) hl (each_da (fun v d u h r => ⟨v, r, h⟩) dx rv) (each_da (fun v d u h r => (h.mono ex).reads I r) dx rv) h1 h2 (by rw [← dx.len]; exact hz) bound fun out e1 e2 => fin its (by rw [← dx.len]; exact hz) out e1 e2
theorem d_sorted : CallD K (rSortD K) sortedD := fun G H xs ds z Q ex hd hz k => by
  have fin : ∀ (a : Addr) (es : List PyData), (Dt K G (.ref a) (.list es) ∨ Dt K G (.ref a) (.tuple es)) → sortOk es = true → z = .list (srt es) → rSortD K [.ref a] H Q := fun a es h h1 ez => by
    subst ez
    refine ⟨G, a, es, rfl, ex, h, h1, fun zs p hp dz => ?_⟩
    have t : Tr nobody G H (upd G p (.lst zs)) (upd H p (.lst zs)) := Tr.new hp ex
    exact k _ _ _ t (ex_upd ex) (.ll (RL.of upd_same) (dz.mono t.g))
  unfold sortedD at hz
  split at hz
  · obtain ⟨h1, rfl⟩ := ite_p hz
    obtain ⟨v, rfl, h⟩ := da_one hd
    obtain ⟨a, ys, rfl, hy, dy⟩ := dt_list h
    exact fin a _ (.inl h) h1 rfl
  · obtain ⟨h1, rfl⟩ := ite_p hz
    obtain ⟨v, rfl, h⟩ := da_one hd
    obtain ⟨a, ys, rfl, hy, dy⟩ := dt_tup h
    exact fin a _ (.inr h) h1 rfl
  · cases hz
end
end Tw

set_option Elab.async false
set_option linter.all false
set_option maxRecDepth 100000
set_option maxHeartbeats 2000000
namespace Tw
open PySem PySem.Spec PyProof.Rows L2
open Evl (Ex)
/-! ### readings of statements -/
inductive Out where
  | nx (ρ : Rho)
  | rt (d : PyData) (ρ : Rho)
  | rf (ds : List PyData) (ρ : Rho)
  | bk (ρ : Rho)
  | ct (ρ : Rho)
abbrev FS := Rho → Option Out
structure Stp (P : List Nat) (G H : Hp) (σ : L2.St) (ρ : Rho) (G' H' : Hp) (σ' : L2.St) (ρ' : Rho) : Prop where
  t : Tr (own σ ρ) G H G' H'
  o : ∀ l, own σ' ρ' l → own σ ρ l ∨ H l = none
  p : ∀ i ∈ P, σ'[i]? = σ[i]?
def Kont (K : PySem.W.Frag) (P : List Nat) (G H : Hp) (σ : L2.St) (ρ : Rho) (D : Ends) : Out → Prop
  | .nx ρ' => ∀ σ' G' H', Stp P G H σ ρ G' H' σ' ρ' → EnvOk K G' H' σ' ρ' → D.nx σ' H'
  | .rt d ρ' => ∀ v σ' G' H', Stp P G H σ ρ G' H' σ' ρ' → EnvOk K G' H' σ' ρ' → Dt K G' v d → D.rt v H'
  | .rf ds ρ' => ∀ p xs σ' G' H', Stp P G H σ ρ G' H' σ' ρ' → EnvOk K G' H' σ' ρ' → (own σ ρ p ∨ H p = none) → ¬ own σ' ρ' p → G' p = none → H' p = some (.lst xs) → Da K G' xs ds → D.rt (.ref p) H'
  | .bk ρ' => ∀ σ' G' H', Stp P G H σ ρ G' H' σ' ρ' → EnvOk K G' H' σ' ρ' → D.bk σ' H'
  | .ct ρ' => ∀ σ' G' H', Stp P G H σ ρ G' H' σ' ρ' → EnvOk K G' H' σ' ρ' → D.ct σ' H'
def tS (K : PySem.W.Frag) (P : List Nat) (f : FS) : TS := fun D σ H => ∃ (G : Hp) (ρ : Rho) (o : Out), EnvOk K G H σ ρ ∧ f ρ = some o ∧ Kont K P G H σ ρ D o
section
variable {K : PySem.W.Frag} {P : List Nat} {G H G1 H1 G2 H2 : Hp} {σ σ1 σ2 : L2.St} {ρ ρ1 ρ2 : Rho} {D : Ends} {o : Out}
theorem Stp.refl : Stp P G H σ ρ G H σ ρ := ⟨.refl, fun _ q => .inl q, fun _ _ => rfl⟩
theorem Stp.trans (a : Stp P G H σ ρ G1 H1 σ1 ρ1) (b : Stp P G1 H1 σ1 ρ1 G2 H2 σ2 ρ2) : Stp P G H σ ρ G2 H2 σ2 ρ2 where
  t := a.t.trans b.t fun x u e q => (a.o x q).elim id fun z => by rw [z] at e; cases e
  o := fun l q => (b.o l q).elim (a.o l) fun z => by
    cases e : H l with
    | none => exact .inr rfl
    | some u =>
      by_cases w : own σ ρ l
      · exact .inl w
      · have := a.t.h l u e w
        rw [z] at this
        cases this
  p := fun i h => (b.p i h).trans (a.p i h)
theorem tr_back {ow : Addr → Prop} (t : Tr ow G H G1 H1) {p : Addr} (hp : H1 p = none) : H p = none := by
  cases q : H p with
  | none => rfl
  | some u =>
    obtain ⟨u', z⟩ := t.k p u q
    rw [hp] at z
    cases z
/-- an expression's step -/
theorem Stp.of {b : Bool} (t : Tr (ows b σ ρ) G H G1 H1) (o : ∀ l, own σ ρ1 l → own σ ρ l) : Stp P G H σ ρ G1 H1 σ ρ1 := ⟨t.wide fun _ _ _ q => q.2, fun l q => .inl (o l q), fun _ _ => rfl⟩
theorem Kont.pre (a : Stp P G H σ ρ G1 H1 σ1 ρ1) (k : Kont K P G H σ ρ D o) : Kont K P G1 H1 σ1 ρ1 D o := by
  cases o with
  | nx r => exact fun σ' G' H' b E => k σ' G' H' (a.trans b) E
  | rt d r => exact fun v σ' G' H' b E dv => k v σ' G' H' (a.trans b) E dv
  | rf ds r => exact fun p xs σ' G' H' b E w1 w2 w3 w4 w5 => k p xs σ' G' H' (a.trans b) E (w1.elim (a.o p) fun z => .inr (tr_back a.t z)) w2 w3 w4 w5
  | bk r => exact fun σ' G' H' b E => k σ' G' H' (a.trans b) E
  | ct r => exact fun σ' G' H' b E => k σ' G' H' (a.trans b) E
end
def fSeq (f g : FS) : FS := fun ρ => (f ρ).bind fun o => match o with
  | .nx ρ' => g ρ'
  | o => some o
def fNext : FS := fun ρ => some (.nx ρ)
section
variable {X : Cx} {st : Stmt} {sts body : List Stmt} {e a b c : Expr} {P : List Nat} {f g : FS} {fe fa fb : FE PyData} {pos : Pos} {bb : Bool}
theorem s_nil : PSs X [] (tS X.K P fNext) := PSs.weak pss_nil fun D σ H ⟨G, ρ, o, E, ef, k⟩ => by
  cases ef
  exact k σ G H .refl E
theorem s_cons (h1 : PS X st (tS X.K P f)) (h2 : PSs X sts (tS X.K P g)) : PSs X (st :: sts) (tS X.K P (fSeq f g)) := PSs.weak (pss_cons h1 h2) fun D σ H ⟨G, ρ, o, E, ef, k⟩ => by
  unfold fSeq at ef
  obtain ⟨o1, h1, h2⟩ := Option.bind_eq_some_iff.mp ef
  refine ⟨G, ρ, o1, E, h1, ?_⟩
  cases o1 with
  | nx r => exact fun σ' G' H' s' E' => ⟨G', r, o, E', h2, k.pre s'⟩
  | rt d r => cases h2; exact k
  | rf ds r => cases h2; exact k
  | bk r => cases h2; exact k
  | ct r => cases h2; exact k
theorem s_one (h1 : PS X st (tS X.K P f)) : PSs X [st] (tS X.K P f) := PSs.weak (pss_one h1) fun _ _ _ h => h
theorem s_pass : PS X (.Pass pos) (tS X.K P fNext) := PS.weak ps_pass fun D σ H ⟨G, ρ, o, E, ef, k⟩ => by
  cases ef
  exact k σ G H .refl E
theorem s_doc {x j pos'} : PS X (.Expr (.Constant (.str x) j pos) pos') (tS X.K P fNext) := PS.weak ps_doc fun D σ H ⟨G, ρ, o, E, ef, k⟩ => by
  cases ef
  exact k σ G H .refl E
theorem s_break : PS X (.Break pos) (tS X.K P fun ρ => some (.bk ρ)) := PS.weak ps_break fun D σ H ⟨G, ρ, o, E, ef, k⟩ => by
  cases ef
  exact k σ G H .refl E
theorem s_continue : PS X (.Continue pos) (tS X.K P fun ρ => some (.ct ρ)) := PS.weak ps_continue fun D σ H ⟨G, ρ, o, E, ef, k⟩ => by
  cases ef
  exact k σ G H .refl E
def fNever : FS := fun _ => none
theorem s_never : PS X st (tS X.K P fNever) := PS.weak ps_never fun D σ H ⟨G, ρ, o, E, ef, k⟩ => by cases ef
theorem ss_never : PSs X sts (tS X.K P fNever) := PSs.weak pss_never fun D σ H ⟨G, ρ, o, E, ef, k⟩ => by cases ef
def fRet (f : FE PyData) : FS := fun ρ => (f ρ).map fun p => .rt p.1 p.2
theorem s_ret (h : PE X e (tE X.K bb fe)) : PS X (.Return (some e) pos) (tS X.K P (fRet fe)) := PS.weak (ps_ret h) fun D σ H ⟨G, ρ, o, E, ef, k⟩ => by
  obtain ⟨⟨d, ρ'⟩, h1, rfl⟩ := Option.map_eq_some_iff.mp ef
  exact ⟨G, ρ, d, ρ', E, h1, fun v G' H' t o E' d' => k v σ G' H' (.of t o) E' d'⟩
theorem s_retN : PS X (.Return none pos) (tS X.K P (fRet (ret .none))) := PS.weak ps_retN fun D σ H ⟨G, ρ, o, E, ef, k⟩ => by
  cases ef
  exact k .non σ G H .refl E .nn
def fDrop (f : FE PyData) : FS := fun ρ => (f ρ).map fun p => .nx p.2
theorem s_drop (h : PE X e (tE X.K bb fe)) (hs : swapsWith e none pos.line X.env = pure false := by rfl) : PS X (.Expr e pos) (tS X.K P (fDrop fe)) := PS.weak (ps_expr h hs) fun D σ H ⟨G, ρ, o, E, ef, k⟩ => by
  obtain ⟨⟨d, ρ'⟩, h1, rfl⟩ := Option.map_eq_some_iff.mp ef
  exact ⟨G, ρ, d, ρ', E, h1, fun v G' H' t o E' d' => k σ G' H' (.of t o) E'⟩
def fIfS (t : FE Bool) (f g : FS) : FS := fun ρ => (t ρ).bind fun p => if p.1 = true then f p.2 else g p.2
theorem s_if {t : FE Bool} {ta tb : List Stmt} (hc : PT X c (tT X.K bb t)) (ha : PSs X ta (tS X.K P f)) (hb : PSs X tb (tS X.K P g)) : PS X (.If c ta tb pos) (tS X.K P (fIfS t f g)) := PS.weak (ps_if hc ha hb) fun D σ H ⟨G, ρ, o, E, ef, k⟩ => by
  obtain ⟨⟨q, ρ1⟩, h1, h2⟩ := Option.bind_eq_some_iff.mp ef
  refine ⟨G, ρ, q, ρ1, E, h1, fun G1 H1 t1 o1 E1 => ?_⟩
  cases q with
  | true =>
    rw [if_pos rfl]
    exact ⟨G1, ρ1, o, E1, h2, k.pre (.of t1 o1)⟩
  | false =>
    rw [if_neg Bool.false_ne_true]
    exact ⟨G1, ρ1, o, E1, h2, k.pre (.of t1 o1)⟩
end
/-! ### targets -/
abbrev FG := PyData → Rho → Option Rho
/-- the slots behind a store -/
structure Sto (P : List Nat) (σ : L2.St) (ρ : Rho) (σ' : L2.St) (ρ' : Rho) : Prop where
  o : ∀ l, own σ' ρ' l → own σ ρ l
  p : ∀ i ∈ P, σ'[i]? = σ[i]?
  l : σ'.length = σ.length
/-- data, or (where they are taken apart at once) a pair of which no more is known -/
def Dx (wk : Bool) (K : PySem.W.Frag) (G : Hp) (v : V) (d : PyData) : Prop := match wk with
  | false => Dt K G v d
  | true => Dt K G v d ∨ ∃ (a : Addr) (xs : List V) (ds : List PyData), v = .ref a ∧ SqT K G a xs ∧ d = .tuple ds ∧ Da K G xs ds
theorem Dx.of {wk : Bool} {K : PySem.W.Frag} {G : Hp} {v : V} {d : PyData} (h : Dt K G v d) : Dx wk K G v d := by
  cases wk with
  | false => exact h
  | true => exact .inl h
def tGw (wk : Bool) (K : PySem.W.Frag) (P : List Nat) (f : FG) : TG := fun v σ H Q => ∃ (G : Hp) (ρ : Rho) (d : PyData) (ρ' : Rho), EnvOk K G H σ ρ ∧ Dx wk K G v d ∧ f d ρ = some ρ' ∧ ∀ σ', Sto P σ ρ σ' ρ' → EnvOk K G H σ' ρ' → Q σ' H
abbrev tG : PySem.W.Frag → List Nat → FG → TG := tGw false
def gNm (i : Nat) : FG := fun d ρ => if i < ρ.length then some (ρ.set i (.d d)) else none
section
variable {K : PySem.W.Frag} {P : List Nat} {G H G1 H1 : Hp} {σ : L2.St} {ρ : Rho}
theorem set_get {α : Type} {l : List α} {i j : Nat} {x y : α} (h : (l.set i x)[j]? = some y) : (j = i ∧ y = x) ∨ (j ≠ i ∧ l[j]? = some y) := by
  by_cases e : j = i
  · subst e
    rw [List.getElem?_set_self'] at h
    cases q : l[j]? with
    | none => rw [q] at h; cases h
    | some z => rw [q] at h; exact .inl ⟨rfl, (Option.some.inj h).symm⟩
  · rw [List.getElem?_set_ne (Ne.symm e)] at h
    exact .inr ⟨e, h⟩
theorem own_set {i : Nat} {v : Option V} {x : PyData} {l : Addr} (h : own (σ.set i v) (ρ.set i (.d x)) l) : own σ ρ l := by
  obtain ⟨j, ds, h1, h2⟩ := h
  rcases set_get h1 with ⟨_, q⟩ | ⟨n, h1⟩
  · cases q
  · rw [List.getElem?_set_ne (Ne.symm n)] at h2
    exact ⟨j, ds, h1, h2⟩
theorem EnvOk.set (E : EnvOk K G H σ ρ) {i : Nat} (hi : i < ρ.length) {v : V} {x : PyData} (d : Dt K G v x) : EnvOk K G H (σ.set i (some v)) (ρ.set i (.d x)) where
  ex := E.ex
  len := by rw [List.length_set, List.length_set, E.len]
  dat := fun j y h => by
    rcases set_get h with ⟨rfl, q⟩ | ⟨n, h⟩
    · cases q
      exact ⟨v, List.getElem?_set_self (by rw [E.len]; exact hi), d⟩
    · rw [List.getElem?_set_ne (Ne.symm n)]
      exact E.dat j y h
  mu := fun j y h => by
    rcases set_get h with ⟨rfl, q⟩ | ⟨n, h⟩
    · cases q
    · rw [List.getElem?_set_ne (Ne.symm n)]
      exact E.mu j y h
  ne := fun j k ds es l h1 h2 h3 h4 => by
    rcases set_get h1 with ⟨_, q⟩ | ⟨n1, h1⟩
    · cases q
    rcases set_get h2 with ⟨_, q⟩ | ⟨n2, h2⟩
    · cases q
    rw [List.getElem?_set_ne (Ne.symm n1)] at h3
    rw [List.getElem?_set_ne (Ne.symm n2)] at h4
    exact E.ne j k ds es l h1 h2 h3 h4
theorem PG.weak {X : Cx} {e : Expr} {t t' : TG} (h : PG X e t) (w : ∀ v σ H Q, t' v σ H Q → t v σ H Q) : PG X e t' := ⟨fun pins s σ H v u Q I r q => h.run pins s σ H v u Q I r (w v σ H Q q)⟩
theorem g_nm {X : Cx} {e : Expr} {i : Nat} (hp : i ∉ P) (h : PG X e (gName i)) : PG X e (tG X.K P (gNm i)) := PG.weak h fun v σ H Q ⟨G, ρ, d, ρ', E, dv, ef, k⟩ => by
  obtain ⟨hi, rfl⟩ := ite_p ef
  exact k _ ⟨fun l q => own_set q, fun j hj => List.getElem?_set_ne fun z => hp (by rw [z]; exact hj), List.length_set⟩ (E.set hi dv)
/-- a, b, .. = a tuple -/
def gSeq : List FG → List PyData → Rho → Option Rho
  | [], [], ρ => some ρ
  | f :: fs, d :: ds, ρ => (f d ρ).bind fun ρ1 => gSeq fs ds ρ1
  | _, _, _ => none
def gTp (fs : List FG) : FG := fun d ρ => match d with
  | .tuple ds => gSeq fs ds ρ
  | _ => none
def tGs (K : PySem.W.Frag) (P : List Nat) (fs : List FG) : TGs := fun vs σ H Q => ∃ (G : Hp) (ρ : Rho) (ds : List PyData) (ρ' : Rho), EnvOk K G H σ ρ ∧ Da K G vs ds ∧ gSeq fs ds ρ = some ρ' ∧ ∀ σ', Sto P σ ρ σ' ρ' → EnvOk K G H σ' ρ' → Q σ' H
theorem PGs.weak {X : Cx} {es : List Expr} {t t' : TGs} (h : PGs X es t) (w : ∀ v σ H Q, t' v σ H Q → t v σ H Q) : PGs X es t' := ⟨fun pins s σ H v u Q I r q => h.run pins s σ H v u Q I r (w v σ H Q q)⟩
theorem gs_nil {X : Cx} : PGs X [] (tGs X.K P []) := PGs.weak pgs_nil fun v σ H Q ⟨G, ρ, ds, ρ', E, dv, ef, k⟩ => by
  cases dv with
  | nil =>
    cases ef
    exact ⟨rfl, k σ ⟨fun _ q => q, fun _ _ => rfl, rfl⟩ E⟩
  | cons h t => cases ef
theorem gs_cons {X : Cx} {e : Expr} {es : List Expr} {f : FG} {fs : List FG} (h1 : PG X e (tG X.K P f)) (h2 : PGs X es (tGs X.K P fs)) (hs : (assignEach (e :: es) X.env).map (·.2) = assign e X.env :: (assignEach es X.env).map (·.2) := by rfl) :
    PGs X (e :: es) (tGs X.K P (f :: fs)) := PGs.weak (pgs_cons h1 h2 hs) fun v σ H Q ⟨G, ρ, ds, ρ', E, dv, ef, k⟩ => by
  cases dv with
  | nil => cases ef
  | cons h t =>
    obtain ⟨ρ1, q1, q2⟩ := Option.bind_eq_some_iff.mp ef
    exact ⟨_, _, rfl, G, ρ, _, ρ1, E, h, q1, fun σ1 s1 E1 => ⟨G, ρ1, _, ρ', E1, t, q2, fun σ2 s2 E2 => k σ2 ⟨fun l q => s1.o l (s2.o l q), fun i q => (s2.p i q).trans (s1.p i q), s2.l.trans s1.l⟩ E2⟩⟩
theorem gSeq_len : ∀ {fs : List FG} {ds : List PyData} {ρ ρ' : Rho}, gSeq fs ds ρ = some ρ' → ds.length = fs.length
  | [], [], _, _, _ => rfl
  | f :: fs, d :: ds, ρ, ρ', h => by
    obtain ⟨ρ1, q1, q2⟩ := Option.bind_eq_some_iff.mp h
    show ds.length + 1 = fs.length + 1
    rw [gSeq_len q2]
  | [], _ :: _, _, _, h => by cases h
  | _ :: _, [], _, _, h => by cases h
end
/-! ### x = e -/
def fAsg (f : FE PyData) (g : FG) : FS := fun ρ => (f ρ).bind fun p => (g p.1 p.2).map .nx
section
variable {X : Cx} {e tg : Expr} {P : List Nat} {fe : FE PyData} {g : FG} {pos : Pos} {bb : Bool}
theorem asg_run {σ : L2.St} {H : Hp} {D : Ends} (h : tS X.K P (fAsg fe g) D σ H) : tAsg (tE X.K bb fe) (tG X.K P g) D σ H := by
  obtain ⟨G, ρ, o, E, ef, k⟩ := h
  obtain ⟨⟨d, ρ1⟩, h1, h2⟩ := Option.bind_eq_some_iff.mp ef
  obtain ⟨ρ2, h3, rfl⟩ := Option.map_eq_some_iff.mp h2
  exact ⟨G, ρ, d, ρ1, E, h1, fun v G1 H1 t1 o1 E1 d1 => ⟨G1, ρ1, d, ρ2, E1, d1, h3, fun σ' s' E' => k σ' G1 H1 (Stp.trans (.of t1 o1) ⟨.refl, fun l q => .inl (s'.o l q), s'.p⟩) E'⟩⟩
theorem s_asg (he : PE X e (tE X.K bb fe)) (hg : PG X tg (tG X.K P g)) (hs : swapsWithSole [tg] e pos.line X.env = pure false := by rfl) (hw : swappedStores [tg] e X.env = pure none := by rfl)
    (h1 : (assignEach [tg] X.env).map (·.2) = [assign tg X.env] := by rfl) : PS X (.Assign [tg] e pos) (tS X.K P (fAsg fe g)) := PS.weak (ps_asg he hg hs hw h1) fun _ _ _ h => asg_run h
end
end Tw

set_option Elab.async false
set_option linter.all false
set_option maxRecDepth 100000
set_option maxHeartbeats 2000000
namespace Tw
open PySem PySem.Spec PyProof.Rows L2
open Evl (Ex)
section
variable {X : Cx} {P : List Nat} {pos : Pos}
theorem g_tp {wk : Bool} {es : List Expr} {k : Nat} {fs : List FG} (hc : X.calm = true) (h : PGs X es (tGs X.K P fs)) (hn : (assignEach es X.env).length = fs.length := by rfl) (hst : (assignEach es X.env).findIdx? (·.1) = none := by rfl) :
    PG X (.Tuple es k pos) (tGw wk X.K P (gTp fs)) := PG.weak (pg_tup (n := fs.length) hc h hn hst) fun v σ H Q ⟨G, ρ, d, ρ', E, dv, ef, k⟩ => by
  unfold gTp at ef
  split at ef
  case h_2 => cases ef
  have to : ∃ a xs, v = .ref a ∧ SqT X.K G a xs ∧ Da X.K G xs ‹List PyData› := by
    cases wk with
    | false => exact dt_tup dv
    | true =>
      rcases dv with dv | ⟨a, xs, ds, h1, h2, h3, h4⟩
      · exact dt_tup dv
      · cases h3
        exact ⟨a, xs, h1, h2, h4⟩
  obtain ⟨a, xs, rfl, hx, dx⟩ := to
  exact ⟨a, xs, rfl, Evl.ex_t E.ex hx, by rw [dx.len]; exact gSeq_len ef, G, ρ, _, ρ', E, dx, ef, k⟩
end
/-! ### defs: as in the layer, where no repr is on its way -/
/-- a def's promise, wherever nothing is being shown -/
structure FnG (Pr : Program) (w : World) (K : PySem.W.Frag) (mg : Str → Option Value) (base : Heap) (k : Nat) (f : Addr) (fd : FuncData) (ps : List Str) (sp : Sp) : Prop where
  len : ∀ vs H Q E, sp vs H Q E → vs.length = ps.length
  run : ∀ (A : Around), A.guards = some [] → Room k A → ∀ (outer : List Env) (s : Shared) (H : Hp) (args : Args) (us : List Value) (vs : List V) (Q : VK), Env0 Pr w K mg base A outer s H → BindsTo s fd args (ps.zip us) → Vals vs us →
    sp vs H Q E0 → codeAny (model Pr w) A (.call (.ref f) args) (CR CX0 outer Pr w H s Q E0) s
section
variable {Pr : Program} {w : World} {K : PySem.W.Frag} {mg : Str → Option Value} {base : Heap} {k : Nat} {f : Addr} {fd : FuncData} {ps : List Str} {sp : Sp}
theorem FnG.imp (F : FnG Pr w K mg base k f fd ps sp) {sp' : Sp} (h : ∀ vs H Q E, sp' vs H Q E → sp vs H Q E) : FnG Pr w K mg base k f fd ps sp' :=
  ⟨fun vs H Q E q => F.len vs H Q E (h vs H Q E q), fun A hg hr outer s H args us vs Q e hb r q => F.run A hg hr outer s H args us vs Q e hb r (h vs H Q E0 q)⟩
theorem FnG.up (F : FnG Pr w K mg base k f fd ps sp) {j : Nat} (h : k ≤ j) : FnG Pr w K mg base j f fd ps sp := ⟨F.len, fun A hg hr => F.run A hg (hr.mono h)⟩
end
/-- where a body runs -/
structure Here (k : Nat) (X : Cx) : Prop where
  g : X.A.guards = some []
  r : Room k X.A
  c : X.calm = true
theorem Here.u {k : Nat} {X : Cx} (h : Here k X) : X.A.units + 64 < cLine := h.r.units
theorem Here.u0 {k : Nat} {X : Cx} (h : Here k X) : X.A.units < cLine := h.r.units0
theorem Here.blk {k : Nat} {X : Cx} (h : Here k X) {s : Shared} {H : Hp} {sc : Scope} {en : Env} {fp : List Addr} : Here k (X.blk s H sc en fp) := ⟨h.g, h.r, h.c⟩
section
variable {X : Cx} {k : Nat} {f : Addr} {fd : FuncData} {ps : List Str} {sp : Sp} {x : Str} {p pos : Pos} {e : Expr} {es : List Expr} {t : TA}
theorem call_G (F : FnG X.prog X.w X.K X.mg X.base k f fd ps sp) (hh : Here k X) (hg : Gl X x) (hm : X.mg x = some (.ref f)) (hk : PySem.W.keepIn X.K (.ref f) = true) (hb : Binds X.K fd ps [])
    (ha : PA X (e :: es) t) (hdb : (x == ("__debug__" : Str)) = false := by decide) (he : starEach (e :: es) X.env = (false, eval e X.env) :: starEach es X.env := by rfl) (hpl : (backTo pos (starEach es X.env)).any (·.1) = false := by rfl) :
    PE X (.Call (.Name x p) (e :: es) [] pos) (fun σ H Q => t σ H fun vs H1 => sp vs H1 Q E0) := ⟨fun pins s σ H Q I h => by
  refine wpAny_Call_Name_kw (ld_glob I hg hm ?_ hdb)
  refine PySem.W.callWith_K (h₀ := X.base) I.ok.mod.kin hk (thn (ha.run pos pins s σ H _ I h) fun us s1 hz => ?_) he hpl
  obtain ⟨vs, H1, J, r, q⟩ := hz
  refine ⟨J.kIn, ?_⟩
  have hl := F.len _ _ _ _ q
  have bd := hb s1 us J.kIn (by rw [List.append_nil, ← r.length]; exact hl)
  rw [List.append_nil] at bd
  refine wpAny_call (codeAny_mono (F.run X.A hh.g hh.r X.stack s1 H1 ⟨us, []⟩ us vs Q J.env0 bd r q) fun rr s2 hq => ?_)
  match rr, hq with
  | .ok (.ret _), hq => exact J.after hq
  | .ok .next, hq => exact False.elim hq
  | .ok .brk, hq => exact False.elim hq
  | .ok .cont, hq => exact False.elim hq
  | .error _, hq => exact False.elim hq⟩
end
/-- where a def's body runs -/
abbrev bx (Pr : Program) (w : World) (K : PySem.W.Frag) (mg : Str → Option Value) (base : Heap) (N : List Str) (qual : Str) (st : Stmt) (f : Addr) (cdv : Value) (A : Around) (outer : List Env) (s : Shared) (H : Hp) : Cx :=
  (cxOf CX0 Pr w K mg base N qual (defScope st) f cdv A outer s H E0).nox
/-- a def by its body -/
theorem fn_G {Pr : Program} {w : World} {K : PySem.W.Frag} {mg : Str → Option Value} {base : Heap} {x qual : Str} {st : Stmt} {f : Addr} {fd : FuncData} {N ps : List Str} {k : Nat} {sp : Sp} (F : Fun K x qual st f fd) (S : FnScope N ps (defScope st))
    (len : ∀ vs H Q E, sp vs H Q E → vs.length = ps.length)
    (body : ∀ (cdv : Value) (A : Around) (outer : List Env) (s : Shared) (H : Hp), Here k (bx Pr w K mg base N qual st f cdv A outer s H) → ∀ vs Q, sp vs H Q E0 →
      ∃ t, PSs (bx Pr w K mg base N qual st f cdv A outer s H) (defBody st) t ∧ t { nx := fun _ H' => Q .non H', rt := Q } (L2.start N vs) H) : FnG Pr w K mg base (k + 1) f fd ps sp := by
  obtain ⟨oc, od, kV, doc, pm, an, cdv, ct, osl, rfl, lk, hcd⟩ := F.ex
  refine ⟨len, fun A hg hr outer s H args us vs Q e0 hb r hsp => ?_⟩
  have KX : K.In s.heap := e0.mod.kin.keeps fun b o z => (e0.bs b o z).1
  have lim : s.heap.NoLimit := e0.mod.nolimit.keeps fun b o z => (e0.bs b o z).1
  have kinds : ∀ y ∈ ps.zip us, (defScope st).names.lookup y.1 = some .local ∨ ((defScope st).names.lookup y.1 = some .cell ∧ ((cellsFrom (s.heap.objs.size + 1) (defScope st).names []).lookup y.1).isSome = true) := fun ⟨n, v⟩ hy =>
    (S.par n (List.of_mem_zip hy).1).imp id fun q => ⟨q, PySem.W.cellsFrom_some _ _ _ (.inl q)⟩
  refine codeAny_call_function hr.depth (KX _ _ lk) rfl S.co S.gen rfl (PySem.W.codeRec_of KX hcd) (hb _ _ _ _ ?_)
  refine wpAny_newFunctionEnv_cells S.kind kinds fun env he s1 y => ?_
  subst he
  refine ⟨lim.keeps y.toInCall.keep, codeAny_func ?_⟩
  have I : Inv (cxOf CX0 Pr w K mg base N qual (defScope st) f cdv A outer s H E0) [] (start N vs) H s1 := inv_start S hr.hd e0 (len _ _ _ _ hsp) r y
  obtain ⟨t, ht, hq⟩ := body cdv A outer s H ⟨hg, hr.deeper _, rfl⟩ vs Q hsp
  have done : ∀ {σ' : L2.St} {H' : Hp} {v : V} {u : Value} {s' : Shared}, Inv (cxOf CX0 Pr w K mg base N qual (defScope st) f cdv A outer s H E0) [] σ' H' s' → RelV v u → Q v H' → CE outer Pr w H s Q u s' :=
    fun {σ' H' v u s'} J rv q => ⟨v, H', J.os, J.bare, J.base, J.hok, rv, q⟩
  refine wpAny_mono (ht.nox.run [] s1 (start N vs) H _ I hq) (fun fl s2 hs => ?_) fun _ _ hs => hs
  match fl, hs with
  | .ret _, ⟨_, _, _, J, rv, q⟩ => exact done J rv q
  | .next, ⟨_, _, J, q⟩ => exact done (v := V.non) (u := Value.none) J rfl q
  | .brk, ⟨_, _, _, q⟩ => exact q.elim
  | .cont, ⟨_, _, _, q⟩ => exact q.elim

/-! ### a def of data: what it tells hangs on its arguments alone -/
def spP (K : PySem.W.Frag) (n : Nat) (g : List PyData → Option PyData) : Sp := fun vs H Q _ => ∃ (G : Hp) (ds : List PyData) (d : PyData), Ex G H ∧ Da K G vs ds ∧ ds.length = n ∧ g ds = some d ∧
  ∀ v G' H', Tr nobody G H G' H' → Ex G' H' → Dt K G' v d → Q v H'
/-- .. whose first argument is a list that it may change -/
def spM (K : PySem.W.Frag) (n : Nat) (g : List PyData → List PyData → Option (PyData × List PyData)) : Sp := fun vs H Q _ => ∃ (G : Hp) (l : Addr) (xs ws : List V) (ms ds : List PyData) (d : PyData) (ms' : List PyData), vs = .ref l :: ws ∧ Ex G H ∧ G l = none ∧
  H l = some (.lst xs) ∧ Da K G xs ms ∧ Da K G ws ds ∧ ds.length = n ∧ g ms ds = some (d, ms') ∧
  ∀ v G' H' xs', Tr (fun a => a = l) G H G' H' → Ex G' H' → G' l = none → H' l = some (.lst xs') → Da K G' xs' ms' → Dt K G' v d → Q v H'
def outD : Option Out → Option PyData
  | some (.rt d _) => some d
  | some (.rf ds _) => some (.list ds)
  | some (.nx _) => some .none
  | _ => none
/-- what a body tells of data -/
def runP (m : Nat) (fb : FS) (ds : List PyData) : Option PyData := outD (fb (ds.map Sl.d ++ List.replicate (m - ds.length) Sl.un))
def outM : Option Out → Option (PyData × List PyData)
  | some (.rt d (.m (.l ms) :: _)) => some (d, ms)
  | some (.nx (.m (.l ms) :: _)) => some (.none, ms)
  | _ => none
def runM (m : Nat) (fb : FS) (ms ds : List PyData) : Option (PyData × List PyData) := outM (fb (.m ms :: (ds.map Sl.d ++ List.replicate (m - (ds.length + 1)) Sl.un)))
section
variable {K : PySem.W.Frag} {G H : Hp}
theorem env_un {n : Nat} (ex : Ex G H) : EnvOk K G H (List.replicate n none) (List.replicate n Sl.un) where
  ex := ex
  len := by rw [List.length_replicate, List.length_replicate]
  dat := fun i d h => by
    rw [List.getElem?_replicate] at h
    split at h <;> cases h
  mu := fun i d h => by
    rw [List.getElem?_replicate] at h
    split at h <;> cases h
  ne := fun i j ds es l h1 h2 h3 h4 => by
    rw [List.getElem?_replicate] at h1
    split at h1 <;> cases h1
theorem env_cons {σ : L2.St} {ρ : Rho} (E : EnvOk K G H σ ρ) {v : V} {d : PyData} (h : Dt K G v d) : EnvOk K G H (some v :: σ) (.d d :: ρ) where
  ex := E.ex
  len := congrArg (· + 1) E.len
  dat := fun i x q => by
    cases i with
    | zero => cases q; exact ⟨v, rfl, h⟩
    | succ i => exact E.dat i x q
  mu := fun i x q => by
    cases i with
    | zero => cases q
    | succ i => exact E.mu i x q
  ne := fun i j ds es l h1 h2 h3 h4 => by
    cases i with
    | zero => cases h1
    | succ i =>
      cases j with
      | zero => cases h2
      | succ j => exact congrArg (· + 1) (E.ne i j ds es l h1 h2 h3 h4)
theorem env_args {σ : L2.St} {ρ : Rho} (E : EnvOk K G H σ ρ) : ∀ {vs : List V} {ds : List PyData}, Da K G vs ds → EnvOk K G H (vs.map some ++ σ) (ds.map Sl.d ++ ρ)
  | _, _, .nil => E
  | _, _, .cons h t => env_cons (env_args E t) h
/-- no list of one's own -/
def noM (ρ : Rho) : Prop := ∀ (i : Nat) (ds : Mu), ρ[i]? ≠ some (.m ds)
theorem noM_un {n : Nat} : noM (List.replicate n Sl.un) := fun i d h => by
  rw [List.getElem?_replicate] at h
  split at h <;> cases h
theorem noM_args {ρ : Rho} (h : noM ρ) : ∀ ds : List PyData, noM (ds.map Sl.d ++ ρ)
  | [] => h
  | d :: ds => fun i x q => by
    cases i with
    | zero => cases q
    | succ i => exact noM_args h ds i x q
theorem noM.own {ρ : Rho} (h : noM ρ) {σ : L2.St} {l : Addr} (q : own σ ρ l) : False := by
  obtain ⟨i, ds, h1, _⟩ := q
  exact h i ds h1
theorem env_m {σ : L2.St} {ρ : Rho} (E : EnvOk K G H σ ρ) (hm : noM ρ) {l : Addr} {xs : List V} {ms : List PyData} (hG : G l = none) (hH : H l = some (.lst xs)) (h : Da K G xs ms) : EnvOk K G H (some (.ref l) :: σ) (.m ms :: ρ) where
  ex := E.ex
  len := congrArg (· + 1) E.len
  dat := fun i x q => by
    cases i with
    | zero => cases q
    | succ i => exact E.dat i x q
  mu := fun i x q => by
    cases i with
    | zero => cases q; exact ⟨l, _, rfl, hG, hH, .l h⟩
    | succ i => exact E.mu i x q
  ne := fun i j ds es l h1 h2 h3 h4 => by
    cases i with
    | zero =>
      cases j with
      | zero => rfl
      | succ j => exact (hm j es h2).elim
    | succ i => exact (hm i ds h1).elim
end
/-- THE RULE for a def of data -/
theorem fn_P {Pr : Program} {w : World} {K : PySem.W.Frag} {mg : Str → Option Value} {base : Heap} {x qual : Str} {st : Stmt} {f : Addr} {fd : FuncData} {N ps : List Str} {k : Nat} (F : Fun K x qual st f fd) (S : FnScope N ps (defScope st)) {fb : FS}
    (body : ∀ (cdv : Value) (A : Around) (outer : List Env) (s : Shared) (H : Hp), Here k (bx Pr w K mg base N qual st f cdv A outer s H) → PSs (bx Pr w K mg base N qual st f cdv A outer s H) (defBody st) (tS K [] fb)) : FnG Pr w K mg base (k + 1) f fd ps (spP K ps.length (runP N.length fb)) :=
  fn_G F S (fun vs H Q E ⟨G, ds, d, ex, da, hl, _⟩ => by rw [da.len, hl]) fun cdv A outer s H hh vs Q ⟨G, ds, d, ex, da, hl, hg, k⟩ => by
    refine ⟨_, body cdv A outer s H hh, ?_⟩
    unfold runP at hg
    have e1 : L2.start N vs = vs.map some ++ List.replicate (N.length - ds.length) none := by unfold L2.start; rw [da.len]
    rw [e1]
    have E : EnvOk K G H (vs.map some ++ List.replicate (N.length - ds.length) none) (ds.map Sl.d ++ List.replicate (N.length - ds.length) Sl.un) := env_args (env_un ex) da
    have hm : noM (ds.map Sl.d ++ List.replicate (N.length - ds.length) Sl.un) := noM_args noM_un ds
    cases ho : fb (ds.map Sl.d ++ List.replicate (N.length - ds.length) Sl.un) with
    | none => rw [ho] at hg; cases hg
    | some o =>
      rw [ho] at hg
      refine ⟨G, _, o, E, ho, ?_⟩
      cases o with
      | rt e r =>
        cases hg
        exact fun v σ' G' H' s' E' dv => k v G' H' (s'.t.wide fun _ _ _ q => (hm.own q).elim) E'.ex dv
      | rf ds' r =>
        cases hg
        intro p xs σ' G' H' s' E' w1 w2 w3 w4 w5
        have hp : H p = none := w1.elim (fun q => (hm.own q).elim) id
        have t0 : Tr nobody G H G' H' := s'.t.wide fun _ _ _ q => (hm.own q).elim
        have gx : Ex G' (upd G' p (.lst xs)) := fun x u q => by
          rw [upd_ne fun z => by subst z; rw [w3] at q; cases q]
          exact q
        refine k (.ref p) (upd G' p (.lst xs)) H' ⟨fun x u q => gx x u (t0.g x u q), t0.h, fun x u q g _ => ?_, t0.k⟩ (fun x u q => ?_) (.ll (RL.of upd_same) (w5.mono gx))
        · rw [upd_ne fun z => by subst z; rw [hp] at q; cases q]
          exact t0.n x u q g id
        · by_cases z : x = p
          · subst z; rw [upd_same] at q; rw [← q]; exact w4
          · rw [upd_ne z] at q; exact E'.ex x u q
      | nx r =>
        cases hg
        exact fun σ' G' H' s' E' => k .non G' H' (s'.t.wide fun _ _ _ q => (hm.own q).elim) E'.ex .nn
      | bk r => cases hg
      | ct r => cases hg
/-- .. whose first parameter is a list that it may change -/
theorem fn_M {Pr : Program} {w : World} {K : PySem.W.Frag} {mg : Str → Option Value} {base : Heap} {x qual : Str} {st : Stmt} {f : Addr} {fd : FuncData} {N ps : List Str} {k : Nat} (F : Fun K x qual st f fd) (S : FnScope N ps (defScope st)) {fb : FS} (hps : 0 < ps.length)
    (body : ∀ (cdv : Value) (A : Around) (outer : List Env) (s : Shared) (H : Hp), Here k (bx Pr w K mg base N qual st f cdv A outer s H) → PSs (bx Pr w K mg base N qual st f cdv A outer s H) (defBody st) (tS K [0] fb)) : FnG Pr w K mg base (k + 1) f fd ps (spM K (ps.length - 1) (runM N.length fb)) :=
  fn_G F S (fun vs H Q E ⟨G, l, xs, ws, ms, ds, d, ms', ev, ex, hG, hH, da, db, hl, _⟩ => by rw [ev, List.length_cons, db.len, hl]; omega) fun cdv A outer s H hh vs Q ⟨G, l, xs, ws, ms, ds, d, ms', ev, ex, hG, hH, da, db, hl, hg, k⟩ => by
    refine ⟨_, body cdv A outer s H hh, ?_⟩
    unfold runM at hg
    have e1 : L2.start N vs = some (.ref l) :: (ws.map some ++ List.replicate (N.length - (ds.length + 1)) none) := by unfold L2.start; rw [ev, List.length_cons, db.len]; rfl
    rw [e1]
    have hm : noM (ds.map Sl.d ++ List.replicate (N.length - (ds.length + 1)) Sl.un) := noM_args noM_un ds
    have E : EnvOk K G H (some (.ref l) :: (ws.map some ++ List.replicate (N.length - (ds.length + 1)) none)) (.m ms :: (ds.map Sl.d ++ List.replicate (N.length - (ds.length + 1)) Sl.un)) := env_m (env_args (env_un ex) db) hm hG hH da
    have ow : ∀ a, own (some (.ref l) :: (ws.map some ++ List.replicate (N.length - (ds.length + 1)) none)) (.m ms :: (ds.map Sl.d ++ List.replicate (N.length - (ds.length + 1)) Sl.un)) a → a = l := fun a ⟨i, es, q1, q2⟩ => by
      cases i with
      | zero => cases q2; rfl
      | succ i => exact (hm i es q1).elim
    cases ho : fb (.m ms :: (ds.map Sl.d ++ List.replicate (N.length - (ds.length + 1)) Sl.un)) with
    | none => rw [ho] at hg; cases hg
    | some o =>
      rw [ho] at hg
      refine ⟨G, _, o, E, ho, ?_⟩
      have at0 : ∀ {σ' : L2.St} {G' H' : Hp} {ρ' : Rho} {ms'' : List PyData}, Stp [0] G H (some (.ref l) :: (ws.map some ++ List.replicate (N.length - (ds.length + 1)) none)) (.m ms :: (ds.map Sl.d ++ List.replicate (N.length - (ds.length + 1)) Sl.un)) G' H' σ' (.m ms'' :: ρ') →
          EnvOk K G' H' σ' (.m ms'' :: ρ') → G' l = none ∧ ∃ xs', H' l = some (.lst xs') ∧ Da K G' xs' ms'' := fun {σ' G' H' ρ' ms''} s' E' => by
        obtain ⟨l', xs', q1, q2, q3, q4⟩ := E'.muL (i := 0) (ds := ms'') rfl
        rw [s'.p 0 (List.mem_singleton.mpr rfl)] at q1
        cases q1
        exact ⟨q2, xs', q3, q4⟩
      cases o with
      | rt e r =>
        cases r with
        | nil => cases hg
        | cons z r =>
          cases z with
          | m mm =>
            cases mm with
            | k _ => cases hg
            | l ms'' =>
            cases hg
            exact fun v σ' G' H' s' E' dv => by
              obtain ⟨q2, xs', q3, q4⟩ := at0 s' E'
              exact k v G' H' xs' (s'.t.wide fun a _ _ q => ow a q) E'.ex q2 q3 q4 dv
          | un => cases hg
          | d _ => cases hg
      | rf ds' r => cases hg
      | nx r =>
        cases r with
        | nil => cases hg
        | cons z r =>
          cases z with
          | m mm =>
            cases mm with
            | k _ => cases hg
            | l ms'' =>
            cases hg
            exact fun σ' G' H' s' E' => by
              obtain ⟨q2, xs', q3, q4⟩ := at0 s' E'
              exact k .non G' H' xs' (s'.t.wide fun a _ _ q => ow a q) E'.ex q2 q3 q4 .nn
          | un => cases hg
          | d _ => cases hg
      | bk r => cases hg
      | ct r => cases hg
/-! ### calls of them -/
section
variable {X : Cx} {k : Nat} {f : Addr} {fd : FuncData} {ps : List Str} {x : Str} {p pos : Pos} {e : Expr} {es : List Expr} {bb : Bool} {n : Nat}
def lenIs (n : Nat) (g : List PyData → Option PyData) : List PyData → Option PyData := fun ds => if ds.length = n then g ds else none
theorem e_callP {g : List PyData → Option PyData} {ra : FE (List PyData)} (F : FnG X.prog X.w X.K X.mg X.base k f fd ps (spP X.K n g)) (hh : Here k X) (hg : Gl X x) (hm : X.mg x = some (.ref f)) (hk : PySem.W.keepIn X.K (.ref f) = true) (hb : Binds X.K fd ps [])
    (ha : PA X (e :: es) (tA X.K bb ra)) (hdb : (x == ("__debug__" : Str)) = false := by decide) (he : starEach (e :: es) X.env = (false, eval e X.env) :: starEach es X.env := by rfl) (hpl : (backTo pos (starEach es X.env)).any (·.1) = false := by rfl) :
    PE X (.Call (.Name x p) (e :: es) [] pos) (tE X.K bb (fCall (lenIs n g) ra)) := PE.weak (call_G F hh hg hm hk hb ha hdb he hpl) fun σ H Q h =>
  call_run (r := fun vs H1 Q => spP X.K n g vs H1 Q E0) (fun G H xs ds z Q ex da hz k => by
    unfold lenIs at hz
    split at hz
    · exact ⟨G, ds, z, ex, da, ‹_›, hz, k⟩
    · cases hz) h
def fCallM (n : Nat) (g : List PyData → List PyData → Option (PyData × List PyData)) (i : Nat) (ra : FE (List PyData)) : FE PyData := fun ρ => match ρ[i]? with
  | some (.m (.l _)) => thnE ra (fun ds ρ1 => if ds.length = n then match ρ1[i]? with
    | some (.m (.l ms)) => (g ms ds).map fun p => (p.1, ρ1.set i (.m (.l p.2)))
    | _ => none
    else none) ρ
  | _ => none
theorem own_setM {σ : L2.St} {ρ : Rho} {i : Nat} {ms ms' : Mu} {l : Addr} (hi : ρ[i]? = some (.m ms)) (h : own σ (ρ.set i (.m ms')) l) : own σ ρ l := by
  obtain ⟨j, ds, h1, h2⟩ := h
  rcases set_get h1 with ⟨rfl, _⟩ | ⟨_, h1⟩
  · exact ⟨j, ms, hi, h2⟩
  · exact ⟨j, ds, h1, h2⟩
theorem env_setM {K : PySem.W.Frag} {G H G' H' : Hp} {σ : L2.St} {ρ : Rho} (E : EnvOk K G H σ ρ) {i : Nat} {ms ms' : Mu} {l : Addr} {xs' : HO} (hi : ρ[i]? = some (.m ms)) (hl : σ[i]? = some (some (.ref l)))
    (t : Tr (fun a => a = l) G H G' H') (ex : Ex G' H') (hG : G' l = none) (hH : H' l = some xs') (da : MuOk K G' xs' ms') : EnvOk K G' H' σ (ρ.set i (.m ms')) where
  ex := ex
  len := by rw [List.length_set]; exact E.len
  dat := fun j d q => by
    rcases set_get q with ⟨_, q⟩ | ⟨_, q⟩
    · cases q
    · obtain ⟨v, h1, h2⟩ := E.dat j d q
      exact ⟨v, h1, h2.mono t.g⟩
  mu := fun j d q => by
    rcases set_get q with ⟨ej, qq⟩ | ⟨n, qq⟩
    · cases qq
      rw [ej]
      exact ⟨l, xs', hl, hG, hH, da⟩
    · obtain ⟨l', xs, h1, h2, h3, h4⟩ := E.mu j d qq
      have nl : l' ≠ l := fun z => n (E.ne j i _ _ l qq hi (by rw [← z]; exact h1) hl)
      exact ⟨l', xs, h1, t.n l' _ h3 h2 nl, t.h l' _ h3 nl, h4.mono t.g⟩
  ne := fun a b ds es l' h1 h2 h3 h4 => by
    have w : ∀ (c : Nat) (fs : Mu), (ρ.set i (.m ms'))[c]? = some (.m fs) → ∃ gs, ρ[c]? = some (.m gs) := fun c fs q => by
      rcases set_get q with ⟨ec, _⟩ | ⟨_, qq⟩
      · rw [ec]; exact ⟨_, hi⟩
      · exact ⟨_, qq⟩
    obtain ⟨_, k1⟩ := w a ds h1
    obtain ⟨_, k2⟩ := w b es h2
    exact E.ne a b _ _ l' k1 k2 h3 h4
theorem e_callM {g : List PyData → List PyData → Option (PyData × List PyData)} {ra : FE (List PyData)} (i : Nat) (F : FnG X.prog X.w X.K X.mg X.base k f fd ps (spM X.K n g)) (hh : Here k X) (hg : Gl X x) (hm : X.mg x = some (.ref f)) (hk : PySem.W.keepIn X.K (.ref f) = true) (hb : Binds X.K fd ps [])
    (h0 : PE X e (tVar i)) (ha : PA X es (tA X.K true ra)) (hdb : (x == ("__debug__" : Str)) = false := by decide) (he : starEach (e :: es) X.env = (false, eval e X.env) :: starEach es X.env := by rfl) (hpl : (backTo pos (starEach es X.env)).any (·.1) = false := by rfl) :
    PE X (.Call (.Name x p) (e :: es) [] pos) (tE X.K true (fCallM n g i ra)) := PE.weak (call_G F hh hg hm hk hb (pa_cons h0 ha he) hdb he hpl) fun σ H Q ⟨G, ρ, d, ρ', E, ef, kk⟩ => by
  unfold fCallM at ef
  split at ef
  case h_2 => cases ef
  rename_i ms0 hi0
  obtain ⟨ds, ρ1, h1, h2⟩ := thnE_of ef
  split at h2
  case isFalse => cases h2
  rename_i hl
  split at h2
  case h_2 => cases h2
  rename_i ms hi
  obtain ⟨⟨z, ms'⟩, h3, h4⟩ := Option.map_eq_some_iff.mp h2
  cases h4
  obtain ⟨l, _, hσ, _, _, _⟩ := E.muL hi0
  refine ⟨.ref l, hσ, G, ρ, ds, ρ1, E, h1, fun ws G1 H1 t1 o1 E1 d1 => ?_⟩
  obtain ⟨l2, xs, hσ2, hG, hH, dx⟩ := E1.muL hi
  rw [hσ] at hσ2
  cases hσ2
  refine ⟨G1, l, xs, ws, ms, ds, _, ms', rfl, E1.ex, hG, hH, dx, d1, hl, h3, fun v G2 H2 xs' t2 ex2 hG2 hH2 dx2 dv => ?_⟩
  have own1 : own σ ρ1 l := ⟨i, _, hi, hσ⟩
  exact kk v G2 H2 (t1.trans t2 fun a _ _ q => ⟨rfl, by rw [q]; exact o1 l own1⟩) (fun l' q => o1 l' (own_setM hi q)) (env_setM E1 hi hσ t2 ex2 hG2 hH2 (.l dx2)) dv
end
end Tw

set_option Elab.async false
set_option linter.all false
set_option maxRecDepth 100000
set_option maxHeartbeats 4000000
namespace Tw
open PySem PySem.Spec PyProof.Rows L2
open PySem.SeqAt PySem.AutoSeq1
/-! ### enumerate(tuple) -/
theorem enum_new (l : Addr) (items : Array Value) (n : Nat) (dct : Option Addr) (sl : Array (Option Value)) :
    Meets (Builtin.«enumerate.__new__» ⟨[.type "enumerate", .ref l], []⟩) (fun _ R s => s.heap.get? l = some { cls := .type "tuple", dict := dct, data := .seq items n, slots := sl } ∧
      R (.ok (.ret (.ref (s.heap.push { cls := .type "tuple_iterator", data := .fields #[.ref l, .int 0 0] }).objs.size)))
        { s with heap := (s.heap.push { cls := .type "tuple_iterator", data := .fields #[.ref l, .int 0 0] }).push { cls := .type "enumerate", data := .fields #[.none, .bool false, .ref s.heap.objs.size, rawInt 0, .none, .none] } }) :=
  .of_wp fun prog w A R s h => by
    obtain ⟨hp, g, d, tk, os⟩ := s
    obtain ⟨hl, h⟩ := h
    have hsub := sub_enumerate
    have hL : Heap.IsTuple (Shared.heap ⟨hp, g, d, tk, os⟩) l items := ⟨_, hl, rfl, n, rfl⟩
    wp_walk using wpAny_loadPart' hl
    refine wpAny_stack_any fun st => wpAny_pure ?_
    split
    · rename_i c _ _ _ _ _
      cases (c == Value.type "enumerate") <;> (wp_walk using wpAny_loadPart' hl, wpAny_pyIter_tuple hL; exact ⟨_, rfl, h⟩)
    · wp_walk using wpAny_loadPart' hl, wpAny_pyIter_tuple hL
      exact ⟨_, rfl, h⟩
section
variable {prog : Program} {w : World} {A : Around} {E : Value → Shared → Prop} {s : Shared}
theorem enum_call {l : Addr} {items : Array Value} {Q : Value → Shared → Prop} (hL : s.heap.IsTuple l items)
    (h : ∀ h', IsEnum h' (s.heap.objs.size + 1) s.heap.objs.size 0 .none → h'.IsTupleIter s.heap.objs.size l 0 → h'.objs.size = s.heap.objs.size + 2 →
      (∀ b o, s.heap.get? b = some o → h'.get? b = some o) → Q (.ref (s.heap.objs.size + 1)) { s with heap := h' }) :
    wpAny (model prog w) A (call (.type "enumerate") [.ref l]) Q E s := by
  obtain ⟨⟨c, dct, dt, sl⟩, hl, hc, n, hd⟩ := hL
  replace hc : c = .type "tuple" := hc
  replace hd : dt = .seq items n := hd
  subst hc hd
  refine callType_new F.called_enumerate (by decide) (F.typeCall_enumerate_1 _) (F.newCall_enumerate_1 _) (fun obj => F.args_object_init_2 obj _) F.entry_enumerate_new (enum_new l items n dct sl) ⟨hl, ?_⟩
  have hz : (s.heap.push { cls := .type "tuple_iterator", data := .fields #[.ref l, .int 0 0] }).objs.size = s.heap.objs.size + 1 := Heap.size_push ..
  show _ ∧ _
  rw [hz]
  have he : IsEnum ((s.heap.push { cls := .type "tuple_iterator", data := .fields #[.ref l, .int 0 0] }).push
      { cls := .type "enumerate", data := .fields #[.none, .bool false, .ref s.heap.objs.size, rawInt 0, .none, .none] }) (s.heap.objs.size + 1) s.heap.objs.size 0 .none := by
    have := Heap.get?_push_size (s.heap.push { cls := .type "tuple_iterator", data := .fields #[.ref l, .int 0 0] })
      (o := { cls := .type "enumerate", data := .fields #[.none, .bool false, .ref s.heap.objs.size, rawInt 0, .none, .none] }) rfl
    rw [hz] at this
    exact this
  refine ⟨⟨_, he, rfl⟩, h _ he ⟨_, Heap.get?_push_of_some _ (Heap.get?_push_size _ rfl), rfl, rfl⟩ (by rw [Heap.size_push, hz]) fun b o x => Heap.get?_push_of_some _ (Heap.get?_push_of_some _ x)⟩
end
/-- the tuple at a, each item in a new pair -/
def IteT (K : PySem.W.Frag) (a : Addr) : It :=
  ⟨fun i H => ∃ (xs : List V) (x : V), SqT K H a xs ∧ xs[i]? = some x, fun i H v H' => ∃ T x, v = .ref T ∧ H T = none ∧ H' = upd H T (.tup [.int (i : Nat), x]) ∧ ∀ xs, SqT K H a xs → xs[i]? = some x, fun i H => ∃ xs : List V, SqT K H a xs ∧ xs.length ≤ i⟩
theorem tup_it_ne {h : Heap} {it t : Addr} {i : Nat} {items : Array Value} (hi : h.IsTupleIter it t i) (ht : h.IsTuple t items) : t ≠ it := fun e => by
  subst e
  obtain ⟨o, h1, h2, _⟩ := hi
  obtain ⟨o2, h3, h4, _⟩ := ht
  rw [h1] at h3
  cases h3
  rw [h2] at h4
  exact absurd h4 (by simp)
theorem turn_enumT {P : Program} {w : World} {K : PySem.W.Frag} {elts : List Expr} {kk : Nat} {tpos : Pos} (a e it : Addr) :
    Turn P w K (.Tuple elts kk tpos) (IteT K a) [e, it] e (fun i h => (∃ old, IsEnum h e it ((i : Nat) : Int) old) ∧ h.IsTupleIter it a i ∧ e ≠ it) where
  mem := by simp
  obj := fun i h st b hb => by
    obtain ⟨⟨old, he⟩, ⟨o, ho, hc, hd⟩, _⟩ := st
    have e' : b = e ∨ b = it := by simpa using hb
    rcases e' with z | z
    · rw [z]; exact ⟨_, he, fun v q => nomatch q⟩
    · rw [z]; exact ⟨o, ho, fun v q => by rw [hd] at q; cases q⟩
  keep := fun i h h' st k => let ⟨⟨old, he⟩, hi, hne⟩ := st; ⟨⟨old, k e (by simp) _ he⟩, hi.at fun o q => k it (by simp) o q, hne⟩
  item := by
    intro X hP hw hK hc i pins s σ H E I hf st hg
    subst hP hw hK
    obtain ⟨⟨old, he⟩, hit, hne⟩ := st
    obtain ⟨xs, x, hq, hx⟩ := hg
    obtain ⟨its, rv, p, hz⟩ := I.tuple hq
    obtain ⟨u, hu, ru⟩ := rv.get hx
    have hel : e < s.heap.objs.size := Heap.lt_size he
    have hil : it < s.heap.objs.size := by obtain ⟨_, q, _⟩ := hit; exact Heap.lt_size q
    have hai : a ≠ it := tup_it_ne hit p
    have hea : e ≠ a := fun z => by
      subst z
      obtain ⟨o2, h3, h4, _⟩ := p
      rw [he] at h3
      cases h3
      exact absurd h4 (by simp)
    have D := Draws.tuple (prog := X.prog) (w := X.w) (A := X.A.in1) (I.ok.hd hc) it a hai its.toArray
    have hi : i < its.toArray.size := by
      rw [List.size_toArray]
      exact (List.getElem?_eq_some_iff.mp hu).1
    refine wpAny_pyNext_enum_itemD D he ⟨hit, p⟩ hi hne (by simp [hne, hea]) fun y h' tk hy ho hst hT hsz hk => ?_
    obtain rfl : y = u := by
      have hy' : its.toArray[i]? = some y := hy
      rw [List.getElem?_toArray, hu] at hy'
      exact (Option.some.inj hy').symm
    refine ⟨_, rfl, wpAny_letOwnedTupleGo_enum (s := { s with heap := h', toks := tk + 1 }) ho fun h'' he' sb => ?_⟩
    have hT2 : h''.get? s.heap.objs.size = some { cls := .type "tuple", data := .seq #[.int i tk, y] } := (sb.2 _ (Nat.ne_of_gt hel)).trans hT
    have new : ObjOk X.prog X.w (upd H s.heap.objs.size (.tup [.int (i : Nat), x])) h'' s.heap.objs.size (.tup [.int (i : Nat), x]) :=
      ⟨by show 2 ≤ sizeLine; decide, [.int i tk, y], .cons ⟨_, rfl⟩ (.cons ru .nil), ⟨_, hT2, rfl, _, rfl⟩⟩
    have I1 : Inv X pins σ (upd H s.heap.objs.size (.tup [.int (i : Nat), x])) { s with heap := h'', toks := tk + 1 } :=
      I.turnedNew (ch := [e, it]) (fun b ob hb q => (sb.2 b (fun z => hb (by simp [z]))).trans (hk b ob (fun z => hb (by simp [z])) (fun z => hb (by simp [z])) q)) hf (Nat.le_refl _) new
    refine ⟨.ref s.heap.objs.size, _, I1, rfl, ⟨_, x, rfl, I.hok.fresh (Nat.le_refl _), rfl, fun ys hy => by rw [I.tuple_inj hy hq]; exact hx⟩, ⟨⟨y, ?_⟩, hst.1.at fun o q => (sb.2 it (Ne.symm hne)).trans q, hne⟩, fun b hb => ?_⟩
    · have e1 : ((i + 1 : Nat) : Int) = (i : Int) + 1 := by omega
      rw [e1]; exact he'
    · have hb' : b < s.heap.objs.size := by
        have e' : b = e ∨ b = it := by simpa using hb
        rcases e' with z | z
        · rw [z]; exact hel
        · rw [z]; exact hil
      rw [upd_ne (Nat.ne_of_lt hb')]
      exact (hf b hb).1
  done := by
    intro X hP hw hK hc i pins s σ H E I hf st hg
    subst hP hw hK
    obtain ⟨⟨old, he⟩, hit, hne⟩ := st
    obtain ⟨xs, hq, hx⟩ := hg
    obtain ⟨its, rv, p, hz⟩ := I.tuple hq
    obtain ⟨f0, f1, f2, f3, f4, f5⟩ := hf it (by simp)
    have hl := rv.length
    have fin : ∀ h', Heap.ExtBut it s.heap h' → (none : Option Value) = none ∧ Inv X pins σ H { s with heap := h' } := fun h' eb => ⟨rfl, I.turned (t' := s.toks) (fun b o hb q => eb b o hb q) f0 f1 f3 f4 f5⟩
    have hT : s.TypeIs (.ref e) "enumerate" := ⟨_, he, rfl⟩
    unfold pyNext
    refine wpAny_bind (wpAny_attempt (wpAny_callSpecial?_slot (name := Str.ofString "__next__") hT F.slot_enumerate_next (wpAny_call_entry F.slot_enumerate_next hT F.entry_enumerate_next ?_ (F.args_enumerate_next_1 _))))
    show wpAny _ _ (field (.ref e) 2 >>= _) _ _ _
    refine wpAny_bind (wpAny_field he rfl (x := .ref it) rfl ?_)
    refine wpAny_bind (PySem.wpAny_nextOf_tuple_end (I.ok.hd hc) hit p (by simp; omega) fun h' x he' hx' => ?_)
    obtain ⟨o, ho, hc⟩ := hx'
    refine wpAny_bind (wpAny_isInstance (T := "StopIteration") (b := true) ⟨o, ho, hc⟩ isSubtype_stop ?_)
    exact wpAny_pure (fin _ he')
  self := fun A i s Q E st h => let ⟨⟨_, he⟩, _⟩ := st; wpAny_pyIter_enum he h
def iEnumA (K : PySem.W.Frag) (ta : TA) : TI := fun σ H R => ta σ H fun vs H1 => ∃ a xs, vs = [.ref a] ∧ ((SqL K H1 a xs ∧ R (Ite K a) H1) ∨ (SqT K H1 a xs ∧ R (IteT K a) H1))
theorem pi_enumA {X : Cx} {e : Expr} {ta : TA} {p pos tpos : Pos} {elts : List Expr} {kk : Nat} (hg : Gl X "enumerate") (hm : X.mg "enumerate" = none) (ha : PA X [e] ta) (hs : starEach [e] X.env = [(false, eval e X.env)] := by rfl) :
    PI X (.Tuple elts kk tpos) (.Call (.Name "enumerate" p) [e] [] pos) (iEnumA X.K ta) := by
  refine ⟨fun pins s σ H R I h => ?_⟩
  refine Call_ (ld_blt I hg hm boot_enumerate (PyProof.Rows.callWith_type1 (thn (ha.run pos pins s σ H _ I h) fun us s1 ⟨vs, H1, I1, r1, q1⟩ => ?_) hs rfl))
  obtain ⟨a, xs, ex, q⟩ := q1
  subst ex
  cases r1 with
  | cons r rr =>
    cases rr
    cases r
    have fp : ∀ b ∈ [s1.heap.objs.size + 1, s1.heap.objs.size], FpOk X pins H1 b := fun b hb => by
      have e' : b = s1.heap.objs.size + 1 ∨ b = s1.heap.objs.size := by simpa using hb
      have hle : s1.heap.objs.size ≤ b := by
        rcases e' with z | z
        · rw [z]; exact Nat.le_add_right _ _
        · rw [z]; exact Nat.le_refl _
      exact I1.fpOk hle (I1.hok.fresh hle)
    rcases q with ⟨hq, q⟩ | ⟨hq, q⟩
    · obtain ⟨its, rv, p', hz⟩ := I1.list hq
      refine call_enumerate_list p'.isList fun h' he hit hsz hk => wpAny_pyIter_enum he ?_
      have I2 : Inv X pins σ H1 { s1 with heap := h' } := I1.kept (t' := s1.toks) hk
      exact ⟨s1.heap.objs.size + 1, [s1.heap.objs.size + 1, s1.heap.objs.size], _, _, H1, rfl, I2, turn_enum a (s1.heap.objs.size + 1) s1.heap.objs.size, ⟨⟨.none, he⟩, hit, Nat.succ_ne_self _⟩, fp, q⟩
    · obtain ⟨its, rv, p', hz⟩ := I1.tuple hq
      refine enum_call p' fun h' he hit hsz hk => wpAny_pyIter_enum he ?_
      have I2 : Inv X pins σ H1 { s1 with heap := h' } := I1.kept (t' := s1.toks) hk
      exact ⟨s1.heap.objs.size + 1, [s1.heap.objs.size + 1, s1.heap.objs.size], _, _, H1, rfl, I2, turn_enumT a (s1.heap.objs.size + 1) s1.heap.objs.size, ⟨⟨.none, he⟩, hit, Nat.succ_ne_self _⟩, fp, q⟩
end Tw

set_option Elab.async false
set_option linter.all false
set_option maxRecDepth 100000
set_option maxHeartbeats 2000000
namespace Tw
open PySem PySem.Spec PyProof.Rows L2
open Evl (Ex)
/-! ### what is gone through -/
structure WalkD (wk : Bool) (K : PySem.W.Frag) (G : Hp) (J : It) (ds : List PyData) : Prop where
  go : ∀ i H, i < ds.length → Ex G H → J.go i H
  stop : ∀ H, Ex G H → J.stop ds.length H
  yld : ∀ i H x H' d, ds[i]? = some d → Ex G H → J.yld i H x H' → ∀ G2, Ex G G2 → Ex G2 H → ∃ G3, Tr nobody G2 H G3 H' ∧ Ex G3 H' ∧ Dx wk K G3 x d
def tIw (wk : Bool) (K : PySem.W.Frag) (b : Bool) (f : FE (List PyData)) : TI := fun σ H R => ∃ (G : Hp) (ρ : Rho) (ds : List PyData) (ρ' : Rho), EnvOk K G H σ ρ ∧ f ρ = some (ds, ρ') ∧
  ∀ J G' H', Tr (ows b σ ρ) G H G' H' → (∀ l, own σ ρ' l → own σ ρ l) → EnvOk K G' H' σ ρ' → WalkD wk K G' J ds → R J H'
abbrev tI : PySem.W.Frag → Bool → FE (List PyData) → TI := tIw false
section
variable {X : Cx} {tg l e e2 : Expr} {bb : Bool} {f f1 f2 : FE PyData} {pos p : Pos}
theorem PI.weak {wi wi' : TI} (h : PI X tg l wi) (w : ∀ σ H R, wi' σ H R → wi σ H R) : PI X tg l wi' := ⟨fun pins s σ H R I q => h.run pins s σ H R I (w σ H R q)⟩
def itemsOf : PyData → Option (List PyData)
  | .list ds => some ds
  | .tuple ds => some ds
  | _ => none
def fItems (f : FE PyData) : FE (List PyData) := thnE f fun x => liftO (itemsOf x)
def iSeq (K : PySem.W.Frag) (te : TE) : TI := fun σ H R => te σ H fun x H1 => ∃ a, x = .ref a ∧ ((∃ xs, SqL K H1 a xs ∧ R (Itl K a) H1) ∨ (∃ xs, SqT K H1 a xs ∧ R (Itt K a) H1))
theorem pi_seqD {te : TE} (hl : PE X l te) : PI X tg l (iSeq X.K te) := ⟨fun pins s σ H R I h => by
  refine thn (hl.run pins s σ H _ I h) fun v s1 hz => ?_
  obtain ⟨x, H1, J, r1, a, ex, q⟩ := hz
  subst ex
  cases r1
  have fp : ∀ b ∈ [s1.heap.objs.size], FpOk X pins H1 b := fun b hb => by
    rw [List.mem_singleton.mp hb]
    exact J.fpOk (Nat.le_refl _) (J.hok.fresh (Nat.le_refl _))
  rcases q with ⟨xs, hq, q⟩ | ⟨xs, hq, q⟩
  · obtain ⟨its, rv, pl, _⟩ := J.list hq
    exact wpAny_pyIter_list pl.isList ⟨_, [_], _, _, H1, rfl, J.kept (t' := s1.toks) fun b o z => Heap.get?_push_of_some _ z, turn_list a _, ⟨_, Heap.get?_push_size _ rfl, rfl, rfl⟩, fp, q⟩
  · obtain ⟨its, rv, pl, _⟩ := J.tuple hq
    exact wpAny_pyIter_tuple (show s1.heap.IsTuple a its.toArray from pl) ⟨_, [_], _, _, H1, rfl, J.kept (t' := s1.toks) fun b o z => Heap.get?_push_of_some _ z, turn_tuple a _, ⟨_, Heap.get?_push_size _ rfl, rfl, rfl⟩, fp, q⟩⟩
theorem walk_l {K : PySem.W.Frag} {G : Hp} {a : Addr} {xs : List V} {ds : List PyData} (h : SqL K G a xs) (d : Da K G xs ds) : WalkD false K G (Itl K a) ds where
  go := fun i H hi ex => ⟨xs, xs[i]'(by rw [d.len]; exact hi), Evl.ex_l ex h, List.getElem?_eq_getElem _⟩
  stop := fun H ex => ⟨xs, Evl.ex_l ex h, by rw [d.len]; exact Nat.le_refl _⟩
  yld := fun i H x H' y hy ex q G2 e1 e2 => by
    obtain ⟨rfl, q⟩ := q
    obtain ⟨v, h1, h2⟩ := d.get hy
    have := q xs (Evl.ex_l ex h)
    rw [h1] at this
    cases this
    exact ⟨G2, .refl, e2, h2.mono e1⟩
theorem walk_t {K : PySem.W.Frag} {G : Hp} {a : Addr} {xs : List V} {ds : List PyData} (h : SqT K G a xs) (d : Da K G xs ds) : WalkD false K G (Itt K a) ds where
  go := fun i H hi ex => ⟨xs, xs[i]'(by rw [d.len]; exact hi), Evl.ex_t ex h, List.getElem?_eq_getElem _⟩
  stop := fun H ex => ⟨xs, Evl.ex_t ex h, by rw [d.len]; exact Nat.le_refl _⟩
  yld := fun i H x H' y hy ex q G2 e1 e2 => by
    obtain ⟨rfl, q⟩ := q
    obtain ⟨v, h1, h2⟩ := d.get hy
    have := q xs (Evl.ex_t ex h)
    rw [h1] at this
    cases this
    exact ⟨G2, .refl, e2, h2.mono e1⟩
theorem i_seq (h : PE X l (tE X.K bb f)) : PI X tg l (tI X.K bb (fItems f)) := PI.weak (pi_seqD h) fun σ H R ⟨G, ρ, ds, ρ', E, ef, k⟩ => by
  obtain ⟨x, ρ1, h1, h2⟩ := thnE_of ef
  obtain ⟨h3, rfl⟩ := liftO_of h2
  refine ⟨G, ρ, x, ρ', E, h1, fun v G1 H1 t1 o1 E1 d1 => ?_⟩
  unfold itemsOf at h3
  split at h3
  · cases h3
    obtain ⟨a, xs, rfl, hx, dx⟩ := dt_list d1
    exact ⟨a, rfl, .inl ⟨xs, (hx.mono E1.ex).sq, k _ G1 H1 t1 o1 E1 (walk_l hx.sq dx)⟩⟩
  · cases h3
    obtain ⟨a, xs, rfl, hx, dx⟩ := dt_tup d1
    exact ⟨a, rfl, .inr ⟨xs, Evl.ex_t E1.ex hx, k _ G1 H1 t1 o1 E1 (walk_t hx dx)⟩⟩
  · cases h3
/-! range(n), range(a, b) -/
def ups (lo : Int) (n : Nat) : List PyData := (List.range n).map fun i => .int (lo + (i : Nat))
def rng1 : List PyData → Option (List PyData)
  | [.int n] => if -(2 ^ 62) ≤ n ∧ n < 2 ^ 62 then some (ups 0 n.toNat) else none
  | _ => none
def rng2 : List PyData → Option (List PyData)
  | [.int m, .int n] => if -(2 ^ 62) ≤ m ∧ m < 2 ^ 62 ∧ -(2 ^ 62) ≤ n ∧ n < 2 ^ 62 then some (ups m (n - m).toNat) else none
  | _ => none
theorem walk_r {K : PySem.W.Frag} {G : Hp} (lo : Int) (n : Nat) : WalkD false K G (Itr lo n) (ups lo n) where
  go := fun i H hi ex => by unfold ups at hi; rw [List.length_map, List.length_range] at hi; exact hi
  stop := fun H ex => by unfold ups; rw [List.length_map, List.length_range]; exact Nat.le_refl _
  yld := fun i H x H' y hy ex q G2 e1 e2 => by
    obtain ⟨rfl, rfl⟩ := q
    unfold ups at hy
    rw [List.getElem?_map] at hy
    cases hr : (List.range n)[i]? with
    | none => rw [hr] at hy; cases hy
    | some j =>
      rw [hr] at hy
      obtain ⟨hj, ej⟩ := List.getElem?_eq_some_iff.mp hr
      rw [List.getElem_range] at ej
      cases ej
      cases hy
      exact ⟨G2, .refl, e2, .ii _⟩
def fRng (g : List PyData → Option (List PyData)) (r : FE (List PyData)) : FE (List PyData) := thnE r fun xs => liftO (g xs)
theorem i_rng1 {a : Expr} {ra : FE (List PyData)} (hg : Gl X "range") (hm : X.mg "range" = none) (ha : PA X [a] (tA X.K bb ra)) (hs : starEach [a] X.env = [(false, eval a X.env)] := by rfl) :
    PI X tg (.Call (.Name "range" p) [a] [] pos) (tI X.K bb (fRng rng1 ra)) := PI.weak (pi_range1 hg hm ha hs) fun σ H R ⟨G, ρ, ds, ρ', E, ef, k⟩ => by
  obtain ⟨x, ρ1, h1, h2⟩ := thnE_of ef
  obtain ⟨h3, rfl⟩ := liftO_of h2
  refine ⟨G, ρ, x, ρ', E, h1, fun v G1 H1 t1 o1 E1 d1 => ?_⟩
  unfold rng1 at h3
  split at h3
  · obtain ⟨hb, rfl⟩ := ite_p h3
    obtain ⟨v, rfl, dv⟩ := da_one d1
    exact ⟨_, by rw [dt_int dv], hb.1, hb.2, k _ G1 H1 t1 o1 E1 (walk_r _ _)⟩
  · cases h3
theorem i_rng2 {a b : Expr} {ra : FE (List PyData)} (hg : Gl X "range") (hm : X.mg "range" = none) (ha : PA X [a, b] (tA X.K bb ra)) (hs : starEach [a, b] X.env = [(false, eval a X.env), (false, eval b X.env)] := by rfl)
    (hs2 : starEach [b] X.env = [(false, eval b X.env)] := by rfl) : PI X tg (.Call (.Name "range" p) [a, b] [] pos) (tI X.K bb (fRng rng2 ra)) := PI.weak (pi_range2 hg hm ha hs hs2) fun σ H R ⟨G, ρ, ds, ρ', E, ef, k⟩ => by
  obtain ⟨x, ρ1, h1, h2⟩ := thnE_of ef
  obtain ⟨h3, rfl⟩ := liftO_of h2
  refine ⟨G, ρ, x, ρ', E, h1, fun v G1 H1 t1 o1 E1 d1 => ?_⟩
  unfold rng2 at h3
  split at h3
  · obtain ⟨hb, rfl⟩ := ite_p h3
    obtain ⟨v, u, rfl, dv, du⟩ := da_two d1
    exact ⟨_, _, by rw [dt_int dv, dt_int du], hb, k _ G1 H1 t1 o1 E1 (walk_r _ _)⟩
  · cases h3
/-! new pairs on the way: enumerate, zip -/
def prs (xs ys : List PyData) : List PyData := (xs.zip ys).map fun p => .tuple [p.1, p.2]
theorem pair_yld {K : PySem.W.Frag} {G G2 H : Hp} {T : Addr} {x y : V} {d e : PyData} (hT : H T = none) (e1 : Ex G G2) (e2 : Ex G2 H) (hx : Dt K G x d) (hy : Dt K G y e) :
    ∃ G3, Tr nobody G2 H G3 (upd H T (.tup [x, y])) ∧ Ex G3 (upd H T (.tup [x, y])) ∧ Dx true K G3 (.ref T) (.tuple [d, e]) := by
  have t : Tr nobody G2 H (upd G2 T (.tup [x, y])) (upd H T (.tup [x, y])) := Tr.new hT e2
  exact ⟨_, t, ex_upd e2, .inr ⟨T, _, _, rfl, SqT.of upd_same, rfl, .cons ((hx.mono e1).mono t.g) (.cons ((hy.mono e1).mono t.g) .nil)⟩⟩
theorem prs_get {xs ys : List PyData} {i : Nat} {d : PyData} (h : (prs xs ys)[i]? = some d) : ∃ a b, xs[i]? = some a ∧ ys[i]? = some b ∧ d = .tuple [a, b] := by
  unfold prs at h
  rw [List.getElem?_map] at h
  cases q : (xs.zip ys)[i]? with
  | none => rw [q] at h; cases h
  | some z =>
    rw [q] at h
    cases h
    obtain ⟨h1, h2⟩ := List.getElem?_zip_eq_some.mp q
    exact ⟨_, _, h1, h2, rfl⟩
theorem prs_len (xs ys : List PyData) : (prs xs ys).length = min xs.length ys.length := by unfold prs; rw [List.length_map, List.length_zip]
def enumD (xs : List PyData) : List PyData := prs (ups 0 xs.length) xs
theorem ups_len (lo : Int) (n : Nat) : (ups lo n).length = n := by unfold ups; rw [List.length_map, List.length_range]
theorem ups_get {lo : Int} {n i : Nat} {d : PyData} (h : (ups lo n)[i]? = some d) : d = .int (lo + (i : Nat)) := by
  unfold ups at h
  rw [List.getElem?_map] at h
  cases hr : (List.range n)[i]? with
  | none => rw [hr] at h; cases h
  | some j =>
    rw [hr] at h
    obtain ⟨hj, ej⟩ := List.getElem?_eq_some_iff.mp hr
    rw [List.getElem_range] at ej
    cases ej
    cases h
    rfl
def enumN : List PyData → Option (List PyData)
  | [.list ds] => some (enumD ds)
  | [.tuple ds] => some (enumD ds)
  | _ => none
def fEnum (r : FE (List PyData)) : FE (List PyData) := thnE r fun xs => liftO (enumN xs)
theorem i_enum {elts : List Expr} {kk : Nat} {tpos : Pos} {ra : FE (List PyData)} (hg : Gl X "enumerate") (hm : X.mg "enumerate" = none) (ha : PA X [e] (tA X.K bb ra)) (hs : starEach [e] X.env = [(false, eval e X.env)] := by rfl) :
    PI X (.Tuple elts kk tpos) (.Call (.Name "enumerate" p) [e] [] pos) (tIw true X.K bb (fEnum ra)) := PI.weak (pi_enumA hg hm ha hs) fun σ H R ⟨G, ρ, ds, ρ', E, ef, k⟩ => by
  obtain ⟨x, ρ1, h1, h2⟩ := thnE_of ef
  obtain ⟨h3, rfl⟩ := liftO_of h2
  refine ⟨G, ρ, x, ρ', E, h1, fun v G1 H1 t1 o1 E1 d1 => ?_⟩
  unfold enumN at h3
  split at h3
  · cases h3
    obtain ⟨v, rfl, dv⟩ := da_one d1
    obtain ⟨a, xs, rfl, hx, dx⟩ := dt_list dv
    refine ⟨a, xs, rfl, .inl ⟨(hx.mono E1.ex).sq, k _ G1 H1 t1 o1 E1 ?_⟩⟩
    have hl : (enumD ‹List PyData›).length = xs.length := by unfold enumD; rw [prs_len, ups_len, Nat.min_self, dx.len]
    refine ⟨fun i H hi ex => ⟨xs, xs[i]'(by rw [← hl]; exact hi), (hx.mono ex).sq, List.getElem?_eq_getElem _⟩, fun H ex => ⟨xs, (hx.mono ex).sq, by rw [hl]; exact Nat.le_refl _⟩, fun i H y H' d hd ex q G2 e1 e2 => ?_⟩
    obtain ⟨T, z, rfl, hT, rfl, q⟩ := q
    obtain ⟨da, db, k1, k2, rfl⟩ := prs_get hd
    obtain ⟨w, h4, h5⟩ := dx.get k2
    have := q xs ((hx.mono ex).sq)
    rw [h4] at this
    cases this
    have ea : da = .int (i : Nat) := by rw [ups_get k1, Int.zero_add]
    subst ea
    exact pair_yld hT e1 e2 (.ii _) h5
  · cases h3
    obtain ⟨v, rfl, dv⟩ := da_one d1
    obtain ⟨a, xs, rfl, hx, dx⟩ := dt_tup dv
    refine ⟨a, xs, rfl, .inr ⟨Evl.ex_t E1.ex hx, k _ G1 H1 t1 o1 E1 ?_⟩⟩
    have hl : (enumD ‹List PyData›).length = xs.length := by unfold enumD; rw [prs_len, ups_len, Nat.min_self, dx.len]
    refine ⟨fun i H hi ex => ⟨xs, xs[i]'(by rw [← hl]; exact hi), Evl.ex_t ex hx, List.getElem?_eq_getElem _⟩, fun H ex => ⟨xs, Evl.ex_t ex hx, by rw [hl]; exact Nat.le_refl _⟩, fun i H y H' d hd ex q G2 e1 e2 => ?_⟩
    obtain ⟨T, z, rfl, hT, rfl, q⟩ := q
    obtain ⟨da, db, k1, k2, rfl⟩ := prs_get hd
    obtain ⟨w, h4, h5⟩ := dx.get k2
    have := q xs (Evl.ex_t ex hx)
    rw [h4] at this
    cases this
    have ea : da = .int (i : Nat) := by rw [ups_get k1, Int.zero_add]
    subst ea
    exact pair_yld hT e1 e2 (.ii _) h5
  · cases h3
def fZip (r : FE (List PyData)) : FE (List PyData) := thnE r fun xs => liftO (match xs with
  | [.list ds, .list es] => some (prs ds es)
  | [.tuple ds, .tuple es] => some (prs ds es)
  | _ => none)
theorem i_zip {elts : List Expr} {kk : Nat} {tpos : Pos} {ra : FE (List PyData)} (hg : Gl X "zip") (hm : X.mg "zip" = none) (ha : PA X [e, e2] (tA X.K bb ra))
    (hs : starEach [e, e2] X.env = (false, eval e X.env) :: starEach [e2] X.env := by rfl) (hpl : (backTo pos (starEach [e2] X.env)).any (·.1) = false := by rfl) :
    PI X (.Tuple elts kk tpos) (.Call (.Name "zip" p) [e, e2] [] pos) (tIw true X.K bb (fZip ra)) := PI.weak (RZ.pi_zipA hg hm ha hs hpl) fun σ H R ⟨G, ρ, ds, ρ', E, ef, k⟩ => by
  obtain ⟨x, ρ1, h1, h2⟩ := thnE_of ef
  obtain ⟨h3, rfl⟩ := liftO_of h2
  refine ⟨G, ρ, x, ρ', E, h1, fun v G1 H1 t1 o1 E1 d1 => ?_⟩
  have lens : ∀ {xs ys : List V} {ds es : List PyData}, Da X.K G1 xs ds → Da X.K G1 ys es → (prs ds es).length = min xs.length ys.length := fun d e => by rw [prs_len, d.len, e.len]
  split at h3
  · cases h3
    obtain ⟨v, u, rfl, dv, du⟩ := da_two d1
    obtain ⟨a, xs, rfl, hx, dx⟩ := dt_list dv
    obtain ⟨b, ys, rfl, hy, dy⟩ := dt_list du
    refine ⟨a, b, xs, ys, rfl, .inl ⟨(hx.mono E1.ex).sq, (hy.mono E1.ex).sq, k _ G1 H1 t1 o1 E1 ?_⟩⟩
    have hl := lens dx dy
    refine ⟨fun i H hi ex => ⟨xs, ys, xs[i]'(by omega), ys[i]'(by omega), (hx.mono ex).sq, (hy.mono ex).sq, List.getElem?_eq_getElem _, List.getElem?_eq_getElem _⟩,
      fun H ex => ⟨xs, ys, (hx.mono ex).sq, (hy.mono ex).sq, by omega⟩, fun i H y H' d hd ex q G2 e1 e2 => ?_⟩
    obtain ⟨T, z, z2, rfl, hT, rfl, q, q2⟩ := q
    obtain ⟨da, db, k1, k2, rfl⟩ := prs_get hd
    obtain ⟨w, h4, h5⟩ := dx.get k1
    obtain ⟨w2, h6, h7⟩ := dy.get k2
    have r1 := q xs ((hx.mono ex).sq)
    have r2 := q2 ys ((hy.mono ex).sq)
    rw [h4] at r1
    rw [h6] at r2
    cases r1
    cases r2
    exact pair_yld hT e1 e2 h5 h7
  · cases h3
    obtain ⟨v, u, rfl, dv, du⟩ := da_two d1
    obtain ⟨a, xs, rfl, hx, dx⟩ := dt_tup dv
    obtain ⟨b, ys, rfl, hy, dy⟩ := dt_tup du
    refine ⟨a, b, xs, ys, rfl, .inr ⟨Evl.ex_t E1.ex hx, Evl.ex_t E1.ex hy, k _ G1 H1 t1 o1 E1 ?_⟩⟩
    have hl := lens dx dy
    refine ⟨fun i H hi ex => ⟨xs, ys, xs[i]'(by omega), ys[i]'(by omega), Evl.ex_t ex hx, Evl.ex_t ex hy, List.getElem?_eq_getElem _, List.getElem?_eq_getElem _⟩,
      fun H ex => ⟨xs, ys, Evl.ex_t ex hx, Evl.ex_t ex hy, by omega⟩, fun i H y H' d hd ex q G2 e1 e2 => ?_⟩
    obtain ⟨T, z, z2, rfl, hT, rfl, q, q2⟩ := q
    obtain ⟨da, db, k1, k2, rfl⟩ := prs_get hd
    obtain ⟨w, h4, h5⟩ := dx.get k1
    obtain ⟨w2, h6, h7⟩ := dy.get k2
    have r1 := q xs (Evl.ex_t ex hx)
    have r2 := q2 ys (Evl.ex_t ex hy)
    rw [h4] at r1
    rw [h6] at r2
    cases r1
    cases r2
    exact pair_yld hT e1 e2 h5 h7
  · cases h3
end
/-! ### for -/
def forF (ft : FG) (fb : FS) : List PyData → FS
  | [], ρ => some (.nx ρ)
  | d :: ds, ρ => (ft d ρ).bind fun ρ1 => (fb ρ1).bind fun o => match o with
    | .nx r => forF ft fb ds r
    | .ct r => forF ft fb ds r
    | .bk r => some (.nx r)
    | .rt x r => some (.rt x r)
    | .rf x r => some (.rf x r)
def fFor (fi : FE (List PyData)) (ft : FG) (fb : FS) : FS := fun ρ => (fi ρ).bind fun p => forF ft fb p.1 p.2
section
variable {X : Cx} {tg iter c : Expr} {body : List Stmt} {P : List Nat} {pos : Pos} {bb : Bool}
theorem s_for {wk : Bool} {fi : FE (List PyData)} {ft : FG} {fb : FS} (hp : PassesOwn (model X.prog X.w) X.A X.env X.xe) (hc : X.calm = true) (hi : PI X tg iter (tIw wk X.K bb fi)) (hg : PG X tg (tGw wk X.K P ft)) (hb : PSs X body (tS X.K P fb))
    (hs : ∀ x, foldedSetIterable iter X.env x = pure x := by intro _; rfl) : PS X (.For tg iter body [] pos) (tS X.K P (fFor fi ft fb)) := PS.weak (ps_for hp hc hi hg hb hs) fun D σ H ⟨G, ρ, o, E, ef, k⟩ => by
  obtain ⟨⟨ds, ρ1⟩, h1, h2⟩ := Option.bind_eq_some_iff.mp ef
  refine ⟨G, ρ, ds, ρ1, E, h1, fun J G1 H1 t1 o1 E1 W => ?_⟩
  have k1 : Kont X.K P G1 H1 σ ρ1 D o := k.pre (.of t1 o1)
  refine ⟨fun i m σ' H' => m = ds.length - i ∧ i ≤ ds.length ∧ ∃ G' ρ', Stp P G1 H1 σ ρ1 G' H' σ' ρ' ∧ EnvOk X.K G' H' σ' ρ' ∧ forF ft fb (ds.drop i) ρ' = some o, ⟨ds.length, by omega, Nat.zero_le _, G1, ρ1, .refl, E1, h2⟩, ?_⟩
  rintro i m σ' H' ⟨rfl, hi, G', ρ', s', E', hf⟩
  by_cases hlt : i < ds.length
  · have ed : ds.drop i = ds[i] :: ds.drop (i + 1) := List.drop_eq_getElem_cons hlt
    rw [ed] at hf
    obtain ⟨ρ2, q1, q2⟩ := Option.bind_eq_some_iff.mp hf
    obtain ⟨ob, q3, q4⟩ := Option.bind_eq_some_iff.mp q2
    have exG : Ex G1 H' := fun a u z => E'.ex a u (s'.t.g a u z)
    refine .inr ⟨W.go i H' hlt exG, fun σ2 H2 => ∃ G' ρ', Stp P G1 H1 σ ρ1 G' H2 σ2 ρ' ∧ EnvOk X.K G' H2 σ2 ρ' ∧ forF ft fb (ds.drop (i + 1)) ρ' = some o, fun σ2 H2 z => ⟨ds.length - (i + 1), by omega, rfl, hlt, z⟩, fun x H2 y => ?_⟩
    obtain ⟨G3, t3, e3, d3⟩ := W.yld i H' x H2 ds[i] (List.getElem?_eq_getElem hlt) exG y G' s'.t.g E'.ex
    refine ⟨G3, ρ', ds[i], ρ2, E'.tr t3 e3, d3, q1, fun σ2 so E2 => ?_⟩
    have s2 : Stp P G1 H1 σ ρ1 G3 H2 σ2 ρ2 := s'.trans ⟨t3.none, fun l q => .inl (so.o l q), so.p⟩
    refine ⟨G3, ρ2, ob, E2, q3, ?_⟩
    cases ob with
    | nx r => exact fun σ4 G4 H4 s4 E4 => ⟨G4, r, s2.trans s4, E4, q4⟩
    | ct r => exact fun σ4 G4 H4 s4 E4 => ⟨G4, r, s2.trans s4, E4, q4⟩
    | bk r =>
      cases q4
      exact fun σ4 G4 H4 s4 E4 => k1 σ4 G4 H4 (s2.trans s4) E4
    | rt d r =>
      cases q4
      exact fun v σ4 G4 H4 s4 E4 dv => k1 v σ4 G4 H4 (s2.trans s4) E4 dv
    | rf d r =>
      cases q4
      exact Kont.pre s2 k1
  · have en : i = ds.length := by omega
    subst en
    rw [List.drop_length] at hf
    cases hf
    exact .inl ⟨W.stop H' fun a u z => E'.ex a u (s'.t.g a u z), k1 σ' G' H' s' E'⟩
/-! ### while -/
def whF (ft : FE Bool) (fb : FS) : Nat → FS
  | 0, _ => none
  | n + 1, ρ => (ft ρ).bind fun p => if p.1 = true then (fb p.2).bind fun o => match o with
      | .nx r => whF ft fb n r
      | .ct r => whF ft fb n r
      | .bk r => some (.nx r)
      | .rt x r => some (.rt x r)
      | .rf x r => some (.rf x r)
    else some (.nx p.2)
theorem s_while {ft : FE Bool} {fb : FS} (n : Nat) (hp : PassesOwn (model X.prog X.w) X.A X.env X.xe) (hc : PT X c (tT X.K bb ft)) (hb : PSs X body (tS X.K P fb)) : PS X (.While c body [] pos) (tS X.K P (whF ft fb n)) := PS.weak (ps_while hp hc hb) fun D σ H ⟨G, ρ, o, E, ef, k⟩ => by
  refine ⟨fun m σ' H' => ∃ G' ρ', Stp P G H σ ρ G' H' σ' ρ' ∧ EnvOk X.K G' H' σ' ρ' ∧ whF ft fb m ρ' = some o, ⟨n, G, ρ, .refl, E, ef⟩, ?_⟩
  rintro m σ' H' ⟨G', ρ', s', E', hf⟩
  cases m with
  | zero => cases hf
  | succ m =>
    obtain ⟨⟨b, ρ1⟩, q1, q2⟩ := Option.bind_eq_some_iff.mp hf
    refine ⟨G', ρ', b, ρ1, E', q1, fun G1 H1 t1 o1 E1 => ?_⟩
    have s1 : Stp P G H σ ρ G1 H1 σ' ρ1 := s'.trans (.of t1 o1)
    cases b with
    | false =>
      dsimp only
      rw [if_neg Bool.false_ne_true]
      cases q2
      exact k σ' G1 H1 s1 E1
    | true =>
      dsimp only
      rw [if_pos rfl]
      obtain ⟨ob, q3, q4⟩ := Option.bind_eq_some_iff.mp (show ((fb ρ1).bind fun o => _) = some o from q2)
      refine ⟨fun σ2 H2 => ∃ G' ρ', Stp P G H σ ρ G' H2 σ2 ρ' ∧ EnvOk X.K G' H2 σ2 ρ' ∧ whF ft fb m ρ' = some o, fun σ2 H2 z => ⟨m, Nat.lt_succ_self m, z⟩, G1, ρ1, ob, E1, q3, ?_⟩
      cases ob with
      | nx r => exact fun σ4 G4 H4 s4 E4 => ⟨G4, r, s1.trans s4, E4, q4⟩
      | ct r => exact fun σ4 G4 H4 s4 E4 => ⟨G4, r, s1.trans s4, E4, q4⟩
      | bk r =>
        cases q4
        exact fun σ4 G4 H4 s4 E4 => k σ4 G4 H4 (s1.trans s4) E4
      | rt d r =>
        cases q4
        exact fun v σ4 G4 H4 s4 E4 dv => k v σ4 G4 H4 (s1.trans s4) E4 dv
      | rf d r =>
        cases q4
        exact Kont.pre (D := D) s1 k
end
end Tw

set_option Elab.async false
set_option linter.all false
set_option maxRecDepth 100000
set_option maxHeartbeats 2000000
namespace Tw
open PySem PySem.Spec PyProof.Rows L2
open Evl (Ex)
/-! ### a new list, one's own -/
def tF (K : PySem.W.Frag) (b : Bool) (f : FE (List PyData)) : TE := fun σ H Q => ∃ (G : Hp) (ρ : Rho) (ds : List PyData) (ρ' : Rho), EnvOk K G H σ ρ ∧ f ρ = some (ds, ρ') ∧
  ∀ p xs G' H', H p = none → G' p = none → H' p = some (.lst xs) → Da K G' xs ds → Tr (ows b σ ρ) G H G' H' → (∀ l, own σ ρ' l → own σ ρ l) → EnvOk K G' H' σ ρ' → Q (.ref p) H'
def fOf (f : FE (List PyData)) : FE PyData := thnE f fun ds => ret (.list ds)
section
variable {K : PySem.W.Frag} {G H G1 H1 : Hp} {σ : L2.St} {ρ ρ1 : Rho} {b : Bool}
theorem ex_put {p : Addr} {o : HO} (ex : Ex G H) (hH : H p = some o) (hG : G p = none) : Ex (upd G p o) H := fun x u q => by
  by_cases z : x = p
  · subst z; rw [upd_same] at q; rw [← q]; exact hH
  · rw [upd_ne z] at q; exact ex x u q
theorem ex_add {p : Addr} {o : HO} (hG : G p = none) : Ex G (upd G p o) := fun x u q => by
  rw [upd_ne fun z => by subst z; rw [hG] at q; cases q]
  exact q
/-- a list of one's own that no slot holds becomes data -/
theorem env_froz (E : EnvOk K G H σ ρ) {p : Addr} {o : HO} (hH : H p = some o) (hG : G p = none) (nw : ¬ own σ ρ p) : EnvOk K (upd G p o) H σ ρ where
  ex := ex_put E.ex hH hG
  len := E.len
  dat := fun i d q => by
    obtain ⟨v, h1, h2⟩ := E.dat i d q
    exact ⟨v, h1, h2.mono (ex_add hG)⟩
  mu := fun i d q => by
    obtain ⟨l, xs, h1, h2, h3, h4⟩ := E.mu i d q
    exact ⟨l, xs, h1, by rw [upd_ne fun z => nw (by rw [← z]; exact ⟨i, d, q, h1⟩)]; exact h2, h3, h4.mono (ex_add hG)⟩
  ne := E.ne
theorem own_there (E : EnvOk K G H σ ρ) {l : Addr} (h : own σ ρ l) : ∃ xs, H l = some xs := by
  obtain ⟨i, ds, h1, h2⟩ := h
  obtain ⟨l', xs, q1, _, q3, _⟩ := E.mu i ds h1
  rw [h2] at q1
  cases q1
  exact ⟨xs, q3⟩
theorem tr_froz {ow : Addr → Prop} (t : Tr ow G H G1 H1) {p : Addr} {o : HO} (hp : H p = none) (hG : G1 p = none) : Tr ow G H (upd G1 p o) H1 where
  g := fun x u q => ex_add hG x u (t.g x u q)
  h := t.h
  n := fun x u q g w => by
    rw [upd_ne fun z => by subst z; rw [hp] at q; cases q]
    exact t.n x u q g w
  k := t.k
theorem tr_mk0 {ow : Addr → Prop} {p : Addr} {o : HO} (hp : H p = none) : Tr ow G H G (upd H p o) where
  g := fun _ _ q => q
  h := fun x u q _ => by
    rw [upd_ne fun z => by subst z; rw [q] at hp; cases hp]
    exact q
  n := fun _ _ _ q _ => q
  k := fun x u q => ⟨u, by
    rw [upd_ne fun z => by subst z; rw [q] at hp; cases hp]
    exact q⟩
theorem EnvOk.gn (E : EnvOk K G H σ ρ) {p : Addr} (hp : H p = none) : G p = none := by
  cases q : G p with
  | none => rfl
  | some u => rw [E.ex p u q] at hp; cases hp
end
section
variable {X : Cx} {e a c : Expr} {es : List Expr} {pos : Pos} {bb : Bool}
theorem f_to {f : FE (List PyData)} {σ : L2.St} {H : Hp} {Q : VK} (h : tE X.K bb (fOf f) σ H Q) : tF X.K bb f σ H Q := by
  obtain ⟨G, ρ, d, ρ', E, ef, k⟩ := h
  obtain ⟨ds, ρ1, h1, h2⟩ := thnE_of ef
  obtain ⟨rfl, rfl⟩ := ret_of h2
  refine ⟨G, ρ, ds, ρ', E, h1, fun p xs G1 H1 hp hG hH da t o E1 => ?_⟩
  have nw : ¬ own σ ρ' p := fun q => by
    obtain ⟨ys, z⟩ := own_there E (o p q)
    rw [hp] at z
    cases z
  exact k (.ref p) (upd G1 p (.lst xs)) H1 (tr_froz t hp hG) o (env_froz E1 hH hG nw) (.ll (RL.of upd_same) (da.mono (ex_add hG)))
theorem e_ofF {f : FE (List PyData)} (h : PE X e (tF X.K bb f)) : PE X e (tE X.K bb (fOf f)) := PE.weak h fun _ _ _ h => f_to h
theorem l_lst {r : FE (List PyData)} (h : PA X es (tA X.K bb r)) : PE X (.List es pos) (tF X.K bb (thnE r fun xs => liftO (if sizeOk xs.length = true then some xs else none))) := PE.weak (pe_lst h) fun σ H Q ⟨G, ρ, d, ρ', E, ef, k⟩ => by
  obtain ⟨x, ρ1, h1, h2⟩ := thnE_of ef
  obtain ⟨h3, rfl⟩ := liftO_of h2
  obtain ⟨hz, rfl⟩ := ite_some h3
  refine ⟨G, ρ, x, ρ', E, h1, fun v G1 H1 t1 o1 E1 d1 => ⟨by rw [d1.len]; exact sizeOk_le hz, fun p hp => ?_⟩⟩
  have t2 : Tr nobody G1 H1 G1 (upd H1 p (.lst v)) := tr_mk0 hp
  exact k p v G1 _ (tr_back t1 hp) (E1.gn hp) upd_same d1 (t1.trans t2 fun _ _ _ q => q.elim) o1 (E1.tr t2 (ex_new E1.ex hp))
end
end Tw

set_option Elab.async false
set_option linter.all false
set_option maxRecDepth 100000
set_option maxHeartbeats 4000000
namespace Tw
open PySem PySem.Spec PyProof.Rows L2
theorem extend_tup (l : Addr) (items : Array Value) (n : Nat) (b : Addr) (dt : Option Addr) (sl : Array (Option Value)) (items2 : Array Value) (n2 : Nat) (g0 : ¬(!items.isEmpty && Builtin.List.listTooLong (items.size + items2.size)) = true)
    (g1 : items.size ≤ sizeLine) (g2 : items.size + items2.size ≤ sizeLine + 1) :
    Meets (Builtin.«list.extend» ⟨[.ref l, .ref b], []⟩) (fun _ R s => s.heap.get? l = some { cls := .type "list", dict := none, data := .seq items n, slots := #[] } ∧
      s.heap.get? b = some { cls := .type "tuple", dict := dt, data := .seq items2 n2, slots := sl } ∧ R (.ok (.ret Value.none)) { s with heap := s.heap.update l (Obj.mapSeq fun x => x ++ items2), toks := s.toks }) :=
  .of_wp fun prog w A R s hh => by
    obtain ⟨hp, gs, dr, tk, os⟩ := s
    obtain ⟨hl, hb, hr⟩ := hh
    have f1 := AutoSeq1.idx_int
    have f2 := AutoSeq1.sub_tuple_tuple
    have f3 := AutoSeq1.sub_list_list
    have f4 := AutoSeq1.sub_tuple_list
    have f5 := AutoSeq1.sub_list_tuple
    have hz2 : (items ++ items2).size ≤ sizeLine + 1 := by rw [Array.size_append]; exact g2
    wp_walk using (wpAny_updateSeq hl rfl (hz := g1) (_hz' := hz2)), AutoSeq1.wpAny_loadPart' hl, AutoSeq1.wpAny_loadPart' hb
    exact ⟨_, rfl, hr⟩
end Tw

set_option Elab.async false
set_option linter.all false
set_option maxRecDepth 100000
set_option maxHeartbeats 2000000
namespace Tw
open PySem PySem.Spec PyProof.Rows L2
open Evl (Ex)
/-! ### lists that change -/
abbrev GM := List PyData → List PyData → Option (PyData × List PyData)
/-- a method that changes its list -/
def MutD (K : PySem.W.Frag) (r : V → List V → Hp → VK → Prop) (g : GM) : Prop :=
  ∀ (G H : Hp) (l : Addr) (xs ws : List V) (ms ds ms' : List PyData) (z : PyData) (Q : VK), Ex G H → G l = none → H l = some (.lst xs) → Da K G xs ms → Da K G ws ds → g ms ds = some (z, ms') →
    (∀ v xs', Dt K G v z → Da K G xs' ms' → Q v (upd H l (.lst xs'))) → r (.ref l) ws H Q
def fMet (i : Nat) (g : GM) (ra : FE (List PyData)) : FE PyData := fun ρ => match ρ[i]? with
  | some (.m (.l _)) => thnE ra (fun ds ρ1 => match ρ1[i]? with
    | some (.m (.l ms)) => (g ms ds).map fun p => (p.1, ρ1.set i (.m (.l p.2)))
    | _ => none) ρ
  | _ => none
section
variable {K : PySem.W.Frag} {G H G1 H1 : Hp} {σ : L2.St} {ρ ρ1 : Rho} {b : Bool}
theorem tr_cell {l : Addr} {xs xs' : List V} (hG : G l = none) (hH : H l = some (.lst xs)) : Tr (fun a => a = l) G H G (upd H l (.lst xs')) where
  g := fun _ _ q => q
  h := fun x u q n => by rw [upd_ne n]; exact q
  n := fun _ _ _ q _ => q
  k := fun x u q => by
    by_cases z : x = l
    · subst z; exact ⟨_, upd_same⟩
    · exact ⟨u, by rw [upd_ne z]; exact q⟩
theorem ex_cell {l : Addr} {o : HO} (ex : Ex G H) (hG : G l = none) : Ex G (upd H l o) := fun x u q => by
  rw [upd_ne fun z => by subst z; rw [hG] at q; cases q]
  exact ex x u q
end
section
variable {X : Cx} {e o a c tg iter elt : Expr} {es ifs : List Expr} {pos : Pos} {bb : Bool} {P : List Nat} {K : PySem.W.Frag}
theorem met_run {r : V → List V → Hp → VK → Prop} {g : GM} {ra : FE (List PyData)} {i : Nat} (hr : MutD X.K r g) {σ : L2.St} {H : Hp} {Q : VK} (h : tE X.K true (fMet i g ra) σ H Q) :
    tBM X.K "list" r (tVar i) (tA X.K true ra) σ H Q := by
  obtain ⟨G, ρ, d, ρ', E, ef, k⟩ := h
  unfold fMet at ef
  split at ef
  case h_2 => cases ef
  rename_i ms0 hi0
  obtain ⟨ds, ρ1, h1, h2⟩ := thnE_of ef
  split at h2
  case h_2 => cases h2
  rename_i ms hi
  obtain ⟨⟨z, ms'⟩, h3, h4⟩ := Option.map_eq_some_iff.mp h2
  cases h4
  obtain ⟨l, xs0, hσ, _, hH0, _⟩ := E.muL hi0
  refine ⟨.ref l, hσ, .inl ⟨rfl, xs0, .inl (Rd.of hH0)⟩, G, ρ, ds, ρ1, E, h1, fun ws G1 H1 t1 o1 E1 d1 => ?_⟩
  obtain ⟨l2, xs, hσ2, hG, hH, dx⟩ := E1.muL hi
  rw [hσ] at hσ2
  cases hσ2
  refine hr G1 H1 l xs ws ms ds ms' _ Q E1.ex hG hH dx d1 h3 fun v xs' dv dx' => ?_
  have own1 : own σ ρ1 l := ⟨i, ms, hi, hσ⟩
  have t2 : Tr (fun a => a = l) G1 H1 G1 (upd H1 l (.lst xs')) := tr_cell hG hH
  exact k v G1 _ (t1.trans t2 fun a _ _ q => ⟨rfl, by rw [q]; exact o1 l own1⟩) (fun l' q => o1 l' (own_setM hi q)) (env_setM E1 hi hσ t2 (ex_cell E1.ex hG) hG upd_same (.l dx')) dv
theorem e_met {r : V → List V → Hp → VK → Prop} {g : GM} {ra : FE (List PyData)} (i : Nat) (hr : MutD X.K r g) (h : PE X e (tBM X.K "list" r (tVar i) (tA X.K true ra))) : PE X e (tE X.K true (fMet i g ra)) :=
  PE.weak h fun _ _ _ h => met_run hr h
theorem e_met0 {r : V → List V → Hp → VK → Prop} {g : GM} (i : Nat) (hr : MutD X.K r g) (h : PE X e (tBM0 X.K "list" r (tVar i))) : PE X e (tE X.K true (fMet i g (ret []))) :=
  PE.weak h fun σ H Q h => by
    obtain ⟨v, hσ, ty, G, ρ, ds, ρ1, E, h1, k⟩ := met_run hr h
    obtain ⟨rfl, rfl⟩ := ret_of h1
    exact ⟨v, hσ, ty, k [] G H .refl (fun _ q => q) E .nil⟩
def appG : GM := fun ms ds => match ds with
  | [d] => if ms.length < 100000 then some (.none, ms ++ [d]) else none
  | _ => none
theorem m_app : MutD K rAppend appG := fun G H l xs ws ms ds ms' z Q ex hG hH dx dw hg k => by
  unfold appG at hg
  split at hg
  · obtain ⟨h1, h2⟩ := ite_p hg
    cases h2
    obtain ⟨v, rfl, dv⟩ := da_one dw
    exact ⟨l, xs, v, rfl, rfl, hH, by rw [dx.len]; exact Evl.sz_lt h1, k _ _ .nn (dx.app (Da.one dv))⟩
  · cases hg
/-- xs.extend(ys), ys a list or a tuple -/
def rExt (K : PySem.W.Frag) : V → List V → Hp → VK → Prop := fun x vs H Q => ∃ l b xs zs, x = .ref l ∧ vs = [.ref b] ∧ H l = some (.lst xs) ∧ (RL K H b zs ∨ SqT K H b zs) ∧ xs.length + zs.length ≤ sizeLine ∧ Q .non (upd H l (.lst (xs ++ zs)))
theorem mt_ext : MtR X "list.extend" (rExt X.K) := fun pins s σ H x vs v us Q I rx rv ⟨l, b, xs, zs, ex, ev, hH, hB, hz, q⟩ => by
  subst ex
  subst ev
  cases rx
  obtain ⟨u, rfl, ru⟩ := rv.one
  cases ru
  obtain ⟨z, its, n, r, hl, e⟩ := lstR I (RL.of hH)
  have room : ∀ {its2 : List Value}, Vals zs its2 → its.toArray.size + its2.toArray.size ≤ sizeLine := fun r2 => by
    rw [List.size_toArray, List.size_toArray, ← hl, ← r2.length]; exact hz
  have door : ∀ {its2 : List Value}, Vals zs its2 → ¬ (!its.toArray.isEmpty && Builtin.List.listTooLong (its.toArray.size + its2.toArray.size)) = true := fun r2 => by
    rw [notLongL (room r2), Bool.and_false]
    exact Bool.false_ne_true
  have fin : ∀ {its2 : List Value}, Vals zs its2 → EP X pins σ Q .none { s with heap := s.heap.update l (Obj.mapSeq fun x => x ++ its2.toArray), toks := s.toks } := fun {its2} r2 =>
    ⟨.non, _, I.lset (its' := its ++ its2) hH e (by simp) (r.append r2) (by rw [List.length_append]; exact hz), rfl, q⟩
  rcases hB with hB | hB
  · obtain ⟨_, its2, n2, r2, _, e2⟩ := lstR I hB
    refine call_meets F.slot_list_extend ⟨_, e, rfl⟩ F.entry_list_extend (F.args_list_extend_2 _ _)
      (AutoSeq1.list_extend_list_list_0 l its.toArray n b its2.toArray n2 (door r2) ?_ ?_) ⟨e, e2, fin r2⟩
    · rw [List.size_toArray, ← hl]; exact z
    · exact Nat.le_succ_of_le (room r2)
  · obtain ⟨its2, r2, ⟨ob, ho, hc, n2, hd⟩, _⟩ := I.tuple hB
    obtain ⟨oc, odt, od, osl⟩ := ob
    dsimp only at hc hd
    subst hc
    subst hd
    refine call_meets F.slot_list_extend ⟨_, e, rfl⟩ F.entry_list_extend (F.args_list_extend_2 _ _)
      (extend_tup l its.toArray n b odt osl its2.toArray n2 (door r2) ?_ ?_) ⟨e, ho, fin r2⟩
    · rw [List.size_toArray, ← hl]; exact z
    · exact Nat.le_succ_of_le (room r2)
def extG : GM := fun ms ds => match ds with
  | [.list es] => if sizeOk (ms.length + es.length) = true then some (.none, ms ++ es) else none
  | [.tuple es] => if sizeOk (ms.length + es.length) = true then some (.none, ms ++ es) else none
  | _ => none
theorem m_ext : MutD K (rExt K) extG := fun G H l xs ws ms ds ms' z Q ex hG hH dx dw hg k => by
  unfold extG at hg
  split at hg
  · obtain ⟨h1, h2⟩ := ite_p hg
    cases h2
    obtain ⟨v, rfl, dv⟩ := da_one dw
    obtain ⟨b, ys, rfl, hy, dy⟩ := dt_list dv
    exact ⟨l, b, xs, ys, rfl, rfl, hH, .inl (hy.mono ex), by rw [dx.len, dy.len]; exact sizeOk_le h1, k _ _ .nn (dx.app dy)⟩
  · obtain ⟨h1, h2⟩ := ite_p hg
    cases h2
    obtain ⟨v, rfl, dv⟩ := da_one dw
    obtain ⟨b, ys, rfl, hy, dy⟩ := dt_tup dv
    exact ⟨l, b, xs, ys, rfl, rfl, hH, .inr (Evl.ex_t ex hy), by rw [dx.len, dy.len]; exact sizeOk_le h1, k _ _ .nn (dx.app dy)⟩
  · cases hg
/-- xs.pop(i), xs.pop() -/
def popG : GM := fun ms ds => match ds with
  | [.int i] => if -(2 ^ 63) ≤ i ∧ i < 2 ^ 63 then (seqIndex? i ms.length).bind fun k => (ms[k]?).map fun d => (d, ms.eraseIdx k) else none
  | _ => none
theorem Da.erase {G : Hp} : ∀ {vs : List V} {ds : List PyData} (i : Nat), Da K G vs ds → Da K G (vs.eraseIdx i) (ds.eraseIdx i)
  | _, _, _, .nil => .nil
  | _, _, 0, .cons _ t => t
  | _, _, i + 1, .cons h t => .cons h (Da.erase i t)
theorem m_pop : MutD K rPopAt popG := fun G H l xs ws ms ds ms' z Q ex hG hH dx dw hg k => by
  unfold popG at hg
  split at hg
  · split at hg
    · rename_i hb
      obtain ⟨j, h1, h2⟩ := Option.bind_eq_some_iff.mp hg
      obtain ⟨d, h3, h4⟩ := Option.map_eq_some_iff.mp h2
      cases h4
      obtain ⟨v, rfl, dv⟩ := da_one dw
      obtain ⟨y, h5, h6⟩ := dx.get h3
      exact ⟨l, xs, _, j, y, rfl, by rw [dt_int dv], hH, hb.1, hb.2, by rw [dx.len]; exact h1, h5, k _ _ h6 (dx.erase j)⟩
    · cases hg
  · cases hg
def popL : GM := fun ms ds => match ds with
  | [] => (ms[ms.length - 1]?).map fun d => (d, ms.dropLast)
  | _ => none
theorem Da.dropL {G : Hp} {vs : List V} {ds : List PyData} (h : Da K G vs ds) : Da K G vs.dropLast ds.dropLast := by
  rw [List.dropLast_eq_take, List.dropLast_eq_take, h.len]
  exact h.take _
theorem m_popL : MutD K rPop popL := fun G H l xs ws ms ds ms' z Q ex hG hH dx dw hg k => by
  unfold popL at hg
  split at hg
  · obtain ⟨d, h3, h4⟩ := Option.map_eq_some_iff.mp hg
    cases h4
    cases dw
    obtain ⟨y, h5, h6⟩ := dx.get h3
    exact ⟨l, xs, y, rfl, rfl, hH, by rw [dx.len]; exact h5, k _ _ h6 dx.dropL⟩
  · cases hg
/-! xs[i] = e -/
section
variable {prog : Program} {w : World} {A : Around} {E : Value → Shared → Prop} {s : Shared}
theorem put_bool {l : Addr} {items : Array Value} {n : Nat} {b : Bool} {v : Value} {Q : Unit → Shared → Prop} (ho : s.heap.get? l = some { cls := .type "list", data := .seq items n }) (hn : (bI b).toNat < items.size)
    (hQ : Q () { s with heap := s.heap.update l (Obj.mapSeq (·.setIfInBounds (bI b).toNat v)) }) : wpAny (model prog w) A (setItem (.ref l) (.bool b) v) Q E s := by
  have hl : s.heap.IsList l items := PySem.IsL.isList (n := n) ho
  unfold setItem
  try (with_reducible refine wpAny_holding ?_)
  first | refine wpAny_bind (wpAny_pure ?_) | skip
  refine wpAny_bind (wpAny_sequenceKey hl.typeIs (by decide) ?_)
  refine wpAny_bind (wpAny_callSpecial?_slot (name := Str.ofString "__setitem__") hl.typeIs slot_list_setitem (wpAny_call_entry slot_list_setitem hl.typeIs entry_list_setitem ?_ (args_list_setitem _ _ _)))
  show wpAny _ _ (Builtin.List.listSubscript? (.bool b) >>= _) _ _ s
  refine wpAny_bind (sub_bool ?_)
  have hb : bI b = (((bI b).toNat : Nat) : Int) := by cases b <;> rfl
  rw [hb]
  generalize (bI b).toNat = j at hn hQ
  have hx : items[j]? = some items[j] := Array.getElem?_eq_getElem hn
  show wpAny _ _ ((seqItemAt l j >>= fun r => pure (r.map (j, ·))) >>= _) _ _ s
  refine wpAny_bind (wpAny_bind (wpAny_seqItemAt ho rfl (wpAny_pure ?_)))
  rw [hx]
  show wpAny _ _ (setSeqItemAt l j v >>= _) _ _ s
  refine wpAny_bind (wpAny_setSeqItemAt ho rfl ?_)
  first
    | exact wpAny_bind (wpAny_pure (wpAny_pure ⟨.none, rfl, wpAny_pure hQ⟩))
    | exact wpAny_pure ⟨.none, rfl, wpAny_pure hQ⟩
end
def rSetB : TSet := fun o i v H Q => ∃ p xs b, o = .ref p ∧ i = .bl b ∧ H p = some (.lst xs) ∧ (bI b).toNat < xs.length ∧ Q (upd H p (.lst (xs.set (bI b).toNat v)))
def rSet2 : TSet := fun o i v H Q => rSetL o i v H Q ∨ rSetB o i v H Q
theorem set_list2 : PSet X rSet2 := fun pins s σ H o i v ov iv u Q I ro ri rv h => by
  rcases h with h | ⟨p, xs, b, rfl, rfl, hp, hj, q⟩
  · exact set_list pins s σ H o i v ov iv u Q I ro ri rv h
  · cases ro
    obtain rfl : iv = Value.bool b := ri
    obtain ⟨its, n, r, ho, hz⟩ := I.lst hp
    have I' : Inv X pins σ (upd H p (.lst (xs.set (bI b).toNat v))) { s with heap := s.heap.update p (Obj.mapSeq (·.setIfInBounds (bI b).toNat u)) } :=
      I.lstUpd hp ho (mapSeq_set its n _ u) (r.set rv _) (by rw [List.length_set]; exact hz) s.toks
    exact put_bool ho (by rw [List.size_toArray, ← r.length]; exact hj) ⟨_, I', q⟩
/-- the place that is told -/
def plI (n : Nat) : PyData → Option Nat
  | .int k => ixN n k
  | .bool b => if (bI b).toNat < n then some (bI b).toNat else none
  | _ => none
def fSetI (i : Nat) (fe fi : FE PyData) : FS := fun ρ => (fe ρ).bind fun p => match p.2[i]? with
  | some (.m (.l _)) => (fi p.2).bind fun q => match q.2[i]? with
    | some (.m (.l ms)) => (plI ms.length q.1).map fun j => .nx (q.2.set i (.m (.l (ms.set j p.1))))
    | _ => none
  | _ => none
theorem s_setI {fe fi : FE PyData} (i : Nat) {tg : Expr} (ht : PG X tg (gSub (tVar i) (tE X.K true fi) rSet2)) (he : PE X e (tE X.K true fe)) (hs : swapsWithSole [tg] e pos.line X.env = pure false := by rfl) (hw : swappedStores [tg] e X.env = pure none := by rfl)
    (h1 : (assignEach [tg] X.env).map (·.2) = [assign tg X.env] := by rfl) : PS X (.Assign [tg] e pos) (tS X.K P (fSetI i fe fi)) := PS.weak (ps_asg he ht hs hw h1) fun D σ H ⟨G, ρ, o, E, ef, k⟩ => by
  obtain ⟨⟨d, ρ1⟩, q1, q2⟩ := Option.bind_eq_some_iff.mp ef
  dsimp only at q2
  split at q2
  case h_2 => cases q2
  rename_i ms0 hi0
  obtain ⟨⟨dk, ρ2⟩, q3, q4⟩ := Option.bind_eq_some_iff.mp q2
  dsimp only at q4
  split at q4
  case h_2 => cases q4
  rename_i ms hi
  obtain ⟨j, hj, rfl⟩ := Option.map_eq_some_iff.mp q4
  refine ⟨G, ρ, d, ρ1, E, q1, fun v G1 H1 t1 o1 E1 d1 => ?_⟩
  obtain ⟨l, xs0, hσ, _, _, _⟩ := E1.muL hi0
  refine ⟨.ref l, hσ, G1, ρ1, _, ρ2, E1, q3, fun w G2 H2 t2 o2 E2 d2 => ?_⟩
  obtain ⟨l2, xs, hσ2, hG, hH, dx⟩ := E2.muL hi
  rw [hσ] at hσ2
  cases hσ2
  have own2 : own σ ρ2 l := ⟨i, ms, hi, hσ⟩
  have s12 : Stp P G H σ ρ G2 H2 σ ρ2 := (Stp.of t1 o1).trans (.of t2 o2)
  have fin : D.nx σ (upd H2 l (.lst (xs.set j v))) := by
    have t3 : Tr (fun a => a = l) G2 H2 G2 (upd H2 l (.lst (xs.set j v))) := tr_cell hG hH
    refine k σ G2 _ (s12.trans ⟨t3.wide fun a _ _ q => by rw [q]; exact own2, fun l' q => .inl (own_setM hi q), fun _ _ => rfl⟩) ?_
    exact env_setM E2 hi hσ t3 (ex_cell E2.ex hG) hG upd_same (.l (Da.set j (d1.mono t2.g) dx))
  unfold plI at hj
  split at hj
  · exact .inl ⟨l, xs, _, j, rfl, dt_int d2, hH, by rw [dx.len]; exact hj, fin⟩
  · obtain ⟨h3, rfl⟩ := ite_p hj
    exact .inr ⟨l, xs, _, rfl, dt_bool d2, hH, by rw [dx.len]; exact h3, fin⟩
  · cases hj
/-! ### x = a new list of one's own -/
def fOwn (f : FE (List PyData)) (i : Nat) : FS := fun ρ => (f ρ).bind fun p => if i < p.2.length then some (.nx (p.2.set i (.m (.l p.1)))) else none
theorem own_run {f : FE (List PyData)} {i : Nat} (hp : i ∉ P) {σ : L2.St} {H : Hp} {D : Ends} (h : tS X.K P (fOwn f i) D σ H) : tAsg (tF X.K bb f) (gName i) D σ H := by
  obtain ⟨G, ρ, o, E, ef, k⟩ := h
  obtain ⟨⟨ds, ρ1⟩, q1, q2⟩ := Option.bind_eq_some_iff.mp ef
  obtain ⟨hi, rfl⟩ := ite_p q2
  refine ⟨G, ρ, ds, ρ1, E, q1, fun p xs G1 H1 h0 hG hH da t o1 E1 => ?_⟩
  have hi' : i < σ.length := by rw [E1.len]; exact hi
  have own' : ∀ l, own (σ.set i (some (.ref p))) (ρ1.set i (.m ds)) l → l = p ∨ own σ ρ1 l := fun l ⟨j, es, w1, w2⟩ => by
    rcases set_get w1 with ⟨rfl, _⟩ | ⟨n, w1⟩
    · rw [List.getElem?_set_self hi'] at w2
      cases w2
      exact .inl rfl
    · rw [List.getElem?_set_ne (Ne.symm n)] at w2
      exact .inr ⟨j, es, w1, w2⟩
  have notp : ¬ own σ ρ1 p := fun q => by
    obtain ⟨ys, z⟩ := own_there E (o1 p q)
    rw [h0] at z
    cases z
  refine k _ G1 H1 ⟨t.wide fun _ _ _ q => q.2, fun l q => (own' l q).elim (fun z => .inr (by rw [z]; exact h0)) fun z => .inl (o1 l z), fun j hj => List.getElem?_set_ne fun z => hp (by rw [z]; exact hj)⟩ ?_
  exact {
    ex := E1.ex
    len := by rw [List.length_set, List.length_set]; exact E1.len
    dat := fun j d q => by
      rcases set_get q with ⟨_, q⟩ | ⟨n, q⟩
      · cases q
      · rw [List.getElem?_set_ne (Ne.symm n)]
        exact E1.dat j d q
    mu := fun j d q => by
      rcases set_get q with ⟨ej, qq⟩ | ⟨n, qq⟩
      · cases qq
        rw [ej]
        exact ⟨p, _, List.getElem?_set_self hi', hG, hH, .l da⟩
      · rw [List.getElem?_set_ne (Ne.symm n)]
        exact E1.mu j d qq
    ne := fun a b d1 d2 l w1 w2 w3 w4 => by
      rcases set_get w1 with ⟨ea, _⟩ | ⟨na, w1⟩
      · rcases set_get w2 with ⟨eb, _⟩ | ⟨nb, w2⟩
        · rw [ea, eb]
        · rw [ea, List.getElem?_set_self hi'] at w3
          cases w3
          rw [List.getElem?_set_ne (Ne.symm nb)] at w4
          exact (notp ⟨b, d2, w2, w4⟩).elim
      · rcases set_get w2 with ⟨eb, _⟩ | ⟨nb, w2⟩
        · rw [eb, List.getElem?_set_self hi'] at w4
          cases w4
          rw [List.getElem?_set_ne (Ne.symm na)] at w3
          exact (notp ⟨a, d1, w1, w3⟩).elim
        · rw [List.getElem?_set_ne (Ne.symm na)] at w3
          rw [List.getElem?_set_ne (Ne.symm nb)] at w4
          exact E1.ne a b d1 d2 l w1 w2 w3 w4 }
theorem s_own {f : FE (List PyData)} (i : Nat) {tg : Expr} (hp : i ∉ P) (he : PE X e (tF X.K bb f)) (ht : PG X tg (gName i)) (hs : swapsWithSole [tg] e pos.line X.env = pure false := by rfl) (hw : swappedStores [tg] e X.env = pure none := by rfl)
    (h1 : (assignEach [tg] X.env).map (·.2) = [assign tg X.env] := by rfl) : PS X (.Assign [tg] e pos) (tS X.K P (fOwn f i)) := PS.weak (ps_asg he ht hs hw h1) fun _ _ _ h => own_run hp h
/-! ### a list of one's own, looked at; made data -/
def atom : PyData → Bool
  | .none | .bool _ | .int _ | .str _ => true
  | _ => false
theorem atom_dt {G G' : Hp} {v : V} {d : PyData} (h : Dt K G v d) (a : atom d = true) : Dt K G' v d := by
  cases h with
  | nn => exact .nn
  | bb b => exact .bb b
  | ii i => exact .ii i
  | ss x => exact .ss x
  | ll _ _ => cases a
  | tt _ _ => cases a
  | dd _ _ => cases a
/-- the slot i as data -/
def froz (i : Nat) (ρ : Rho) : Option Rho := match ρ[i]? with
  | some (.m (.l ds)) => some (ρ.set i (.d (.list ds)))
  | some (.m (.k es)) => some (ρ.set i (.d (.dict es)))
  | _ => none
theorem fz_dt {ρ ρ' : Rho} {i : Nat} (h : froz i ρ = some ρ') : ∃ u d, ρ[i]? = some (.m u) ∧ ρ' = ρ.set i (.d d) ∧ ∀ (G : Hp) (o : HO) (l : Addr), G l = some o → MuOk K G o u → Dt K G (.ref l) d := by
  unfold froz at h
  split at h
  · rename_i ds hi
    cases h
    exact ⟨_, _, hi, rfl, fun G o l e m => by
      cases m with
      | l m => exact .ll (RL.of e) m⟩
  · rename_i es hi
    cases h
    exact ⟨_, _, hi, rfl, fun G o l e m => by
      cases m with
      | k m => exact .dd (.inl e) m⟩
  · cases h
theorem env_fz {G H : Hp} {σ : L2.St} {ρ ρ' : Rho} {i : Nat} (E : EnvOk K G H σ ρ) (h : froz i ρ = some ρ') : ∃ l xs, own σ ρ l ∧ G l = none ∧ H l = some xs ∧ EnvOk K (upd G l xs) H σ ρ' ∧ (∀ a, own σ ρ' a → own σ ρ a) := by
  obtain ⟨ds, dd, hi, rfl, fz⟩ := fz_dt (K := K) h
  obtain ⟨l, xs, hσ, hG, hH, dx⟩ := E.mu i ds hi
  have ow : own σ ρ l := ⟨i, ds, hi, hσ⟩
  have sub : ∀ a, own σ (ρ.set i (.d dd)) a → own σ ρ a := fun a ⟨j, es, w1, w2⟩ => by
    rcases set_get w1 with ⟨_, q⟩ | ⟨_, q⟩
    · cases q
    · exact ⟨j, es, q, w2⟩
  refine ⟨l, xs, ow, hG, hH, ⟨ex_put E.ex hH hG, by rw [List.length_set]; exact E.len, fun j d q => ?_, fun j d q => ?_, fun a b d1 d2 l' w1 w2 => ?_⟩, sub⟩
  · rcases set_get q with ⟨ej, qq⟩ | ⟨n, qq⟩
    · cases qq
      rw [ej]
      exact ⟨.ref l, hσ, fz _ _ _ upd_same (dx.mono (ex_add hG))⟩
    · obtain ⟨v, h1, h2⟩ := E.dat j d qq
      exact ⟨v, h1, h2.mono (ex_add hG)⟩
  · rcases set_get q with ⟨ej, qq⟩ | ⟨n, qq⟩
    · cases qq
    · obtain ⟨l', ys, h1, h2, h3, h4⟩ := E.mu j d qq
      refine ⟨l', ys, h1, ?_, h3, h4.mono (ex_add hG)⟩
      rw [upd_ne fun z => n (E.ne j i d ds l qq hi (by rw [← z]; exact h1) hσ)]
      exact h2
  · rcases set_get w1 with ⟨_, q⟩ | ⟨_, w1⟩
    · cases q
    rcases set_get w2 with ⟨_, q⟩ | ⟨_, w2⟩
    · cases q
    exact E.ne a b d1 d2 l' w1 w2
theorem ows_false {σ : L2.St} {ρ : Rho} {a : Addr} (h : ows false σ ρ a) : False := by cases h.1
/-- what is told of a list of one's own, itself not handed on -/
def fPeek (i : Nat) (f : FE PyData) : FE PyData := fun ρ => (froz i ρ).bind fun ρ1 => (f ρ1).bind fun p => if atom p.1 = true then some (p.1, ρ) else none
theorem e_peek {f : FE PyData} (i : Nat) (h : PE X e (tE X.K false f)) : PE X e (tE X.K bb (fPeek i f)) := PE.weak h fun σ H Q ⟨G, ρ, d, ρ', E, ef, k⟩ => by
  obtain ⟨ρ1, q1, q2⟩ := Option.bind_eq_some_iff.mp ef
  obtain ⟨⟨z, ρ2⟩, q3, q4⟩ := Option.bind_eq_some_iff.mp q2
  obtain ⟨ha, q5⟩ := ite_p q4
  cases q5
  obtain ⟨l, xs, ow, hG, hH, E1, _⟩ := env_fz E q1
  refine ⟨_, ρ1, _, ρ2, E1, q3, fun v G1 H1 t1 o1 E2 d1 => ?_⟩
  have t : Tr nobody G H G H1 := ⟨fun _ _ q => q, fun a u q _ => t1.h a u q ows_false, fun _ _ _ q _ => q, t1.k⟩
  exact k v G H1 t.none (fun _ q => q) (E.tr t fun a u q => E2.ex a u (t1.g a u (ex_add hG a u q))) (atom_dt d1 ha)
def tPeek (i : Nat) (f : FE Bool) : FE Bool := fun ρ => (froz i ρ).bind fun ρ1 => (f ρ1).map fun p => (p.1, ρ)
theorem t_peek {f : FE Bool} (i : Nat) (h : PT X e (tT X.K false f)) : PT X e (tT X.K bb (tPeek i f)) := PT.weak h fun σ H Q ⟨G, ρ, d, ρ', E, ef, k⟩ => by
  obtain ⟨ρ1, q1, q2⟩ := Option.bind_eq_some_iff.mp ef
  obtain ⟨⟨z, ρ2⟩, q3, q4⟩ := Option.map_eq_some_iff.mp q2
  cases q4
  obtain ⟨l, xs, ow, hG, hH, E1, _⟩ := env_fz E q1
  refine ⟨_, ρ1, _, ρ2, E1, q3, fun G1 H1 t1 o1 E2 => ?_⟩
  have t : Tr nobody G H G H1 := ⟨fun _ _ q => q, fun a u q _ => t1.h a u q ows_false, fun _ _ _ q _ => q, t1.k⟩
  exact k G H1 t.none (fun _ q => q) (E.tr t fun a u q => E2.ex a u (t1.g a u (ex_add hG a u q)))
def fFrz (i : Nat) (f : FS) : FS := fun ρ => (froz i ρ).bind f
theorem ss_frz {sts : List Stmt} {f : FS} (i : Nat) (h : PSs X sts (tS X.K P f)) : PSs X sts (tS X.K P (fFrz i f)) := PSs.weak h fun D σ H ⟨G, ρ, o, E, ef, k⟩ => by
  obtain ⟨ρ1, q1, q2⟩ := Option.bind_eq_some_iff.mp ef
  obtain ⟨l, xs, ow, hG, hH, E1, sub⟩ := env_fz E q1
  refine ⟨_, ρ1, o, E1, q2, k.pre ⟨⟨ex_add hG, fun a u q _ => q, fun a u q g n => ?_, fun a u q => ⟨u, q⟩⟩, fun a q => .inl (sub a q), fun _ _ => rfl⟩⟩
  rw [upd_ne fun z => n (by rw [z]; exact ow)]
  exact g
end
end Tw

set_option Elab.async false
set_option linter.all false
set_option maxRecDepth 100000
set_option maxHeartbeats 2000000
namespace Tw
open PySem PySem.Spec PyProof.Rows L2
open Evl (Ex)
/-! ### comprehensions -/
def wipeR (ρ : Rho) : List Nat → Rho
  | [] => ρ
  | v :: vs => (wipeR ρ vs).set v .un
/-- the slots vs as they were in ρ0, the others as in ρ -/
def backR (ρ0 : Rho) (ρ : Rho) : List Nat → Rho
  | [] => ρ
  | v :: vs => (backR ρ0 ρ vs).set v (match ρ0[v]? with
    | some (.d x) => .d x
    | _ => .un)
section
variable {K : PySem.W.Frag} {G H G1 H1 : Hp} {σ σ2 : L2.St} {ρ ρ0 ρ1 : Rho} {b : Bool}
theorem wipeR_len (ρ : Rho) : ∀ vs : List Nat, (wipeR ρ vs).length = ρ.length
  | [] => rfl
  | v :: vs => by
    show ((wipeR ρ vs).set v .un).length = ρ.length
    rw [List.length_set, wipeR_len ρ vs]
theorem backR_len (ρ0 ρ : Rho) : ∀ vs : List Nat, (backR ρ0 ρ vs).length = ρ.length
  | [] => rfl
  | v :: vs => by
    show ((backR ρ0 ρ vs).set v _).length = ρ.length
    rw [List.length_set, backR_len ρ0 ρ vs]
theorem wipeR_get {j : Nat} {x : Sl} : ∀ {vs : List Nat}, (wipeR ρ vs)[j]? = some x → x = .un ∨ (j ∉ vs ∧ ρ[j]? = some x)
  | [], h => .inr ⟨List.not_mem_nil, h⟩
  | v :: vs, h => by
    rcases set_get (show ((wipeR ρ vs).set v .un)[j]? = some x from h) with ⟨_, q⟩ | ⟨n, q⟩
    · exact .inl q
    · rcases wipeR_get q with q | ⟨q1, q2⟩
      · exact .inl q
      · exact .inr ⟨fun z => (List.mem_cons.mp z).elim n q1, q2⟩
theorem backR_get {j : Nat} {x : Sl} : ∀ {vs : List Nat}, (backR ρ0 ρ vs)[j]? = some x → (j ∈ vs ∧ (x = .un ∨ ∃ y, x = .d y ∧ ρ0[j]? = some (.d y))) ∨ (j ∉ vs ∧ ρ[j]? = some x)
  | [], h => .inr ⟨List.not_mem_nil, h⟩
  | v :: vs, h => by
    rcases set_get (show ((backR ρ0 ρ vs).set v _)[j]? = some x from h) with ⟨ej, q⟩ | ⟨n, q⟩
    · refine .inl ⟨by rw [ej]; exact List.mem_cons_self, ?_⟩
      rw [q, ej]
      split
      · rename_i y hy
        exact .inr ⟨y, rfl, hy⟩
      · exact .inl rfl
    · rcases backR_get q with ⟨q1, q2⟩ | ⟨q1, q2⟩
      · exact .inl ⟨List.mem_cons_of_mem _ q1, q2⟩
      · exact .inr ⟨fun z => (List.mem_cons.mp z).elim n q1, q2⟩
theorem wipe_at {vs : List Nat} {j : Nat} (h : j ∉ vs) : (wipe σ vs)[j]? = σ[j]? := L2.wipe_out h
theorem env_wipe (E : EnvOk K G H σ ρ) (vs : List Nat) : EnvOk K G H (wipe σ vs) (wipeR ρ vs) where
  ex := E.ex
  len := by rw [wipe_length, wipeR_len]; exact E.len
  dat := fun i d q => by
    rcases wipeR_get q with q | ⟨n, q⟩
    · cases q
    · rw [wipe_at n]; exact E.dat i d q
  mu := fun i d q => by
    rcases wipeR_get q with q | ⟨n, q⟩
    · cases q
    · rw [wipe_at n]; exact E.mu i d q
  ne := fun i j d1 d2 l w1 w2 w3 w4 => by
    rcases wipeR_get w1 with q | ⟨n1, q1⟩
    · cases q
    rcases wipeR_get w2 with q | ⟨n2, q2⟩
    · cases q
    rw [wipe_at n1] at w3
    rw [wipe_at n2] at w4
    exact E.ne i j d1 d2 l q1 q2 w3 w4
theorem own_wipe {vs : List Nat} {l : Addr} (h : own (wipe σ vs) (wipeR ρ vs) l) : own σ ρ l := by
  obtain ⟨j, d, w1, w2⟩ := h
  rcases wipeR_get w1 with q | ⟨n, q⟩
  · cases q
  · exact ⟨j, d, q, by rw [← wipe_at n]; exact w2⟩
/-- from within: the slots as they were -/
theorem env_back {vs : List Nat} (E0 : EnvOk K G H σ ρ0) (E : EnvOk K G1 H1 (wipe σ vs) ρ) (g : Ex G G1) : EnvOk K G1 H1 σ (backR ρ0 ρ vs) where
  ex := E.ex
  len := by rw [backR_len, ← E.len, wipe_length]
  dat := fun i d q => by
    rcases backR_get q with ⟨_, q | ⟨y, q, h0⟩⟩ | ⟨n, q⟩
    · cases q
    · cases q
      obtain ⟨v, h1, h2⟩ := E0.dat i d h0
      exact ⟨v, h1, h2.mono g⟩
    · rw [← wipe_at n]; exact E.dat i d q
  mu := fun i d q => by
    rcases backR_get q with ⟨_, q | ⟨y, q, h0⟩⟩ | ⟨n, q⟩
    · cases q
    · cases q
    · rw [← wipe_at n]; exact E.mu i d q
  ne := fun i j d1 d2 l w1 w2 w3 w4 => by
    rcases backR_get w1 with ⟨_, q | ⟨y, q, h0⟩⟩ | ⟨n1, q1⟩
    · cases q
    · cases q
    rcases backR_get w2 with ⟨_, q | ⟨y, q, h0⟩⟩ | ⟨n2, q2⟩
    · cases q
    · cases q
    rw [← wipe_at n1] at w3
    rw [← wipe_at n2] at w4
    exact E.ne i j d1 d2 l q1 q2 w3 w4
theorem own_back {vs : List Nat} {l : Addr} (h : own σ (backR ρ0 ρ vs) l) : own (wipe σ vs) ρ l := by
  obtain ⟨j, d, w1, w2⟩ := h
  rcases backR_get w1 with ⟨_, q | ⟨y, q, h0⟩⟩ | ⟨n, q⟩
  · cases q
  · cases q
  · exact ⟨j, d, q, by rw [wipe_at n]; exact w2⟩
/-- slots that a target within may not store -/
def compl (n : Nat) (vs : List Nat) : List Nat := (List.range n).filter fun j => decide (j ∉ vs)
theorem wipe_eq {vs : List Nat} {n : Nat} (hn : σ.length = n) (hl : σ2.length = n) (h : ∀ j ∈ compl n vs, σ2[j]? = (wipe σ vs)[j]?) : wipe σ2 vs = wipe σ vs := by
  apply List.ext_getElem?
  intro j
  by_cases hj : j ∈ vs
  · have w : ∀ {τ : L2.St} {ws : List Nat}, j ∈ ws → (wipe τ ws)[j]? = if j < τ.length then some none else none := fun {τ ws} m => by
      induction ws with
      | nil => cases m
      | cons v ws ih =>
        show ((wipe τ ws).set v none)[j]? = _
        by_cases e : j = v
        · subst e
          rw [List.getElem?_set_self']
          by_cases hlt : j < τ.length
          · rw [if_pos hlt, List.getElem?_eq_getElem (by rw [wipe_length]; exact hlt)]
            rfl
          · rw [if_neg hlt, List.getElem?_eq_none (by rw [wipe_length]; omega)]
            rfl
        · rw [List.getElem?_set_ne (Ne.symm e)]
          exact ih ((List.mem_cons.mp m).elim (fun z => absurd z e) id)
    rw [w hj, w hj, hn, hl]
  · rw [wipe_at hj, wipe_at hj]
    by_cases hlt : j < n
    · rw [h j (List.mem_filter.mpr ⟨List.mem_range.mpr hlt, decide_eq_true hj⟩), wipe_at hj]
    · rw [List.getElem?_eq_none (by omega), List.getElem?_eq_none (by omega)]
end
def lcF (ft : FG) (tt : FE Bool) (fe : FE PyData) (vs : List Nat) : List PyData → FE (List PyData)
  | [], ρ => some ([], ρ)
  | d :: ds, ρ => (ft d ρ).bind fun ρ1 => (tt ρ1).bind fun p => if p.1 = true then (fe p.2).bind fun q => (lcF ft tt fe vs ds (wipeR q.2 vs)).map fun r => (q.1 :: r.1, r.2) else lcF ft tt fe vs ds (wipeR p.2 vs)
def fLc (fi : FE (List PyData)) (ft : FG) (tt : FE Bool) (fe : FE PyData) (vs : List Nat) : FE (List PyData) := fun ρ => (fi ρ).bind fun p => if sizeOk p.1.length = true then (lcF ft tt fe vs p.1 (wipeR p.2 vs)).map fun q => (q.1, backR p.2 q.2 vs) else none
section
variable {X : Cx} {e elt tg iter : Expr} {ifs : List Expr} {pos : Pos} {bb : Bool}
theorem lc_run {wk : Bool} {n : Nat} {fi : FE (List PyData)} {ft : FG} {tt : FE Bool} {fe : FE PyData} {vs : List Nat} {σ : L2.St} {H : Hp} {Q : VK} (hn : σ.length = n) (h : tF X.K bb (fLc fi ft tt fe vs) σ H Q) :
    tLc (tIw wk X.K bb fi) (tGw wk X.K (compl n vs) ft) (tT X.K bb tt) (tE X.K bb fe) vs σ H Q := by
  obtain ⟨G, ρ, ys, ρ', E, ef, k⟩ := h
  obtain ⟨⟨ds, ρ1⟩, h1, h2⟩ := Option.bind_eq_some_iff.mp ef
  obtain ⟨hz, h3⟩ : sizeOk ds.length = true ∧ (lcF ft tt fe vs ds (wipeR ρ1 vs)).map (fun q => (q.1, backR ρ1 q.2 vs)) = some (ys, ρ') := by
    dsimp only at h2
    by_cases q : sizeOk ds.length = true
    · rw [if_pos q] at h2; exact ⟨q, h2⟩
    · rw [if_neg q] at h2; cases h2
  obtain ⟨⟨ys', ρe⟩, h4, h5⟩ := Option.map_eq_some_iff.mp h3
  cases h5
  dsimp only at k
  refine ⟨G, ρ, ds, ρ1, E, h1, fun J G1 H1 t1 o1 E1 W D hD => ?_⟩
  have E0 := env_wipe E1 vs
  have hD0 : H D = none := tr_back t1 hD
  have notD : ∀ {a : Addr}, own (wipe σ vs) (wipeR ρ1 vs) a → a ≠ D := fun {a} q z => by
    obtain ⟨xs, w⟩ := own_there E0 q
    rw [z, hD] at w
    cases w
  let Inv' : Nat → Hp → Prop := fun i H' => ∃ G' ρ2 acc accd rest, EnvOk X.K G' H' (wipe σ vs) ρ2 ∧ Tr (fun a => ows bb (wipe σ vs) (wipeR ρ1 vs) a ∨ a = D) G1 (upd H1 D (.lst [])) G' H' ∧ G' D = none ∧ H' D = some (.lst acc) ∧ Da X.K G' acc accd ∧
    (∀ l, own (wipe σ vs) ρ2 l → own (wipe σ vs) (wipeR ρ1 vs) l) ∧ lcF ft tt fe vs (ds.drop i) ρ2 = some (rest, ρe) ∧ accd ++ rest = ys' ∧ acc.length ≤ i
  have start0 : Inv' 0 (upd H1 D (.lst [])) := ⟨G1, wipeR ρ1 vs, [], [], ys', E0.tr (tr_mk0 hD) (ex_new E1.ex hD), .refl, E1.gn hD, upd_same, .nil, fun _ q => q, h4, rfl, Nat.zero_le _⟩
  refine ⟨fun i m H' => m = ds.length - i ∧ i ≤ ds.length ∧ Inv' i H', ⟨ds.length, by omega, Nat.zero_le _, start0⟩, ?_⟩
  rintro i m H' ⟨rfl, hi, G', ρ2, acc, accd, rest, E', t', gD, hDl, da, oo, hf, ea, hlen⟩
  have exG : Ex G1 H' := fun a u z => E'.ex a u (t'.g a u z)
  by_cases hlt : i < ds.length
  · have ed : ds.drop i = ds[i] :: ds.drop (i + 1) := List.drop_eq_getElem_cons hlt
    rw [ed] at hf
    obtain ⟨ρ3, q1, q2⟩ := Option.bind_eq_some_iff.mp hf
    obtain ⟨⟨b, ρ4⟩, q3, q4⟩ := Option.bind_eq_some_iff.mp q2
    refine .inr ⟨W.go i H' hlt exG, Inv' (i + 1), fun H2 z => ⟨ds.length - (i + 1), by omega, rfl, hlt, z⟩, fun x H2 y => ?_⟩
    obtain ⟨G3, t3, e3, d3⟩ := W.yld i H' x H2 ds[i] (List.getElem?_eq_getElem hlt) exG y G' t'.g E'.ex
    have E3 := E'.tr t3 e3
    refine ⟨G3, ρ2, ds[i], ρ3, E3, d3, q1, fun σ2 so E4 => ?_⟩
    have hl2 : σ2.length = n := by rw [so.l, wipe_length, hn]
    refine ⟨wipe_eq hn hl2 so.p, G3, ρ3, b, ρ4, E4, q3, fun G5 H5 t5 o5 E5 => ?_⟩
    have D2 : H2 D = some (.lst acc) := t3.h D _ hDl id
    have g3D : G3 D = none := t3.n D _ hDl gD id
    have own3 : ∀ {a : Addr}, own σ2 ρ3 a → own (wipe σ vs) (wipeR ρ1 vs) a := fun q => oo _ (so.o _ q)
    have nD3 : ¬ ows bb σ2 ρ3 D := fun q => notD (own3 q.2) rfl
    have D5 : H5 D = some (.lst acc) := t5.h D _ D2 nD3
    have g5D : G5 D = none := t5.n D _ D2 g3D nD3
    have T5 : Tr (fun a => ows bb (wipe σ vs) (wipeR ρ1 vs) a ∨ a = D) G1 (upd H1 D (.lst [])) G5 H5 := (t'.trans t3 fun _ _ _ q => q.elim).trans t5 fun a _ _ q => .inl ⟨q.1, own3 q.2⟩
    have toW : ∀ {ρx : Rho} {a : Addr}, (∀ l, own σ2 ρx l → own σ2 ρ4 l) → own (wipe σ vs) (wipeR ρx vs) a → own (wipe σ vs) (wipeR ρ1 vs) a := fun {ρx a} hx q => by
      rw [← wipe_eq hn hl2 so.p] at q
      exact own3 (o5 _ (hx _ (own_wipe q)))
    cases b with
    | false =>
      dsimp only
      rw [if_neg Bool.false_ne_true]
      refine ⟨G5, wipeR ρ4 vs, acc, accd, rest, ?_, T5, g5D, D5, da.mono fun a u z => t5.g a u (t3.g a u z), fun l q => toW (fun _ z => z) q, q4, ea, Nat.le_succ_of_le hlen⟩
      rw [← wipe_eq hn hl2 so.p]
      exact env_wipe E5 vs
    | true =>
      dsimp only
      rw [if_pos rfl]
      obtain ⟨⟨y0, ρ5⟩, q5, q6⟩ := Option.bind_eq_some_iff.mp (show ((fe ρ4).bind fun q => _) = some (rest, ρe) from q4)
      obtain ⟨⟨r0, ρ6⟩, q7, q8⟩ := Option.map_eq_some_iff.mp q6
      cases q8
      refine ⟨G5, ρ4, y0, ρ5, E5, q5, fun v G6 H6 t6 o6 E6 d6 => ?_⟩
      have nD4 : ¬ ows bb σ2 ρ4 D := fun q => notD (own3 (o5 _ q.2)) rfl
      have D6 : H6 D = some (.lst acc) := t6.h D _ D5 nD4
      have g6D : G6 D = none := t6.n D _ D5 g5D nD4
      refine ⟨acc, D6, Nat.lt_of_le_of_lt hlen (Nat.lt_of_lt_of_le hlt (sizeOk_le hz)), ?_⟩
      have E7 : EnvOk X.K G6 (upd H6 D (.lst (acc ++ [v]))) σ2 ρ5 := {
        ex := ex_cell E6.ex g6D
        len := E6.len
        dat := E6.dat
        mu := fun j d q => by
          obtain ⟨l, xs, w1, w2, w3, w4⟩ := E6.mu j d q
          have nl : l ≠ D := notD (own3 (o5 _ (o6 _ ⟨j, d, q, w1⟩)))
          exact ⟨l, xs, w1, w2, by rw [upd_ne nl]; exact w3, w4⟩
        ne := E6.ne }
      refine ⟨G6, wipeR ρ5 vs, acc ++ [v], accd ++ [y0], r0, ?_, ?_, g6D, upd_same, (da.mono fun a u z => t6.g a u (t5.g a u (t3.g a u z))).app (Da.one d6), fun l q => toW (fun _ z => o6 _ z) q, q7, by rw [List.append_assoc]; exact ea, by rw [List.length_append]; exact Nat.succ_le_succ hlen⟩
      · rw [← wipe_eq hn hl2 so.p]
        exact env_wipe E7 vs
      · have T6 : Tr (fun a => ows bb (wipe σ vs) (wipeR ρ1 vs) a ∨ a = D) G1 (upd H1 D (.lst [])) G6 H6 := T5.trans t6 fun a _ _ q => .inl ⟨q.1, own3 (o5 _ q.2)⟩
        exact T6.trans (tr_cell g6D D6) fun a _ _ q => .inr q
  · have en : i = ds.length := by omega
    subst en
    rw [List.drop_length] at hf
    cases hf
    rw [List.append_nil] at ea
    subst ea
    refine .inl ⟨W.stop H' exG, k D acc G' H' hD0 gD hDl da ?_ (fun l q => o1 l (own_wipe (oo l (own_back q)))) (env_back E1 E' t'.g)⟩
    have tA : Tr (ows bb (wipe σ vs) (wipeR ρ1 vs)) G1 H1 G' H' := (tr_mk0 hD).trans t' fun x o q w => w.elim id fun z => by rw [z, hD] at q; cases q
    exact t1.trans tA fun x o q w => ⟨w.1, o1 _ (own_wipe w.2)⟩
end
end Tw

set_option Elab.async false
set_option linter.all false
set_option maxRecDepth 100000
set_option maxHeartbeats 2000000
namespace Tw
open PySem PySem.Spec PyProof.Rows L2
open Evl (Ex)
section
variable {X : Cx} {e elt tg iter : Expr} {ifs : List Expr} {pos : Pos} {bb : Bool} {P : List Nat}
theorem PTs.weak {t t' : TT} (h : PTs X ifs t) (w : ∀ σ H Q, t' σ H Q → t σ H Q) : PTs X ifs t' := ⟨fun pins s σ H Q I q => h.run pins s σ H Q I (w σ H Q q)⟩
theorem ts_nil : PTs X [] (tT X.K bb (ret true)) := PTs.weak pts_nil fun σ H Q ⟨G, ρ, d, ρ', E, ef, k⟩ => by
  obtain ⟨rfl, rfl⟩ := ret_of ef
  exact k G H .refl (fun _ q => q) E
theorem ts_one {c : Expr} {t : FE Bool} (h : PT X c (tT X.K bb t)) : PTs X [c] (tT X.K bb t) := pts_one h
variable {wk : Bool} {scope : Scope} {own : List (Str × Nat)} {fi : FE (List PyData)} {ft : FG} {tt : FE Bool} {fe : FE PyData}
theorem l_lc (n : Nat) (hc : X.calm = true) (hN : X.N.Nodup) (hi : PI X tg iter (tIw wk X.K bb fi)) (ok : BlkOk X.N X.env.scope scope own)
    (hg : ∀ (s : Shared) (H : Hp) (C : Addr) (cl : List (Str × Addr)) (fp : List Addr), PG (X.blk s H scope (compEnvC scope cl C X.env) fp) tg (tGw wk X.K (compl n (own.map (·.2))) ft))
    (ht : ∀ (s : Shared) (H : Hp) (C : Addr) (cl : List (Str × Addr)) (fp : List Addr), PTs (X.blk s H scope (compEnvC scope cl C X.env) fp) ifs (tT X.K bb tt))
    (he : ∀ (s : Shared) (H : Hp) (C : Addr) (cl : List (Str × Addr)) (fp : List Addr), PE (X.blk s H scope (compEnvC scope cl C X.env) fp) elt (tE X.K bb fe)) (hn : X.N.length = n := by rfl) (hs : ∀ x, foldedSetIterable iter X.env x = pure x := by intro _; rfl) :
    PE X (.ListComp elt [⟨tg, iter, ifs, 0⟩] scope pos) (tF X.K bb (fLc fi ft tt fe (own.map (·.2)))) :=
  PE.weakI (pe_lc hc hN hi ok hg ht he hs) fun pins s σ H Q I h => lc_run (I.len.trans hn) h
/-- y = [.. for .. in ..], stored straight -/
theorem s_setLc {i : Nat} {y : Str} {py spos : Pos} (n : Nat) (hp : i ∉ P) (hc : X.calm = true) (hN : X.N.Nodup) (hy : X.N[i]? = some y) (hyl : X.env.scope.names.lookup y = some .local)
    (hsw : swapsWith (.ListComp elt [⟨tg, iter, ifs, 0⟩] scope pos) (some (.Name y py)) spos.line X.env = pure true) (hi : PI X tg iter (tIw wk X.K bb fi)) (ok : BlkOk X.N X.env.scope scope own)
    (hg : ∀ (s : Shared) (H : Hp) (C : Addr) (cl : List (Str × Addr)) (fp : List Addr), PG (X.blk s H scope (compEnvC scope cl C X.env) fp) tg (tGw wk X.K (compl n (own.map (·.2))) ft))
    (ht : ∀ (s : Shared) (H : Hp) (C : Addr) (cl : List (Str × Addr)) (fp : List Addr), PTs (X.blk s H scope (compEnvC scope cl C X.env) fp) ifs (tT X.K bb tt))
    (he : ∀ (s : Shared) (H : Hp) (C : Addr) (cl : List (Str × Addr)) (fp : List Addr), PE (X.blk s H scope (compEnvC scope cl C X.env) fp) elt (tE X.K bb fe)) (hn : X.N.length = n := by rfl) (hs : ∀ x, foldedSetIterable iter X.env x = pure x := by intro _; rfl) :
    PS X (.Assign [.Name y py] (.ListComp elt [⟨tg, iter, ifs, 0⟩] scope pos) spos) (tS X.K P (fAsg (fOf (fLc fi ft tt fe (own.map (·.2)))) (gNm i))) :=
  PS.weakI (ps_setLc hc hN hy hyl hsw hi ok hg ht he hs) fun pins s D σ H I h => by
    obtain ⟨G, ρ, o, E, ef, k⟩ := h
    refine lc_run (I.len.trans hn) (f_to ?_)
    obtain ⟨⟨d, ρ1⟩, h1, h2⟩ := Option.bind_eq_some_iff.mp ef
    obtain ⟨ρ2, h3, rfl⟩ := Option.map_eq_some_iff.mp h2
    obtain ⟨hlt, rfl⟩ := ite_p h3
    refine ⟨G, ρ, d, ρ1, E, h1, fun v G1 H1 t1 o1 E1 d1 => ?_⟩
    exact k _ G1 H1 ((Stp.of t1 o1).trans ⟨.refl, fun l q => .inl (own_set q), fun j hj => List.getElem?_set_ne fun z => hp (by rw [z]; exact hj)⟩) (E1.set hlt d1)
theorem s_ownLc {i : Nat} {y : Str} {py spos : Pos} (n : Nat) (hp : i ∉ P) (hc : X.calm = true) (hN : X.N.Nodup) (hy : X.N[i]? = some y) (hyl : X.env.scope.names.lookup y = some .local)
    (hsw : swapsWith (.ListComp elt [⟨tg, iter, ifs, 0⟩] scope pos) (some (.Name y py)) spos.line X.env = pure true) (hi : PI X tg iter (tIw wk X.K bb fi)) (ok : BlkOk X.N X.env.scope scope own)
    (hg : ∀ (s : Shared) (H : Hp) (C : Addr) (cl : List (Str × Addr)) (fp : List Addr), PG (X.blk s H scope (compEnvC scope cl C X.env) fp) tg (tGw wk X.K (compl n (own.map (·.2))) ft))
    (ht : ∀ (s : Shared) (H : Hp) (C : Addr) (cl : List (Str × Addr)) (fp : List Addr), PTs (X.blk s H scope (compEnvC scope cl C X.env) fp) ifs (tT X.K bb tt))
    (he : ∀ (s : Shared) (H : Hp) (C : Addr) (cl : List (Str × Addr)) (fp : List Addr), PE (X.blk s H scope (compEnvC scope cl C X.env) fp) elt (tE X.K bb fe)) (hn : X.N.length = n := by rfl) (hs : ∀ x, foldedSetIterable iter X.env x = pure x := by intro _; rfl) :
    PS X (.Assign [.Name y py] (.ListComp elt [⟨tg, iter, ifs, 0⟩] scope pos) spos) (tS X.K P (fOwn (fLc fi ft tt fe (own.map (·.2))) i)) :=
  PS.weakI (ps_setLc hc hN hy hyl hsw hi ok hg ht he hs) fun pins s D σ H I h => by
    have q := own_run (bb := bb) hp h
    exact lc_run (I.len.trans hn) q
end
end Tw

set_option Elab.async false
set_option linter.all false
set_option maxRecDepth 100000
set_option maxHeartbeats 2000000
namespace Tw
open PySem PySem.Spec PyProof.Rows L2
open Evl (Ex)
/-! ### the law as it is called -/
theorem script_G {Pr : Program} {w : World} {K : PySem.W.Frag} {mg mb : Str → Option Value} {k : Nat} {fa a : Addr} {fd : FuncData} {x : Str} {g : List PyData → Option PyData} {s₁ : Shared} {vs : List Value} {ns : List Int}
    (KX : K.In s₁.heap) (hns : s₁.heap.Ns mainGlobals mg) (hmb : s₁.heap.Ns builtinsNs mb) (hbb : ∀ x : Str, x ≠ "__name__" → mb x = bootBuiltins x) (lim : s₁.heap.NoLimit) (gn : s₁.gens = #[])
    (ha : s₁.heap.get? a = some { cls := .type "list", data := .seq vs.toArray }) (hi : IntsAre vs ns) (hl : ns.length ≤ sizeLine) (hr : Room k callerA)
    (F : ∀ base : Heap, K.In base → base.Ns mainGlobals mg → FnG Pr w K mg base k fa fd [x] (spP K 1 g)) (bd : ∀ (s : Shared) (u : Value), BindsTo s fd ⟨[u], []⟩ [(x, u)])
    (ans : g [.list (ns.map .int)] = some (.bool true)) :
    codeAny (model Pr w) callerA (.call (.ref fa) ⟨[.ref a], []⟩) (fun r s' => r = .ok (.ret (.bool true)) ∧ OldK s₁.heap s'.heap ∧ s'.os = s₁.os ∧ AllBare s'.gens) s₁ := by
  have rv := vals_ints hi
  have hlen := hi.length
  have main : ∀ M : Hp, Only M → RL K M a (ns.map V.int) → HOk Pr w M s₁.heap → (∀ b, M b ≠ none → b = a) → (M a ≠ none → K.lookup a = none) →
      codeAny (model Pr w) callerA (.call (.ref fa) ⟨[.ref a], []⟩) (fun r s' => r = .ok (.ret (.bool true)) ∧ OldK s₁.heap s'.heap ∧ s'.os = s₁.os ∧ AllBare s'.gens) s₁ := fun M hO hS ok hA hK => by
    have is_a : ∀ {b : Addr} {u : HO}, M b = some u → b = a := fun {b u} q => hA b (by rw [q]; exact fun z => nomatch z)
    have plainB : ∀ {b : Addr} {o : Obj} {es : Array DictEntry} {ep : Nat}, s₁.heap.get? b = some o → o.data = .dict es ep → M b = none := fun {b o es ep} e d => by
      cases q : M b with
      | none => rfl
      | some u =>
        obtain rfl := is_a q
        rw [ha] at e
        cases e
        cases d
    have nsH : ∀ {b : Addr} {m : Str → Option Value}, s₁.heap.Ns b m → (hidT s₁.heap M).Ns b m := fun {b m} ⟨o, es, ep, e, d, r⟩ => ⟨o, es, ep, hidT_get e (plainB e d), d, r⟩
    have inB : K.In (hidT s₁.heap M) := fun b o e => hidT_get (KX b o e) (by
      cases q : M b with
      | none => rfl
      | some u =>
        obtain rfl := is_a q
        rw [hK (by rw [q]; exact fun z => nomatch z)] at e
        cases e)
    have md : Mod K mg (hidT s₁.heap M) := ⟨inB, nsH hns, ⟨mb, nsH hmb, hbb⟩, let ⟨mc, h1, h2⟩ := lim; ⟨mc, nsH h1, h2⟩⟩
    have none0 : ∀ b, b ∉ frs ([] : List Env) := fun b z => nomatch (show b ∈ ([] : List Addr) from z)
    have e0 : Env0 Pr w K mg (hidT s₁.heap M) callerA [] s₁ M := ⟨rfl, md, fun b o e => of_hidT e, Nat.le_of_eq (hidT_size _ _), trivial, fun b hb => absurd hb (none0 b), ok, .of_eq gn⟩
    have wish : spP K 1 g [.ref a] M (fun v _ => v = .bl true) E0 := ⟨M, [.list (ns.map .int)], _, fun _ _ q => q, .cons (.ll hS (Da.ints ns)) .nil, rfl, ans, fun v _ _ _ _ d => dt_bool d⟩
    refine codeAny_mono ((F _ inB (nsH hns)).run callerA rfl hr [] s₁ M ⟨[.ref a], []⟩ [.ref a] [.ref a] _ e0 (bd s₁ (.ref a)) (.cons rfl .nil) wish) fun r s' hq => ?_
    match r, hq with
    | .error _, hq => exact False.elim hq
    | .ok .next, hq => exact False.elim hq
    | .ok .brk, hq => exact False.elim hq
    | .ok .cont, hq => exact False.elim hq
    | .ok (.ret u), ⟨v, M', os, bare, un, ok', r', q⟩ =>
      dsimp only at q
      subst q
      obtain rfl : u = Value.bool true := r'
      refine ⟨rfl, OldK.of_keep fun b o e => ?_, os, bare⟩
      cases q : M b with
      | none => exact un.keep b o e q (none0 b) (fun z => nomatch z)
      | some t =>
        rcases hO b with z | ⟨ob, xs, z⟩
        · rw [q] at z; cases z
        · have z2 := un.frzs b ob _ z
          obtain ⟨e1, _⟩ := ok b _ z
          obtain ⟨e2, _⟩ := ok' b _ z2
          rw [e] at e1
          cases e1
          exact e2
  cases hk : K.lookup a with
  | some o =>
    have e := KX a o hk
    rw [ha] at e
    cases e
    exact main (fun _ => none) (fun _ => .inl rfl) (.inr ⟨vs, _, hk, rv, by rw [List.length_map]; exact hl⟩) (fun b u z => nomatch (show none = some u from z)) (fun b z => absurd rfl z) fun z => absurd rfl z
  | none =>
    have at_a : ∀ {b : Addr} {u : HO}, (if b = a then some (HO.frz { cls := .type "list", data := .seq vs.toArray } (.lst (ns.map V.int))) else none) = some u → b = a ∧ u = .frz { cls := .type "list", data := .seq vs.toArray } (.lst (ns.map V.int)) := fun {b u} z => by
      by_cases hb : b = a
      · rw [if_pos hb] at z; exact ⟨hb, (Option.some.inj z).symm⟩
      · rw [if_neg hb] at z; cases z
    refine main (fun b => if b = a then some (.frz { cls := .type "list", data := .seq vs.toArray } (.lst (ns.map V.int))) else none) (fun b => ?_) (.inl (.inr ⟨_, if_pos rfl⟩)) (fun b u z => ?_) (fun b z => ?_) fun _ => hk
    · by_cases hb : b = a
      · exact .inr ⟨_, _, if_pos hb⟩
      · exact .inl (if_neg hb)
    · obtain ⟨rfl, rfl⟩ := at_a z
      exact ⟨ha, by rw [List.length_map]; exact hl, vs, _, rv, ha⟩
    · by_cases hb : b = a
      · exact hb
      · exact absurd (if_neg hb) z
/-- what k_head leaves, from the law's own def -/
theorem walk_G {l : PySem.W.OpenLaw} {n k : Nat} {q : Program} {loose : List Str} {XP : (Str → Option Value) → Heap → Prop} {YP : World → Heap → Prop} {d : DefRec} {K : Params → PySem.W.Frag} {g : List PyData → Option PyData} {x : Str}
    (hn : l.most = some n) (hn2 : n ≤ sizeLine) (hdf : d.params.defaults = []) (hr : Room k callerA) (hY : ∀ (w : World) (h : Heap), YP w h → (K w.params).In h)
    (F : ∀ (w : World) (mg : Str → Option Value) (fa : Addr) (h : Heap), (K w.params).In h → h.Ns mainGlobals mg → mg d.name = some (.ref fa) →
      ∃ fd : FuncData, (∀ (s : Shared) (u : Value), BindsTo s fd ⟨[u], []⟩ [(x, u)]) ∧ ∀ base : Heap, (K w.params).In base → base.Ns mainGlobals mg → FnG l.prog w (K w.params) mg base k fa fd [x] (spP (K w.params) 1 g))
    (ans : ∀ ns : List Int, ns.length ≤ n → g [.list (ns.map .int)] = some (.bool true)) : PySem.W.WalkO q loose XP YP l.row.toRowW d [] (fun f vs => PySem.call f vs) := by
  refine Att.attach_call hn hdf fun w s₀ s₁ mg mb fa o pm cd doc a vs ns G Y ho hd hcd hmg hobj hints hlen hg => ?_
  obtain ⟨fd, hb, hF⟩ := F w mg fa _ (hY w _ Y) G.T.g hmg
  exact script_G (hY w _ Y) G.T.g G.T.b G.T.builtins G.T.nolimit hg hobj hints (Nat.le_trans hlen hn2) hr hF hb (ans ns hlen)
/-! ### list(range(..)) -/
section
variable {X : Cx} {e : Expr} {pos p : Pos} {bb : Bool}
def rgOk (a b : Int) : Bool := decide (0 ≤ a ∧ a ≤ 100000 ∧ 0 ≤ b ∧ b ≤ 100000)
def rg1 : PyData → Option (List PyData)
  | .int b => if rgOk 0 b = true then some (ups 0 b.toNat) else none
  | _ => none
theorem rg_da {K : PySem.W.Frag} {G : Hp} (a b : Int) : Da K G (rgV a b) (ups a (b - a).toNat) := Da.of_map (fun i => .ii _) _
theorem l_listRg {a : Expr} {q : Pos} {fa : FE PyData} (hc : X.calm = true) (hg : Gl X "list") (hm : X.mg "list" = none) (hgr : Gl X "range") (hmr : X.mg "range" = none) (ha : PE X a (tE X.K bb fa))
    (n1 : starEach [a] X.env = (false, eval a X.env) :: starEach [] X.env := by rfl) (n2 : starEach [.Call (.Name "range" q) [a] [] p] X.env = (false, eval (.Call (.Name "range" q) [a] [] p) X.env) :: starEach [] X.env := by rfl) {pl : Pos} :
    PE X (.Call (.Name "list" pl) [.Call (.Name "range" q) [a] [] p] [] pos) (tF X.K bb (thnE fa fun x => liftO (rg1 x))) := PE.weak (pe_listRg hc hg hm (prg_1 hgr hmr ha n1) n2) fun σ H Q ⟨G, ρ, d, ρ', E, ef, k⟩ => by
  obtain ⟨x, ρ1, h1, h2⟩ := thnE_of ef
  obtain ⟨h3, rfl⟩ := liftO_of h2
  refine ⟨G, ρ, x, ρ', E, h1, fun v G1 H1 t1 o1 E1 d1 => ?_⟩
  unfold rg1 at h3
  split at h3
  · obtain ⟨h4, rfl⟩ := ite_p h3
    have h5 := of_decide_eq_true h4
    refine ⟨_, dt_int d1, RgOk.of_le (by omega) (by omega) (by omega) (by omega), fun l hl => ?_⟩
    have da := rg_da (K := X.K) (G := G1) 0 ‹Int›
    rw [Int.sub_zero] at da
    exact k l _ G1 _ (tr_back t1 hl) (E1.gn hl) upd_same da (t1.trans (tr_mk0 (ow := nobody) hl) fun _ _ _ q => q.elim) o1 (E1.tr (tr_mk0 hl) (ex_new E1.ex hl))
  · cases h3
end
end Tw

set_option Elab.async false
set_option linter.all false
set_option maxRecDepth 100000
set_option maxHeartbeats 2000000
namespace Tw
open PySem PySem.Spec PyProof.Rows L2
open Evl (Ex)
/-! ### t[::-1] -/
section
variable {prog : Program} {w : World} {A : Around} {E : Value → Shared → Prop} {s : Shared}
theorem fm_congr {α β : Type} {f g : α → Option β} : ∀ {l : List α}, (∀ x ∈ l, f x = g x) → l.filterMap f = l.filterMap g
  | [], _ => rfl
  | x :: l, h => by
    rw [List.filterMap_cons, List.filterMap_cons, h x List.mem_cons_self, fm_congr fun y hy => h y (List.mem_cons_of_mem _ hy)]
theorem back_pick (xs : Array Value) : ((List.range xs.size).filterMap fun (k : Nat) => xs[((xs.size : Int) - 1 + (k : Int) * -1).toNat]?).toArray = xs.toList.reverse.toArray := by
  have e : (List.range xs.size).filterMap (fun (k : Nat) => xs[((xs.size : Int) - 1 + (k : Int) * -1).toNat]?) = ((List.range xs.size).map fun k => xs.size - 1 - k).filterMap (xs[·]?) := by
    rw [List.filterMap_map]
    apply fm_congr
    intro k hk
    have h1 := List.mem_range.mp hk
    show xs[((xs.size : Int) - 1 + (k : Int) * -1).toNat]? = xs[xs.size - 1 - k]?
    rw [show ((xs.size : Int) - 1 + (k : Int) * -1).toNat = xs.size - 1 - k by omega]
  rw [e, PySem.W.krv_range, List.filterMap_reverse, PySem.W.krv_all]
theorem back_applied {sl : Addr} {u : Tok} {n : Nat} {Q : Int × Int × Nat → Shared → Prop} (hs : s.heap.IsSliceOf sl .none .none (.int (-1) u)) (h : Q ((n : Int) - 1, -1, n) s) :
    wpAny (model prog w) A (Builtin.Slice.sliceApplied (.ref sl) (pure (n : Int))) Q E s := by
  obtain ⟨os, hos, hcs, hds⟩ := id hs
  unfold Builtin.Slice.sliceApplied Builtin.Slice.sliceFields
  refine wpAny_bind (wpAny_bind (wpAny_field hos hds (x := .none) rfl (wpAny_bind (wpAny_field hos hds (x := .none) rfl (wpAny_bind (wpAny_field hos hds (x := .int (-1) u) rfl (wpAny_pure ?_)))))))
  refine wpAny_bind (slicePart_int ?_)
  show wpAny _ _ (if ((-1 : Int) == 0) = true then _ else _) _ _ s
  rw [if_neg (by decide)]
  refine wpAny_bind (slicePart_none (wpAny_bind (slicePart_none (wpAny_bind (wpAny_pure ?_)))))
  have e1 : Builtin.Slice.sliceAdjust none none (-1) (n : Int) = ((n : Int) - 1, -1) := rfl
  have e2 : Builtin.Slice.slicePlaces ((n : Int) - 1) (-1) (-1) = n := by
    unfold Builtin.Slice.slicePlaces
    have h1 : ¬ ((-1 : Int) > 0) := by decide
    rw [if_neg h1]
    by_cases h0 : (n : Int) - 1 > -1
    · rw [if_pos h0]
      have e : ((n : Int) - 1 - -1 - 1) / - -1 + 1 = (n : Int) := by
        rw [show (- -1 : Int) = 1 by decide, Int.ediv_one]
        omega
      rw [e, Int.toNat_natCast]
    · rw [if_neg h0]
      have : n = 0 := by omega
      subst this
      rfl
  show wpAny _ _ (match Builtin.Slice.sliceAdjust none none (-1) (n : Int) with | (lo, hi) => pure (lo, (-1 : Int), Builtin.Slice.slicePlaces lo hi (-1))) _ _ s
  rw [e1]
  show wpAny _ _ (pure ((n : Int) - 1, (-1 : Int), Builtin.Slice.slicePlaces ((n : Int) - 1) (-1) (-1))) _ _ s
  rw [e2]
  exact wpAny_pure h
theorem back_tuple {t sl : Addr} {items : Array Value} {u : Tok} {Q : Value → Shared → Prop} (ht : IsTup s.heap t items) (hs : s.heap.IsSliceOf sl .none .none (.int (-1) u))
    (h : Q (.ref s.heap.objs.size) { s with heap := s.heap.push { cls := .type "tuple", data := .seq items.toList.reverse.toArray } }) (hsz : items.size ≤ sizeLine) : wpAny (model prog w) A (getItem (.ref t) (.ref sl)) Q E s := by
  have ht2 : PySem.sizeOk (.seq items.toList.reverse.toArray) := by
    show items.toList.reverse.toArray.size ≤ sizeLine
    rw [List.size_toArray, List.length_reverse, Array.length_toList]
    exact hsz
  obtain ⟨os, hos, hcs, hds⟩ := id hs
  have hTs : s.TypeIs (.ref sl) "slice" := ⟨os, hos, hcs⟩
  unfold getItem
  try with_reducible refine wpAny_holding ?_
  first | refine wpAny_bind (wpAny_pure ?_) | skip
  refine wpAny_bind (wpAny_sequenceKey ht.typeIs (by decide) ?_)
  refine wpAny_bind (wpAny_callSpecial?_slot (name := Str.ofString "__getitem__") ht.typeIs PyProof.Rows.slot_tuple_getitem (wpAny_call_entry PyProof.Rows.slot_tuple_getitem ht.typeIs entry_tuple_getitem ?_ (args_tuple_getitem _ _)))
  refine wpAny_bind (m := Builtin.Tuple.tupleItemsOf (.ref t)) (tupleItemsOf_ ht ?_)
  refine wpAny_bind (wpAny_typeOf hTs ?_)
  rw [if_pos (by decide)]
  refine wpAny_bind (back_applied hs ?_)
  have hno : ¬ (((items.size : Int) - 1 == 0 && (-1 : Int) == 1 && items.size == items.size) = true) := by
    rw [show ((-1 : Int) == 1) = false from rfl, Bool.and_false, Bool.false_and]
    exact Bool.false_ne_true
  show wpAny _ _ (if ((items.size : Int) - 1 == 0 && (-1 : Int) == 1 && items.size == items.size) = true then _ else _) _ _ s
  rw [if_neg hno, back_pick]
  first
    | exact wpAny_bind (m := Builtin.Tuple.tupleExact _) (wpAny_newObj_type (wpAny_pure ⟨_, rfl, wpAny_pure h⟩) ht2)
    | exact wpAny_bind (m := Builtin.Tuple.tupleExact _) (wpAny_newObj_type (wpAny_bind (wpAny_pure (wpAny_pure ⟨_, rfl, wpAny_pure h⟩))) ht2)
    | exact wpAny_bind (wpAny_bind (m := Builtin.Tuple.tupleExact _) (wpAny_newObj_type (wpAny_pure (wpAny_pure ⟨_, rfl, wpAny_pure h⟩)) ht2))
    | exact wpAny_bind (wpAny_bind (m := Builtin.Tuple.tupleExact _) (wpAny_newObj_type (wpAny_pure ⟨_, rfl, wpAny_pure h⟩) ht2))
end
section
variable {X : Cx} {e a b : Expr} {bb : Bool} {f : FE PyData} {pos : Pos} {K : PySem.W.Frag}
def tRev (K : PySem.W.Frag) (te : TE) : TE := fun σ H Q => te σ H fun x H1 => ∃ a, x = .ref a ∧ ((∃ xs, SqL K H1 a xs ∧ ∀ p, H1 p = none → Q (.ref p) (upd H1 p (.lst xs.reverse))) ∨ (∃ xs, SqT K H1 a xs ∧ NewT H1 Q xs.reverse))
theorem pe_rev {te : TE} {k : Nat} {p1 p2 p3 : Pos} (he : PE X e te) : PE X (.Subscript e (.Slice none none (some (.UnaryOp .USub (.Constant (.int 1) k p1) p2)) p3) pos) (tRev X.K te) := ⟨fun pins s σ H Q I h => by
  refine Subscript_ (thn (he.run pins s σ H _ I h) fun v s1 hz => ?_)
  obtain ⟨x, H1, I1, r1, a, ex, q⟩ := hz
  subst ex
  cases r1
  have st1 : PO X (some (.UnaryOp .USub (.Constant (.int 1) k p1) p2)) (tPart (tUn (rU fun i => .int (-i)) (tC (.int 1)))) := po_some (pe_un un_neg pe_int)
  refine wpAny_Slice (thn (po_none.run pins s1 σ H1 (fun o H2 => o = none ∧ H2 = H1) I1 ⟨rfl, rfl⟩) fun vl s2 hz => ?_)
  obtain ⟨_, _, I2, pl, rfl, rfl⟩ := hz
  refine thn (po_none.run pins s2 σ _ (fun o H3 => o = none ∧ H3 = _) I2 ⟨rfl, rfl⟩) fun vu s3 hz => ?_
  obtain ⟨_, _, I3, pu, rfl, rfl⟩ := hz
  refine thn (st1.run pins s3 σ _ (fun o H4 => o = some (-1) ∧ H4 = _) I3 ⟨1, rfl, -1, rfl, rfl, rfl⟩) fun vs s4 hz => ?_
  obtain ⟨_, _, I4, ps, rfl, rfl⟩ := hz
  have I5 : Inv X pins σ _ { s4 with heap := s4.heap.push { cls := .type "slice", data := .fields #[vl, vu, vs] } } := I4.kept (t' := s4.toks) fun b ob q => Heap.get?_push_of_some _ q
  show wpAny (model X.prog X.w) X.A (subscriptTail e (.Slice none none (some (.UnaryOp .USub (.Constant (.int 1) k p1) p2)) p3) (.ref a) (.ref s4.heap.objs.size)) (EP X pins σ Q) X.xe { s4 with heap := s4.heap.push { cls := .type "slice", data := .fields #[vl, vu, vs] } }
  rcases q with ⟨xs, hx, q⟩ | ⟨xs, hx, q⟩
  · obtain ⟨its, r, ht, hz⟩ := I5.list hx
    refine tail_any (ops := [.ref a, .ref s4.heap.objs.size]) ht.isList.typeIs (PySem.slot_list_getitem.lookup) ?_ (by with_unfolding_all rfl)
    refine wpAny_getItem_list_slice ht.isList (Heap.IsSliceOf.new _ vl vu vs) pl pu ps (by decide) ?_ (by rw [List.size_toArray, ← r.length]; exact hz)
    rw [PySem.W.krv_pick]
    refine ⟨.ref _, _, I5.laid (t' := s4.toks) (o := .lst xs.reverse) (fun b ob q => Heap.get?_push_of_some _ q) (Nat.le_refl _) ?_, rfl, q _ (I5.hok.fresh (Nat.le_refl _))⟩
    exact ⟨by rw [List.length_reverse]; exact hz, _, 0, r.reverse, Heap.get?_push_size _ rfl⟩
  · obtain ⟨its, r, ht, hz⟩ := I5.tuple hx
    cases pl
    cases pu
    cases ps with
    | int i u =>
      refine tail_any (ops := [.ref a, .ref s4.heap.objs.size]) ht.typeIs (PyProof.Rows.slot_tuple_getitem.lookup) ?_ (by with_unfolding_all rfl)
      refine back_tuple ht (Heap.IsSliceOf.new ..) ?_ (by rw [List.size_toArray, ← r.length]; exact hz)
      exact newT I5 (by rw [List.length_reverse]; exact hz) r.reverse q⟩
def revD : PyData → Option PyData
  | .list ds => some (.list ds.reverse)
  | .tuple ds => some (.tuple ds.reverse)
  | _ => none
theorem e_rev {k : Nat} {p1 p2 p3 : Pos} (he : PE X e (tE X.K bb f)) : PE X (.Subscript e (.Slice none none (some (.UnaryOp .USub (.Constant (.int 1) k p1) p2)) p3) pos) (tE X.K bb (fUn revD f)) :=
  PE.weak (pe_rev he) fun σ H Q ⟨G, ρ, d, ρ', E, ef, k⟩ => by
    obtain ⟨x, ρ1, h1, h2⟩ := thnE_of ef
    obtain ⟨h5, rfl⟩ := liftO_of h2
    refine ⟨G, ρ, x, ρ', E, h1, fun v G1 H1 t1 o1 E1 d1 => ?_⟩
    unfold revD at h5
    split at h5
    · cases h5
      obtain ⟨a, xs, rfl, hx, dx⟩ := dt_list d1
      refine ⟨a, rfl, .inl ⟨xs, (hx.mono E1.ex).sq, fun p hp => ?_⟩⟩
      have t : Tr nobody G1 H1 (upd G1 p (.lst xs.reverse)) (upd H1 p (.lst xs.reverse)) := Tr.new hp E1.ex
      exact k _ _ _ (t1.trans t fun _ _ _ q => q.elim) o1 (E1.tr t (ex_upd E1.ex)) (.ll (RL.of upd_same) (dx.rev.mono t.g))
    · cases h5
      obtain ⟨a, xs, rfl, hx, dx⟩ := dt_tup d1
      refine ⟨a, rfl, .inr ⟨xs, Evl.ex_t E1.ex hx, fun p o hp ho => ?_⟩⟩
      have t : Tr nobody G1 H1 (upd G1 p (.frz o (.tup xs.reverse))) (upd H1 p (.frz o (.tup xs.reverse))) := Tr.new hp E1.ex
      exact k _ _ _ (t1.trans t fun _ _ _ q => q.elim) o1 (E1.tr t (ex_upd E1.ex)) (.tt (PTu.new ho) (dx.rev.mono t.g))
    · cases h5
/-! ### in, {}, is -/
def atomsAll : List PyData → Bool
  | [] => true
  | d :: ds => atom d && atomsAll ds
def inA (x : PyData) (ys : List PyData) : Bool := ys.any fun y => PyData.eqv y x
def inD (neg : Bool) : PyData → PyData → Option PyData := fun d e => (itemsOf e).bind fun ys => if (atom d && atomsAll ys) = true then some (.bool (if neg = true then !inA d ys else inA d ys)) else none
theorem eqv_atom {G : Hp} {v u : V} {d e : PyData} (h : Dt K G v d) (h' : Dt K G u e) (a : atom d = true) (b : atom e = true) : eqV v u = PyData.eqv d e ∧ flatV v = true ∧ flatV u = true := by
  cases h <;> cases h' <;> first | (cases a; done) | (cases b; done) | exact ⟨by simp only [eqV, PyData.eqv], rfl, rfl⟩
theorem in_flat {G : Hp} {v : V} {d : PyData} (h : Dt K G v d) (a : atom d = true) : ∀ {us : List V} {ys : List PyData}, Da K G us ys → atomsAll ys = true → inV v us = inA d ys ∧ us.all flatV = true
  | _, _, .nil, _ => ⟨rfl, rfl⟩
  | _, _, .cons h1 t, q => by
    have q2 := Bool.and_eq_true_iff.mp q
    obtain ⟨i1, i2⟩ := in_flat h a t q2.2
    obtain ⟨e1, e2, e3⟩ := eqv_atom h1 h q2.1 a
    have i1' : List.any _ _ = List.any _ _ := i1
    refine ⟨?_, ?_⟩
    · show List.any (_ :: _) _ = List.any (_ :: _) _
      rw [List.any_cons, List.any_cons, e1, i1']
    · rw [List.all_cons, e2, i2]; rfl
theorem d_in (neg : Bool) : OpD K (rIn K neg) (inD neg) := fun G H x y d e z Q ex hd he hz k => by
  obtain ⟨ys, h1, h2⟩ := Option.bind_eq_some_iff.mp hz
  obtain ⟨h3, rfl⟩ := ite_p h2
  have h4 := Bool.and_eq_true_iff.mp h3
  have fx : flatV x = true := (eqv_atom hd hd h4.1 h4.1).2.1
  unfold itemsOf at h1
  split at h1
  · cases h1
    obtain ⟨a, us, rfl, hu, du⟩ := dt_list he
    obtain ⟨i1, i2⟩ := in_flat hd h4.1 du h4.2
    refine ⟨a, us, rfl, .inl (hu.mono ex).sq, fx, i2, ?_⟩
    rw [i1]
    exact k _ G H .refl ex (.bb _)
  · cases h1
    obtain ⟨a, us, rfl, hu, du⟩ := dt_tup he
    obtain ⟨i1, i2⟩ := in_flat hd h4.1 du h4.2
    refine ⟨a, us, rfl, .inr (Evl.ex_t ex hu), fx, i2, ?_⟩
    rw [i1]
    exact k _ G H .refl ex (.bb _)
  · cases h1
theorem e_dict0 : PE X (.Dict [] [] pos) (tE X.K bb (ret (.dict []))) := PE.weak pe_dnewK fun σ H Q ⟨G, ρ, d, ρ', E, ef, k⟩ => by
  obtain ⟨rfl, rfl⟩ := ret_of ef
  intro p hp
  have t : Tr nobody G H (upd G p (.dK [])) (upd H p (.dK [])) := Tr.new hp E.ex
  exact k _ _ _ t.none (fun _ q => q) (E.tr t (ex_upd E.ex)) (.dd (kvs := []) (ds := []) (.inl upd_same) .nil)
def isNoneD : PyData → PyData → Option PyData := fun d e => match e with
  | .none => some (.bool (match d with
    | .none => true
    | _ => false))
  | _ => none
def notNoneD : PyData → PyData → Option PyData := fun d e => match e with
  | .none => some (.bool (match d with
    | .none => false
    | _ => true))
  | _ => none
def rIsNon : R2 := fun x y H Q => y = .non ∧ Q (.bl (decide (x = .non))) H
def rNotNon : R2 := fun x y H Q => y = .non ∧ Q (.bl (!decide (x = .non))) H
theorem d_isN : OpD K rIsNon isNoneD := fun G H x y d e z Q ex hd he hz k => by
  unfold isNoneD at hz
  split at hz
  · refine ⟨dt_none he, k _ G H .refl ex ?_⟩
    cases hz
    cases hd <;> exact .bb _
  · cases hz
theorem d_notN : OpD K rNotNon notNoneD := fun G H x y d e z Q ex hd he hz k => by
  unfold notNoneD at hz
  split at hz
  · refine ⟨dt_none he, k _ G H .refl ex ?_⟩
    cases hz
    cases hd <;> exact .bb _
  · cases hz
def isB : PyData → PyData → Option PyData
  | .bool a, .bool b => some (.bool (decide (a = b)))
  | _, _ => none
theorem d_isB : OpD K rIsB isB := fun G H x y d e z Q ex hd he hz k => by
  unfold isB at hz
  split at hz
  · cases hz
    exact ⟨_, _, dt_bool hd, dt_bool he, k _ G H .refl ex (.bb _)⟩
  · cases hz
end
end Tw

set_option Elab.async false
set_option linter.all false
set_option maxRecDepth 100000
set_option maxHeartbeats 2000000
namespace Tw
open PySem PySem.Spec PyProof.Rows L2
open Evl (Ex)
/-! ### comprehensions of two clauses -/
def l2F (ft : FG) (tt : FE Bool) (fi1 : FE (List PyData)) (ft1 : FG) (tt1 : FE Bool) (fe : FE PyData) (vs vs1 : List Nat) : List PyData → FE (List PyData)
  | [], ρ => some ([], ρ)
  | d :: ds, ρ => (ft d ρ).bind fun ρ1 => (tt ρ1).bind fun p => if p.1 = true then (fi1 p.2).bind fun q => (lcF ft1 tt1 fe vs1 q.1 (wipeR q.2 vs1)).bind fun r => (l2F ft tt fi1 ft1 tt1 fe vs vs1 ds (wipeR r.2 vs)).map fun z => (r.1 ++ z.1, z.2)
    else l2F ft tt fi1 ft1 tt1 fe vs vs1 ds (wipeR p.2 vs)
def fL2 (fi : FE (List PyData)) (ft : FG) (tt : FE Bool) (fi1 : FE (List PyData)) (ft1 : FG) (tt1 : FE Bool) (fe : FE PyData) (vs vs1 : List Nat) : FE (List PyData) := fun ρ => (fi ρ).bind fun p =>
  (l2F ft tt fi1 ft1 tt1 fe vs vs1 p.1 (wipeR p.2 vs)).bind fun q => if sizeOk q.1.length = true then some (q.1, backR p.2 q.2 vs) else none
theorem wipe2 {σ : L2.St} {vs vs1 : List Nat} {n : Nat} (hn : σ.length = n) (hv : ∀ i ∈ vs1, i ∈ vs) : wipe (wipe σ vs1) vs = wipe σ vs :=
  wipe_eq (σ := σ) hn (by rw [wipe_length, hn]) fun j hj => by
    have h1 := of_decide_eq_true (List.mem_filter.mp hj).2
    rw [wipe_at h1, wipe_at fun z => h1 (hv j z)]
section
variable {X : Cx} {e elt tg iter tg1 iter1 : Expr} {ifs ifs1 : List Expr} {pos : Pos} {bb : Bool}
theorem l2_run {wk wk1 : Bool} {n : Nat} {fi fi1 : FE (List PyData)} {ft ft1 : FG} {tt tt1 : FE Bool} {fe : FE PyData} {vs vs1 : List Nat} (hv : ∀ i ∈ vs1, i ∈ vs) {σ : L2.St} {H : Hp} {Q : VK} (hn : σ.length = n) (h : tF X.K bb (fL2 fi ft tt fi1 ft1 tt1 fe vs vs1) σ H Q) :
    tLc2 (tIw wk X.K bb fi) (tGw wk X.K (compl n vs) ft) (tT X.K bb tt) (tIw wk1 X.K bb fi1) (tGw wk1 X.K (compl n vs1) ft1) (tT X.K bb tt1) (tE X.K bb fe) vs vs1 σ H Q := by
  obtain ⟨G, ρ, ys, ρ', E, ef, k⟩ := h
  obtain ⟨⟨ds, ρ1⟩, h1, h2⟩ := Option.bind_eq_some_iff.mp ef
  obtain ⟨⟨ys', ρe⟩, h4, h5⟩ := Option.bind_eq_some_iff.mp h2
  obtain ⟨hz, h6⟩ := ite_p h5
  cases h6
  dsimp only at k hz h4
  refine ⟨G, ρ, ds, ρ1, E, h1, fun J G1 H1 t1 o1 E1 W D hD => ?_⟩
  have E0 := env_wipe E1 vs
  have hD0 : H D = none := tr_back t1 hD
  have notD : ∀ {a : Addr}, own (wipe σ vs) (wipeR ρ1 vs) a → a ≠ D := fun {a} q z => by
    obtain ⟨xs, w⟩ := own_there E0 q
    rw [z, hD] at w
    cases w
  let Tx : Hp → Hp → Prop := fun G' H' => Tr (fun a => ows bb (wipe σ vs) (wipeR ρ1 vs) a ∨ a = D) G1 (upd H1 D (.lst [])) G' H'
  let Inv' : Nat → Hp → Prop := fun i H' => ∃ G' ρ2 acc accd rest, EnvOk X.K G' H' (wipe σ vs) ρ2 ∧ Tx G' H' ∧ G' D = none ∧ H' D = some (.lst acc) ∧ Da X.K G' acc accd ∧
    (∀ l, own (wipe σ vs) ρ2 l → own (wipe σ vs) (wipeR ρ1 vs) l) ∧ l2F ft tt fi1 ft1 tt1 fe vs vs1 (ds.drop i) ρ2 = some (rest, ρe) ∧ accd ++ rest = ys'
  have start0 : Inv' 0 (upd H1 D (.lst [])) := ⟨G1, wipeR ρ1 vs, [], [], ys', E0.tr (tr_mk0 hD) (ex_new E1.ex hD), .refl, E1.gn hD, upd_same, .nil, fun _ q => q, h4, rfl⟩
  refine ⟨fun i m H' => m = ds.length - i ∧ i ≤ ds.length ∧ Inv' i H', ⟨ds.length, by omega, Nat.zero_le _, start0⟩, ?_⟩
  rintro i m H' ⟨rfl, hi, G', ρ2, acc, accd, rest, E', t', gD, hDl, da, oo, hf, ea⟩
  have exG : Ex G1 H' := fun a u z => E'.ex a u (t'.g a u z)
  by_cases hlt : i < ds.length
  · have ed : ds.drop i = ds[i] :: ds.drop (i + 1) := List.drop_eq_getElem_cons hlt
    rw [ed] at hf
    obtain ⟨ρ3, q1, q2⟩ := Option.bind_eq_some_iff.mp hf
    obtain ⟨⟨b, ρ4⟩, q3, q4⟩ := Option.bind_eq_some_iff.mp q2
    refine .inr ⟨W.go i H' hlt exG, Inv' (i + 1), fun H2 z => ⟨ds.length - (i + 1), by omega, rfl, hlt, z⟩, fun x H2 y => ?_⟩
    obtain ⟨G3, t3, e3, d3⟩ := W.yld i H' x H2 ds[i] (List.getElem?_eq_getElem hlt) exG y G' t'.g E'.ex
    have E3 := E'.tr t3 e3
    refine ⟨G3, ρ2, ds[i], ρ3, E3, d3, q1, fun σ2 so E4 => ?_⟩
    have hl2 : σ2.length = n := by rw [so.l, wipe_length, hn]
    have ew : wipe σ2 vs = wipe σ vs := wipe_eq hn hl2 so.p
    refine ⟨ew, G3, ρ3, b, ρ4, E4, q3, fun G5 H5 t5 o5 E5 => ?_⟩
    have D2 : H2 D = some (.lst acc) := t3.h D _ hDl id
    have g3D : G3 D = none := t3.n D _ hDl gD id
    have own3 : ∀ {a : Addr}, own σ2 ρ3 a → own (wipe σ vs) (wipeR ρ1 vs) a := fun q => oo _ (so.o _ q)
    have nD3 : ¬ ows bb σ2 ρ3 D := fun q => notD (own3 q.2) rfl
    have D5 : H5 D = some (.lst acc) := t5.h D _ D2 nD3
    have g5D : G5 D = none := t5.n D _ D2 g3D nD3
    have T5 : Tx G5 H5 := (t'.trans t3 fun _ _ _ q => q.elim).trans t5 fun a _ _ q => .inl ⟨q.1, own3 q.2⟩
    have da5 := da.mono fun a u z => t5.g a u (t3.g a u z)
    have toW : ∀ {ρx : Rho} {a : Addr}, (∀ l, own σ2 ρx l → own σ2 ρ4 l) → own (wipe σ vs) (wipeR ρx vs) a → own (wipe σ vs) (wipeR ρ1 vs) a := fun {ρx a} hx q => by
      rw [← ew] at q
      exact own3 (o5 _ (hx _ (own_wipe q)))
    cases b with
    | false =>
      dsimp only
      rw [if_neg Bool.false_ne_true]
      refine ⟨G5, wipeR ρ4 vs, acc, accd, rest, ?_, T5, g5D, D5, da5, fun l q => toW (fun _ z => z) q, q4, ea⟩
      rw [← ew]
      exact env_wipe E5 vs
    | true =>
      dsimp only
      rw [if_pos rfl]
      obtain ⟨⟨es, ρ5⟩, q5, q6⟩ := Option.bind_eq_some_iff.mp (show ((fi1 ρ4).bind fun q => _) = some (rest, ρe) from q4)
      obtain ⟨⟨r0, ρ6⟩, q7, q8⟩ := Option.bind_eq_some_iff.mp q6
      obtain ⟨⟨z0, ρ7⟩, q9, q10⟩ := Option.map_eq_some_iff.mp q8
      cases q10
      dsimp only at q7 q9
      refine ⟨G5, ρ4, es, ρ5, E5, q5, fun J1 G6 H6 t6 o6 E6 W1 => ?_⟩
      have own4 : ∀ {a : Addr}, own σ2 ρ4 a → own (wipe σ vs) (wipeR ρ1 vs) a := fun q => own3 (o5 _ q)
      have nD4 : ¬ ows bb σ2 ρ4 D := fun q => notD (own4 q.2) rfl
      have D6 : H6 D = some (.lst acc) := t6.h D _ D5 nD4
      have g6D : G6 D = none := t6.n D _ D5 g5D nD4
      have T6 : Tx G6 H6 := T5.trans t6 fun a _ _ q => .inl ⟨q.1, own4 q.2⟩
      have own5 : ∀ {a : Addr}, own σ2 ρ5 a → own (wipe σ vs) (wipeR ρ1 vs) a := fun q => own4 (o6 _ q)
      let In1 : Nat → Hp → Prop := fun j Hj => ∃ Gj ρj acj acd ri, EnvOk X.K Gj Hj (wipe σ2 vs1) ρj ∧ Tx Gj Hj ∧ Ex G6 Gj ∧ Gj D = none ∧ Hj D = some (.lst acj) ∧ Da X.K Gj acj acd ∧
        (∀ l, own (wipe σ2 vs1) ρj l → own (wipe σ vs) (wipeR ρ1 vs) l) ∧ lcF ft1 tt1 fe vs1 (es.drop j) ρj = some (ri, ρ6) ∧ acd ++ (ri ++ z0) = ys'
      have st1 : In1 0 H6 := ⟨G6, wipeR ρ5 vs1, acc, accd, r0, env_wipe E6 vs1, T6, fun _ _ q => q, g6D, D6, da5.mono t6.g, fun l q => own5 (own_wipe q), q7, ea⟩
      refine ⟨fun j m Hj => m = es.length - j ∧ j ≤ es.length ∧ In1 j Hj, ⟨es.length, by omega, Nat.zero_le _, st1⟩, ?_⟩
      rintro j m Hj ⟨rfl, hj, Gj, ρj, acj, acd, ri, Ej, tj, gj6, gjD, hjD, daj, ooj, hfj, eaj⟩
      have exj : Ex G6 Hj := fun a u z => Ej.ex a u (gj6 a u z)
      by_cases hlj : j < es.length
      · have edj : es.drop j = es[j] :: es.drop (j + 1) := List.drop_eq_getElem_cons hlj
        rw [edj] at hfj
        obtain ⟨ρa, w1, w2⟩ := Option.bind_eq_some_iff.mp hfj
        obtain ⟨⟨b1, ρb⟩, w3, w4⟩ := Option.bind_eq_some_iff.mp w2
        refine .inr ⟨W1.go j Hj hlj exj, In1 (j + 1), fun H9 z => ⟨es.length - (j + 1), by omega, rfl, hlj, z⟩, fun x9 H9 y9 => ?_⟩
        obtain ⟨Ga, ta, ea9, d9⟩ := W1.yld j Hj x9 H9 es[j] (List.getElem?_eq_getElem hlj) exj y9 Gj gj6 Ej.ex
        refine ⟨Ga, ρj, es[j], ρa, Ej.tr ta ea9, d9, w1, fun σ3 so3 Ea => ?_⟩
        have hl3 : σ3.length = n := by rw [so3.l, wipe_length, hl2]
        have ew3 : wipe σ3 vs1 = wipe σ2 vs1 := wipe_eq hl2 hl3 so3.p
        refine ⟨ew3, Ga, ρa, b1, ρb, Ea, w3, fun Gb Hb tb ob Eb => ?_⟩
        have owna : ∀ {a : Addr}, own σ3 ρa a → own (wipe σ vs) (wipeR ρ1 vs) a := fun q => ooj _ (so3.o _ q)
        have nDa : ¬ ows bb σ3 ρa D := fun q => notD (owna q.2) rfl
        have Da9 : H9 D = some (.lst acj) := ta.h D _ hjD id
        have gaD : Ga D = none := ta.n D _ hjD gjD id
        have Db : Hb D = some (.lst acj) := tb.h D _ Da9 nDa
        have gbD : Gb D = none := tb.n D _ Da9 gaD nDa
        have Tb : Tx Gb Hb := (tj.trans ta fun _ _ _ q => q.elim).trans tb fun a _ _ q => .inl ⟨q.1, owna q.2⟩
        have toV : ∀ {ρx : Rho} {a : Addr}, (∀ l, own σ3 ρx l → own σ3 ρb l) → own (wipe σ2 vs1) (wipeR ρx vs1) a → own (wipe σ vs) (wipeR ρ1 vs) a := fun {ρx a} hx q => by
          rw [← ew3] at q
          exact owna (ob _ (hx _ (own_wipe q)))
        cases b1 with
        | false =>
          dsimp only
          rw [if_neg Bool.false_ne_true]
          refine ⟨Gb, wipeR ρb vs1, acj, acd, ri, ?_, Tb, fun a u z => tb.g a u (ta.g a u (gj6 a u z)), gbD, Db, daj.mono fun a u z => tb.g a u (ta.g a u z), fun l q => toV (fun _ z => z) q, w4, eaj⟩
          rw [← ew3]
          exact env_wipe Eb vs1
        | true =>
          dsimp only
          rw [if_pos rfl]
          obtain ⟨⟨y0, ρc⟩, w5, w6⟩ := Option.bind_eq_some_iff.mp (show ((fe ρb).bind fun q => _) = some (ri, ρ6) from w4)
          obtain ⟨⟨r1, ρd⟩, w7, w8⟩ := Option.map_eq_some_iff.mp w6
          cases w8
          refine ⟨Gb, ρb, y0, ρc, Eb, w5, fun v Gc Hc tc oc Ec dc => ?_⟩
          have ownb : ∀ {a : Addr}, own σ3 ρb a → own (wipe σ vs) (wipeR ρ1 vs) a := fun q => owna (ob _ q)
          have nDb : ¬ ows bb σ3 ρb D := fun q => notD (ownb q.2) rfl
          have Dc : Hc D = some (.lst acj) := tc.h D _ Db nDb
          have gcD : Gc D = none := tc.n D _ Db gbD nDb
          have len1 : acj.length < sizeLine := by
            have e1 : acj.length + (1 + r1.length + z0.length) = ys'.length := by
              rw [← eaj, daj.len]
              simp only [List.length_append, List.length_cons]
              omega
            have e2 := of_decide_eq_true hz
            exact Evl.sz_lt (by omega)
          refine ⟨acj, Dc, len1, ?_⟩
          have E7 : EnvOk X.K Gc (upd Hc D (.lst (acj ++ [v]))) σ3 ρc := {
            ex := ex_cell Ec.ex gcD
            len := Ec.len
            dat := Ec.dat
            mu := fun j d q => by
              obtain ⟨l, xs, w1, w2, w3, w4⟩ := Ec.mu j d q
              have nl : l ≠ D := notD (ownb (oc _ ⟨j, d, q, w1⟩))
              exact ⟨l, xs, w1, w2, by rw [upd_ne nl]; exact w3, w4⟩
            ne := Ec.ne }
          refine ⟨Gc, wipeR ρc vs1, acj ++ [v], acd ++ [y0], r1, ?_, ?_, fun a u z => tc.g a u (tb.g a u (ta.g a u (gj6 a u z))), gcD, upd_same, (daj.mono fun a u z => tc.g a u (tb.g a u (ta.g a u z))).app (Da.one dc), fun l q => toV (fun _ z => oc _ z) q, w7, ?_⟩
          · rw [← ew3]
            exact env_wipe E7 vs1
          · have T7 : Tx Gc Hc := Tb.trans tc fun a _ _ q => .inl ⟨q.1, ownb q.2⟩
            exact T7.trans (tr_cell gcD Dc) fun a _ _ q => .inr q
          · rw [List.append_assoc]
            exact eaj
      · have ej : j = es.length := by omega
        subst ej
        rw [List.drop_length] at hfj
        cases hfj
        refine .inl ⟨W1.stop Hj exj, Gj, wipeR ρ6 vs, acj, acd, z0, ?_, tj, gjD, hjD, daj, fun l q => ?_, q9, eaj⟩
        · have e9 := env_wipe Ej vs
          rw [wipe2 hl2 hv, ew] at e9
          exact e9
        · rw [← ew, ← wipe2 hl2 hv] at q
          exact ooj _ (own_wipe q)
  · have en : i = ds.length := by omega
    subst en
    rw [List.drop_length] at hf
    cases hf
    rw [List.append_nil] at ea
    subst ea
    refine .inl ⟨W.stop H' exG, k D acc G' H' hD0 gD hDl da ?_ (fun l q => o1 l (own_wipe (oo l (own_back q)))) (env_back E1 E' t'.g)⟩
    have tA : Tr (ows bb (wipe σ vs) (wipeR ρ1 vs)) G1 H1 G' H' := (tr_mk0 hD).trans t' fun x o q w => w.elim id fun z => by rw [z, hD] at q; cases q
    exact t1.trans tA fun x o q w => ⟨w.1, o1 _ (own_wipe w.2)⟩
variable {scope : Scope} {own : List (Str × Nat)} {vs1 : List Nat} {fi fi1 : FE (List PyData)} {ft ft1 : FG} {tt tt1 : FE Bool} {fe : FE PyData}
theorem l_lc2 {wk wk1 : Bool} (n : Nat) (hc : X.calm = true) (hN : X.N.Nodup) (hi : PI X tg iter (tIw wk X.K bb fi)) (ok : BlkOk X.N X.env.scope scope own) (hv : ∀ i ∈ vs1, i ∈ own.map (·.2))
    (hg : ∀ (s : Shared) (H : Hp) (C : Addr) (cl : List (Str × Addr)) (fp : List Addr), PG (X.blk s H scope (compEnvC scope cl C X.env) fp) tg (tGw wk X.K (compl n (own.map (·.2))) ft))
    (ht : ∀ (s : Shared) (H : Hp) (C : Addr) (cl : List (Str × Addr)) (fp : List Addr), PTs (X.blk s H scope (compEnvC scope cl C X.env) fp) ifs (tT X.K bb tt))
    (hi1 : ∀ (s : Shared) (H : Hp) (C : Addr) (cl : List (Str × Addr)) (fp : List Addr), PI (X.blk s H scope (compEnvC scope cl C X.env) fp) tg1 iter1 (tIw wk1 X.K bb fi1))
    (hg1 : ∀ (s : Shared) (H : Hp) (C : Addr) (cl : List (Str × Addr)) (fp : List Addr), PG (X.blk s H scope (compEnvC scope cl C X.env) fp) tg1 (tGw wk1 X.K (compl n vs1) ft1))
    (ht1 : ∀ (s : Shared) (H : Hp) (C : Addr) (cl : List (Str × Addr)) (fp : List Addr), PTs (X.blk s H scope (compEnvC scope cl C X.env) fp) ifs1 (tT X.K bb tt1))
    (he : ∀ (s : Shared) (H : Hp) (C : Addr) (cl : List (Str × Addr)) (fp : List Addr), PE (X.blk s H scope (compEnvC scope cl C X.env) fp) elt (tE X.K bb fe)) (hn : X.N.length = n := by rfl)
    (hs : ∀ x, foldedSetIterable iter X.env x = pure x := by intro _; rfl) (hs1 : ∀ env x, foldedSetIterable iter1 env x = pure x := by intro _ _; rfl) :
    PE X (.ListComp elt [⟨tg, iter, ifs, 0⟩, ⟨tg1, iter1, ifs1, 0⟩] scope pos) (tF X.K bb (fL2 fi ft tt fi1 ft1 tt1 fe (own.map (·.2)) vs1)) :=
  PE.weakI (pe_lc2 hc hN hi ok hv hg ht hi1 hg1 ht1 he hs hs1) fun pins s σ H Q I h => l2_run hv (I.len.trans hn) h
end
end Tw

set_option Elab.async false
set_option linter.all false
set_option maxRecDepth 100000
set_option maxHeartbeats 2000000
namespace Tw
open PySem PySem.Spec PyProof.Rows L2
open Evl (Ex)
section
variable {X : Cx} {P : List Nat} {pos : Pos} {e : Expr} {es : List Expr} {bb : Bool}
def fRetF (f : FE (List PyData)) : FS := fun ρ => (f ρ).map fun p => .rf p.1 p.2
theorem s_retF {f : FE (List PyData)} (h : PE X e (tF X.K bb f)) : PS X (.Return (some e) pos) (tS X.K P (fRetF f)) := PS.weak (ps_ret h) fun D σ H ⟨G, ρ, o, E, ef, k⟩ => by
  obtain ⟨⟨d, ρ'⟩, h1, rfl⟩ := Option.map_eq_some_iff.mp ef
  refine ⟨G, ρ, d, ρ', E, h1, fun p xs G' H' hp hG hH da t o E' => k p xs σ G' H' (.of t o) E' (.inr hp) (fun q => ?_) hG hH da⟩
  obtain ⟨ys, z⟩ := own_there E (o p q)
  rw [hp] at z
  cases z
def fRetO (i : Nat) : FS := fun ρ => match ρ[i]? with
  | some (.m (.l ds)) => some (.rf ds (ρ.set i .un))
  | _ => none
theorem s_retO (i : Nat) (h : PE X e (tVar i)) : PS X (.Return (some e) pos) (tS X.K P (fRetO i)) := PS.weak (ps_ret h) fun D σ H ⟨G, ρ, o, E, ef, k⟩ => by
  unfold fRetO at ef
  split at ef
  case h_2 => cases ef
  rename_i ds hi
  cases ef
  obtain ⟨l, xs, hσ, hG, hH, dx⟩ := E.muL hi
  have sub : ∀ {a : Addr}, own σ (ρ.set i .un) a → own σ ρ a ∧ a ≠ l := fun {a} ⟨j, es, w1, w2⟩ => by
    rcases set_get w1 with ⟨_, q⟩ | ⟨n, q⟩
    · cases q
    · exact ⟨⟨j, es, q, w2⟩, fun z => n (E.ne j i es ds l q hi (by rw [← z]; exact w2) hσ)⟩
  refine ⟨.ref l, hσ, k l xs σ G H ⟨.refl, fun a q => .inl (sub q).1, fun _ _ => rfl⟩ ⟨E.ex, by rw [List.length_set]; exact E.len, fun j d q => ?_, fun j d q => ?_, fun a b d1 d2 l' w1 w2 => ?_⟩ (.inl ⟨i, ds, hi, hσ⟩) (fun q => (sub q).2 rfl) hG hH dx⟩
  · rcases set_get q with ⟨_, q⟩ | ⟨_, q⟩
    · cases q
    · exact E.dat j d q
  · rcases set_get q with ⟨_, q⟩ | ⟨_, q⟩
    · cases q
    · exact E.mu j d q
  · rcases set_get w1 with ⟨_, q⟩ | ⟨_, w1⟩
    · cases q
    rcases set_get w2 with ⟨_, q⟩ | ⟨_, w2⟩
    · cases q
    exact E.ne a b d1 d2 l' w1 w2
/-- a def of data that hands back a new list -/
def spF (K : PySem.W.Frag) (n : Nat) (g : List PyData → Option (List PyData)) : Sp := fun vs H Q _ => ∃ (G : Hp) (ds : List PyData) (d : List PyData), Ex G H ∧ Da K G vs ds ∧ ds.length = n ∧ g ds = some d ∧
  ∀ p xs G' H', H p = none → G' p = none → H' p = some (.lst xs) → Da K G' xs d → Tr nobody G H G' H' → Ex G' H' → Q (.ref p) H'
def outF : Option Out → Option (List PyData)
  | some (.rf ds _) => some ds
  | _ => none
def runF (m : Nat) (fb : FS) (ds : List PyData) : Option (List PyData) := outF (fb (ds.map Sl.d ++ List.replicate (m - ds.length) Sl.un))
theorem fn_F {Pr : Program} {w : World} {K : PySem.W.Frag} {mg : Str → Option Value} {base : Heap} {x qual : Str} {st : Stmt} {f : Addr} {fd : FuncData} {N ps : List Str} {k : Nat} (F : Fun K x qual st f fd) (S : FnScope N ps (defScope st)) {fb : FS}
    (body : ∀ (cdv : Value) (A : Around) (outer : List Env) (s : Shared) (H : Hp), Here k (bx Pr w K mg base N qual st f cdv A outer s H) → PSs (bx Pr w K mg base N qual st f cdv A outer s H) (defBody st) (tS K [] fb)) : FnG Pr w K mg base (k + 1) f fd ps (spF K ps.length (runF N.length fb)) :=
  fn_G F S (fun vs H Q E ⟨G, ds, d, ex, da, hl, _⟩ => by rw [da.len, hl]) fun cdv A outer s H hh vs Q ⟨G, ds, d, ex, da, hl, hg, k⟩ => by
    refine ⟨_, body cdv A outer s H hh, ?_⟩
    unfold runF at hg
    have e1 : L2.start N vs = vs.map some ++ List.replicate (N.length - ds.length) none := by unfold L2.start; rw [da.len]
    rw [e1]
    have E : EnvOk K G H (vs.map some ++ List.replicate (N.length - ds.length) none) (ds.map Sl.d ++ List.replicate (N.length - ds.length) Sl.un) := env_args (env_un ex) da
    have hm : noM (ds.map Sl.d ++ List.replicate (N.length - ds.length) Sl.un) := noM_args noM_un ds
    cases ho : fb (ds.map Sl.d ++ List.replicate (N.length - ds.length) Sl.un) with
    | none => rw [ho] at hg; cases hg
    | some o =>
      rw [ho] at hg
      refine ⟨G, _, o, E, ho, ?_⟩
      cases o with
      | rf e r =>
        cases hg
        exact fun p xs σ' G' H' s' E' w1 w2 w3 w4 w5 => k p xs G' H' (w1.elim (fun q => (hm.own q).elim) id) w3 w4 w5 (s'.t.wide fun _ _ _ q => (hm.own q).elim) E'.ex
      | rt e r => cases hg
      | nx r => cases hg
      | bk r => cases hg
      | ct r => cases hg
variable {k : Nat} {f : Addr} {fd : FuncData} {ps : List Str} {x : Str} {p : Pos} {n : Nat}
def fCallF (n : Nat) (g : List PyData → Option (List PyData)) (r : FE (List PyData)) : FE (List PyData) := thnE r fun xs => liftO (if xs.length = n then g xs else none)
theorem l_callF {g : List PyData → Option (List PyData)} {ra : FE (List PyData)} (F : FnG X.prog X.w X.K X.mg X.base k f fd ps (spF X.K n g)) (hh : Here k X) (hg : Gl X x) (hm : X.mg x = some (.ref f)) (hk : PySem.W.keepIn X.K (.ref f) = true) (hb : Binds X.K fd ps [])
    (ha : PA X (e :: es) (tA X.K bb ra)) (hdb : (x == ("__debug__" : Str)) = false := by decide) (he : starEach (e :: es) X.env = (false, eval e X.env) :: starEach es X.env := by rfl) (hpl : (backTo pos (starEach es X.env)).any (·.1) = false := by rfl) :
    PE X (.Call (.Name x p) (e :: es) [] pos) (tF X.K bb (fCallF n g ra)) := PE.weak (call_G F hh hg hm hk hb ha hdb he hpl) fun σ H Q ⟨G, ρ, d, ρ', E, ef, kk⟩ => by
  obtain ⟨x, ρ1, h1, h2⟩ := thnE_of ef
  obtain ⟨h3, rfl⟩ := liftO_of h2
  split at h3
  case isFalse => cases h3
  rename_i hl
  refine ⟨G, ρ, x, ρ', E, h1, fun v G1 H1 t1 o1 E1 d1 => ⟨G1, x, d, E1.ex, d1, hl, h3, fun p xs G2 H2 hp hG hH da t2 ex2 => ?_⟩⟩
  exact kk p xs G2 H2 (tr_back t1 hp) hG hH da (t1.trans t2 fun _ _ _ q => q.elim) o1 (E1.tr t2 ex2)
/-- sorted(..), list(..), xs + ys, xs * n as new lists: the value is told to be new -/
def CallN (K : PySem.W.Frag) (r : List V → Hp → VK → Prop) (g : List PyData → Option (List PyData)) : Prop :=
  ∀ (G H : Hp) (xs : List V) (ds z : List PyData) (Q : VK), Ex G H → Da K G xs ds → g ds = some z → (∀ p ys, H p = none → Da K G ys z → Q (.ref p) (upd H p (.lst ys))) → r xs H Q
theorem callN_run {r : List V → Hp → VK → Prop} {g : List PyData → Option (List PyData)} {ra : FE (List PyData)} (hr : CallN X.K r g) {σ : L2.St} {H : Hp} {Q : VK} (h : tF X.K bb (thnE ra fun xs => liftO (g xs)) σ H Q) : tA X.K bb ra σ H fun vs H1 => r vs H1 Q := by
  obtain ⟨G, ρ, d, ρ', E, ef, k⟩ := h
  obtain ⟨x, ρ1, h1, h2⟩ := thnE_of ef
  obtain ⟨h5, rfl⟩ := liftO_of h2
  refine ⟨G, ρ, x, ρ', E, h1, fun v G1 H1 t1 o1 E1 d1 => ?_⟩
  refine hr G1 H1 v x d Q E1.ex d1 h5 fun p ys hp da => ?_
  exact k p ys G1 _ (tr_back t1 hp) (E1.gn hp) upd_same da (t1.trans (tr_mk0 (ow := nobody) hp) fun _ _ _ q => q.elim) o1 (E1.tr (tr_mk0 hp) (ex_new E1.ex hp))
theorem l_callB {id : String} {r : List V → Hp → VK → Prop} {g : List PyData → Option (List PyData)} {ra : FE (List PyData)} (hc : CallR X (.builtin id) r) (hr : CallN X.K r g) (hg : Gl X x) (hm : X.mg x = none)
    (hv : bootBuiltins x = some (.builtin id)) (ha : PA X (e :: es) (tA X.K bb ra)) (hn : x ≠ "__name__" := by decide) (hdb : (x == ("__debug__" : Str)) = false := by decide)
    (he : starEach (e :: es) X.env = (false, eval e X.env) :: starEach es X.env := by rfl) (hpl : (backTo pos (starEach es X.env)).any (·.1) = false := by rfl) : PE X (.Call (.Name x p) (e :: es) [] pos) (tF X.K bb (thnE ra fun xs => liftO (g xs))) :=
  PE.weak (pe_callB hc hg hm hv ha hn hdb he hpl) fun _ _ _ h => callN_run hr h
theorem l_callTy {T : String} {r : List V → Hp → VK → Prop} {g : List PyData → Option (List PyData)} {ra : FE (List PyData)} (hc : CallR X (.type T) r) (hr : CallN X.K r g) (hg : Gl X x) (hm : X.mg x = none)
    (hv : bootBuiltins x = some (.type T)) (ha : PA X (e :: es) (tA X.K bb ra)) (hn : x ≠ "__name__" := by decide) (hdb : (x == ("__debug__" : Str)) = false := by decide)
    (he : starEach (e :: es) X.env = (false, eval e X.env) :: starEach es X.env := by rfl) (hpl : (backTo pos (starEach es X.env)).any (·.1) = false := by rfl) : PE X (.Call (.Name x p) (e :: es) [] pos) (tF X.K bb (thnE ra fun xs => liftO (g xs))) :=
  PE.weak (pe_callTy hc hg hm hv ha hn hdb he hpl) fun _ _ _ h => callN_run hr h
def listN : List PyData → Option (List PyData)
  | [.list ds] => some ds
  | [.tuple ds] => some ds
  | _ => none
theorem n_list {K : PySem.W.Frag} : CallN K (rListD2 K) listN := fun G H xs ds z Q ex hd hz k => by
  unfold listN at hz
  split at hz
  · cases hz
    obtain ⟨v, rfl, h⟩ := da_one hd
    obtain ⟨a, ys, rfl, hy, dy⟩ := dt_list h
    exact ⟨a, ys, rfl, .inl (hy.mono ex).sq, fun l hl => k l ys hl dy⟩
  · cases hz
    obtain ⟨v, rfl, h⟩ := da_one hd
    obtain ⟨a, ys, rfl, hy, dy⟩ := dt_tup h
    exact ⟨a, ys, rfl, .inr (Evl.ex_t ex hy), fun l hl => k l ys hl dy⟩
  · cases hz
theorem e_globE {i : Int} (hg : Gl X x) (hm : ∃ t, X.mg x = some (.int i t)) (hd : (x == ("__debug__" : Str)) = false := by decide) : PE X (.Name x pos) (tE X.K bb (ret (.int i))) := by
  obtain ⟨t, hm⟩ := hm
  exact e_glob hg hm hd
theorem Here.mono {j k : Nat} (h : Here k X) (q : j ≤ k) : Here j X := ⟨h.g, h.r.mono q, h.c⟩
/-- a def as it is called -/
structure Cal (Pr : Program) (w : World) (K : PySem.W.Frag) (mg : Str → Option Value) (base : Heap) (k : Nat) (x : Str) (ps : List Str) (sp : Sp) (f : Addr) (fd : FuncData) : Prop where
  ok : FnG Pr w K mg base k f fd ps sp
  gl : mg x = some (.ref f)
  kp : PySem.W.keepIn K (.ref f) = true
  bd : Binds K fd ps []
theorem t_chain {a b c : Expr} {op op' : CmpOp} {r r' : R2} {g g' : PyData → PyData → Option PyData} {fa fb fc : FE PyData} (ho : OpR X (compareOp op) r) (ho' : OpR X (compareOp op') r') (hr : OpD X.K r g) (hr' : OpD X.K r' g')
    (ha : PE X a (tE X.K bb fa)) (hb : PE X b (tE X.K bb fb)) (hc : PE X c (tE X.K bb fc)) (hm : lastMarks [op, op'] [b, c] = false := by rfl) : PT X (.Compare a [op, op'] [b, c] pos) (tT X.K bb (fTst (fChain g g' fa fb fc))) :=
  PT.weak (pt_chain ho ho' ha hb hc hm) fun σ H Q h => by
    have h' := tst_run h
    exact chain_run hr hr' h'
end
end Tw

set_option Elab.async false
set_option linter.all false
set_option maxRecDepth 100000
set_option maxHeartbeats 2000000
namespace Tw
open PySem PySem.Spec PyProof.Rows L2
open Evl (Ex)
section
variable {X : Cx} {a b e : Expr} {pos : Pos} {bb : Bool} {fa fb fe : FE PyData} {P : List Nat} {K : PySem.W.Frag}
/-! ### x += e -/
def fAug (i : Nat) (g : PyData → PyData → Option PyData) (fe : FE PyData) : FS := fun ρ => match ρ[i]? with
  | some (.d x) => (fe ρ).bind fun p => (g x p.1).bind fun z => if i < p.2.length then some (.nx (p.2.set i (.d z))) else none
  | _ => none
theorem s_aug {i : Nat} {x : Str} {op : Operator} {r : R2} {g : PyData → PyData → Option PyData} {pos' : Pos} (hp : i ∉ P) (hN : X.N.Nodup) (hi : X.N[i]? = some x) (hx : Loc X.env.scope x) (ho : OpR X (inplaceOp op) r) (hr : OpD X.K r g) (he : PE X e (tE X.K bb fe))
    (hf : X.fn x = true ∨ X.env.scope.names.lookup x = some .local := by first | exact .inl rfl | exact .inr rfl) : PS X (.AugAssign (.Name x pos') op e pos) (tS X.K P (fAug i g fe)) :=
  PS.weak (ps_aug (ti := r) hN hi hx he ho hf) fun D σ H ⟨G, ρ, o, E, ef, k⟩ => by
    unfold fAug at ef
    split at ef
    case h_2 => cases ef
    rename_i d0 h0
    obtain ⟨⟨d, ρ1⟩, h1, h2⟩ := Option.bind_eq_some_iff.mp ef
    obtain ⟨z, h3, h4⟩ := Option.bind_eq_some_iff.mp h2
    obtain ⟨hl, rfl⟩ := ite_p h4
    obtain ⟨v, hv, dv⟩ := E.dat i d0 h0
    refine ⟨v, hv, G, ρ, d, ρ1, E, h1, fun u G1 H1 t1 o1 E1 d1 => ?_⟩
    refine hr G1 H1 v u d0 d z _ E1.ex (dv.mono t1.g) d1 h3 fun w G2 H2 t2 x2 d2 => ?_
    have E2 := E1.tr t2 x2
    exact k _ G2 H2 ((Stp.of t1 o1).trans ⟨t2.none, fun l q => .inl (own_set q), fun j hj => List.getElem?_set_ne fun z => hp (by rw [z]; exact hj)⟩) (E2.set hl d2)
/-! ### new lists by an operator -/
def OpN (K : PySem.W.Frag) (r : R2) (g : PyData → PyData → Option (List PyData)) : Prop :=
  ∀ (G H : Hp) (x y : V) (d e : PyData) (z : List PyData) (Q : VK), Ex G H → Dt K G x d → Dt K G y e → g d e = some z → (∀ p ys, H p = none → Da K G ys z → Q (.ref p) (upd H p (.lst ys))) → r x y H Q
def fOpN (g : PyData → PyData → Option (List PyData)) (fa fb : FE PyData) : FE (List PyData) := thnE fa fun x => thnE fb fun y => liftO (g x y)
theorem l_op {op : Operator} {r : R2} {g : PyData → PyData → Option (List PyData)} (ho : OpR X (binaryOp op) r) (hr : OpN X.K r g) (ha : PE X a (tE X.K bb fa)) (hb : PE X b (tE X.K bb fb)) :
    PE X (.BinOp a op b pos) (tF X.K bb (fOpN g fa fb)) := PE.weak (pe_op ho ha hb) fun σ H Q ⟨G, ρ, ds, ρ', E, ef, k⟩ => by
  obtain ⟨x, ρ1, h1, h2⟩ := thnE_of ef
  obtain ⟨y, ρ2, h3, h4⟩ := thnE_of h2
  obtain ⟨h5, rfl⟩ := liftO_of h4
  refine ⟨G, ρ, x, ρ1, E, h1, fun v G1 H1 t1 o1 E1 d1 => ⟨G1, ρ1, y, ρ', E1, h3, fun u G2 H2 t2 o2 E2 d2 => ?_⟩⟩
  refine hr G2 H2 v u x y ds Q E2.ex (d1.mono t2.g) d2 h5 fun p ys hp da => ?_
  have t3 : Tr nobody G2 H2 G2 (upd H2 p (.lst ys)) := tr_mk0 hp
  exact k p ys G2 _ (tr_back t1 (tr_back t2 hp)) (E2.gn hp) upd_same da ((t1.seq o1 t2).trans t3 fun _ _ _ q => q.elim) (fun l q => o1 l (o2 l q)) (E2.tr t3 (ex_new E2.ex hp))
/-- a list times an int -/
def rRepR (K : PySem.W.Frag) : R2 := fun x y H Q => ∃ l k xs, x = .ref l ∧ y = .int k ∧ RL K H l xs ∧ -(2 ^ 63) ≤ k ∧ k < 2 ^ 63 ∧ xs.length * k.toNat ≤ sizeLine ∧
  ∀ p, H p = none → Q (.ref p) (upd H p (.lst (List.replicate k.toNat xs).flatten))
theorem op_repR : OpR X (binaryOp .Mult) (rRepR X.K) := fun pins s σ H x y v u Q I rx ry h => by
  obtain ⟨l, k, xs, rfl, rfl, hH, h1, h2, hz, q⟩ := h
  cases rx
  obtain ⟨t, rfl⟩ := ry
  obtain ⟨z, its, n, r, hl, e⟩ := lstR I hH
  have hlen : its.toArray.size * k.toNat ≤ sizeLine := by rw [List.size_toArray, ← hl]; exact hz
  have hcap : ¬ its.toArray.size * k.toNat > (2 ^ 63 - 1) / 8 := by
    have : (sizeLine : Nat) ≤ (2 ^ 63 - 1) / 8 := by decide
    omega
  have hfit : ¬ (!Builtin.List.listFitsIndex k) = true := by rw [fitsIndex_both h1 h2]; exact Bool.false_ne_true
  have hlong : ¬ Builtin.List.listTooLong (its.toArray.size * k.toNat) = true := by rw [notLongL hlen]; exact Bool.false_ne_true
  have hnew : List.foldl (fun x1 x2 => x1 ++ x2) #[] (List.replicate (if its.toArray.isEmpty = true then 0 else k.toNat) its.toArray) = (List.replicate k.toNat its).flatten.toArray := by
    have f0 : ∀ m : Nat, List.foldl (fun x1 x2 => x1 ++ x2) #[] (List.replicate m its.toArray) = (List.replicate m its).flatten.toArray := fun m => by simpa using foldl_rep its m []
    rw [f0]
    cases its with
    | nil => simp
    | cons a r' => rw [if_neg (by simp)]
  refine wpAny_binaryOp_repeat_ref (T := "list") (U := "int") (by decide) ⟨_, e, rfl⟩ (fun s' => PySem.typeIs_int s' k t) noFill_list_mul F.fills_int_mul F.slot_int_rmul repeat_list F.slot_int_index.lookup
    (call_meets F.slot_int_rmul (PySem.typeIs_int s k t) F.entry_int_rmul (F.args_int_rmul_2 _ _) (int___rmul___int_list k t l its.toArray n)
      ⟨e, rfl, ⟨_, e, rfl⟩, call_meets F.slot_list_mul ⟨_, e, rfl⟩ F.entry_list_mul (F.args_list_mul_2 _ _) (AutoListH.list___mul___list_int_3 l its.toArray n k t hfit hcap hlong) ⟨e, ?_⟩⟩)
  rw [hnew]
  exact ⟨.ref _, _, I.lnew (t' := s.toks) (r.rep k.toNat) (by rw [PyProof.Rows.lm_len_rep_flat, Nat.mul_comm]; exact hz), rfl, q _ I.fresh⟩
theorem Da.rep {G : Hp} {xs : List V} {ds : List PyData} (h : Da K G xs ds) : ∀ n : Nat, Da K G (List.replicate n xs).flatten (List.replicate n ds).flatten
  | 0 => .nil
  | n + 1 => by
    rw [List.replicate_succ, List.replicate_succ, List.flatten_cons, List.flatten_cons]
    exact h.app (Da.rep h n)
def repN : PyData → PyData → Option (List PyData)
  | .list ds, .int k => if -(2 ^ 62) ≤ k ∧ k < 2 ^ 62 ∧ ds.length * k.toNat ≤ 100000 then some (List.replicate k.toNat ds).flatten else none
  | _, _ => none
theorem n_rep : OpN K (rRepR K) repN := fun G H x y d e z Q ex hd he hz k => by
  unfold repN at hz
  split at hz
  · obtain ⟨hb, rfl⟩ := ite_p hz
    obtain ⟨a, xs, rfl, hx, dx⟩ := dt_list hd
    exact ⟨a, _, xs, rfl, dt_int he, hx.mono ex, by omega, by omega, by rw [dx.len]; exact Evl.sz_of hb.2.2, fun p hp => k p _ hp (dx.rep _)⟩
  · cases hz
/-- list + list -/
def catN : PyData → PyData → Option (List PyData)
  | .list ds, .list es => if sizeOk (ds.length + es.length) = true then some (ds ++ es) else none
  | _, _ => none
theorem n_cat : OpN K (rCatR K) catN := fun G H x y d e z Q ex hd he hz k => by
  unfold catN at hz
  split at hz
  · obtain ⟨hs, rfl⟩ := ite_p hz
    obtain ⟨a, xs, rfl, hx, dx⟩ := dt_list hd
    obtain ⟨b, ys, rfl, hy, dy⟩ := dt_list he
    exact ⟨a, b, xs, ys, rfl, rfl, hx.mono ex, hy.mono ex, by rw [dx.len, dy.len]; exact sizeOk_le hs, fun p hp => k p _ hp (dx.app dy)⟩
  · cases hz
end
/-- how these reckon -/
theorem fAug_ok {i : Nat} {g : PyData → PyData → Option PyData} {fe : FE PyData} {ρ ρ1 : Rho} {x d z : PyData} (h0 : ρ[i]? = some (.d x)) (h1 : fe ρ = some (d, ρ1)) (h2 : g x d = some z) (h3 : i < ρ1.length) : fAug i g fe ρ = some (.nx (ρ1.set i (.d z))) := by
  unfold fAug
  rw [h0]
  dsimp only
  rw [h1, Option.bind_some]
  dsimp only
  rw [h2, Option.bind_some, if_pos h3]
end Tw

set_option Elab.async false
set_option linter.all false
set_option maxRecDepth 100000
set_option maxHeartbeats 2000000
namespace Tw
open PySem PySem.Spec PyProof.Rows L2
open Evl (Ex)
/-! ### a module's tuples -/
mutual
/-- what a module's value reads as, whatever the heap -/
inductive KD (K : PySem.W.Frag) : Value → PyData → Prop
  | nn : KD K .none .none
  | bb (b : Bool) : KD K (.bool b) (.bool b)
  | ii (i : Int) (t : Tok) : KD K (.int i t) (.int i)
  | ss (x : Str) (t : Tok) : KD K (.str x t) (.str x)
  | tt {a : Addr} {o : Obj} {its : Array Value} {n : Nat} {ds : List PyData} (h : K.lookup a = some o) (hn : o.dict = none) (hc : o.cls = .type "tuple") (hd : o.data = .seq its n) (hz : its.size ≤ sizeLine) (t : KDs K its.toList ds) : KD K (.ref a) (.tuple ds)
inductive KDs (K : PySem.W.Frag) : List Value → List PyData → Prop
  | nil : KDs K [] []
  | cons {u : Value} {us : List Value} {d : PyData} {ds : List PyData} (h : KD K u d) (t : KDs K us ds) : KDs K (u :: us) (d :: ds)
end
mutual
theorem KD.data {K : PySem.W.Frag} : ∀ {u : Value} {d : PyData}, KD K u d → ∃ v, RelV v u ∧ ∀ G, Dt K G v d
  | _, _, .nn => ⟨.non, rfl, fun _ => .nn⟩
  | _, _, .bb b => ⟨.bl b, rfl, fun _ => .bb b⟩
  | _, _, .ii i t => ⟨.int i, ⟨t, rfl⟩, fun _ => .ii i⟩
  | _, _, .ss x t => ⟨.str x, ⟨t, rfl⟩, fun _ => .ss x⟩
  | _, _, .tt h hn hc hd hz t => by
    obtain ⟨vs, r, q⟩ := KDs.data t
    exact ⟨.ref _, rfl, fun G => .tt (.inr ⟨_, _, _, h, hn, hc, hd, hz, r⟩) (q G)⟩
theorem KDs.data {K : PySem.W.Frag} : ∀ {us : List Value} {ds : List PyData}, KDs K us ds → ∃ vs, Vals vs us ∧ ∀ G, Da K G vs ds
  | _, _, .nil => ⟨[], .nil, fun _ => .nil⟩
  | _, _, .cons h t => by
    obtain ⟨v, r, q⟩ := KD.data h
    obtain ⟨vs, r2, q2⟩ := KDs.data t
    exact ⟨v :: vs, .cons r r2, fun G => .cons (q G) (q2 G)⟩
end
section
variable {X : Cx} {a b e : Expr} {es : List Expr} {pos p : Pos} {bb : Bool} {fa fb fe fi : FE PyData} {P : List Nat} {K : PySem.W.Frag} {x : Str}
theorem e_globT {d : PyData} (hg : Gl X x) (hm : ∃ u, X.mg x = some u ∧ KD X.K u d) (hd : (x == ("__debug__" : Str)) = false := by decide) : PE X (.Name x pos) (tE X.K bb (ret d)) := by
  obtain ⟨u, hm, k⟩ := hm
  obtain ⟨v, r, q⟩ := k.data
  exact e_con (pe_glob hg hm r hd) q
/-! ### is not, of truths -/
def notB : PyData → PyData → Option PyData
  | .bool a, .bool b => some (.bool (!decide (a = b)))
  | _, _ => none
theorem d_notB : OpD K rNotB notB := fun G H x y d e z Q ex hd he hz k => by
  unfold notB at hz
  split at hz
  · cases hz
    exact ⟨_, _, dt_bool hd, dt_bool he, k _ G H .refl ex (.bb _)⟩
  · cases hz
/-! ### a, b = x, y -/
def fPar (i j : Nat) (r : FE (List PyData)) : FS := fun ρ => (r ρ).bind fun p => match p.1 with
  | [x, y] => if i < p.2.length ∧ j < p.2.length then some (.nx ((p.2.set i (.d x)).set j (.d y))) else none
  | _ => none
theorem s_par {i j : Nat} {x y : Str} {r : FE (List PyData)} {px py pt pt2 : Pos} {kt k2 : Nat} (hpi : i ∉ P) (hpj : j ∉ P) (hc : X.calm = true) (hN : X.N.Nodup) (hi : X.N[i]? = some x) (hj : X.N[j]? = some y) (hij : i ≠ j)
    (hx : X.env.scope.names.lookup x = some .local) (hy : X.env.scope.names.lookup y = some .local) (ha : PA X [a, b] (tA X.K bb r))
    (hw : swappedStores [.Tuple [.Name x px, .Name y py] kt pt] (.Tuple [a, b] k2 pt2) X.env = pure (some [x, y]) := by rfl)
    (hs : swapsWithSole [.Tuple [.Name x px, .Name y py] kt pt] (.Tuple [a, b] k2 pt2) pos.line X.env = pure false := by rfl) :
    PS X (.Assign [.Tuple [.Name x px, .Name y py] kt pt] (.Tuple [a, b] k2 pt2) pos) (tS X.K P (fPar i j r)) := PS.weak (ps_par hc hN hi hj hij hx hy ha hw hs) fun D σ H ⟨G, ρ, o, E, ef, k⟩ => by
  unfold fPar at ef
  obtain ⟨⟨ds, ρ1⟩, h1, h2⟩ := Option.bind_eq_some_iff.mp ef
  dsimp only at h2
  split at h2
  case h_2 => cases h2
  rename_i d1 d2
  obtain ⟨⟨l1, l2⟩, rfl⟩ := ite_p h2
  refine ⟨G, ρ, _, ρ1, E, h1, fun vs G1 H1 t1 o1 E1 da => ?_⟩
  obtain ⟨v, w, rfl, dv, dw⟩ := da_two da
  refine ⟨v, w, rfl, ?_⟩
  have E2 := E1.set l1 dv
  have E3 := E2.set (by rw [List.length_set]; exact l2) dw
  exact k _ G1 H1 ((Stp.of t1 o1).trans ⟨.refl, fun l q => .inl (own_set (own_set q)), fun m hm => by
    rw [List.getElem?_set_ne fun z => hpj (by rw [z]; exact hm), List.getElem?_set_ne fun z => hpi (by rw [z]; exact hm)]⟩) E3
/-! ### a def that changes its list, called with a new one -/
variable {k n : Nat} {f : Addr} {fd : FuncData} {ps : List Str}
def fCallN (n : Nat) (g : List PyData → List PyData → Option (PyData × List PyData)) (r0 : FE (List PyData)) (ra : FE (List PyData)) : FE PyData := thnE r0 fun ms => thnE ra fun ds => liftO (if ds.length = n then (g ms ds).map (·.1) else none)
/-- beside a new list that no slot holds -/
theorem env_keep {G H G1 H1 : Hp} {σ : L2.St} {ρ : Rho} {l : Addr} (E : EnvOk K G H σ ρ) (nw : ¬ own σ ρ l) (t : Tr (fun a => a = l) G H G1 H1) (e : Ex G1 H1) : EnvOk K G1 H1 σ ρ where
  ex := e
  len := E.len
  dat := fun i d q => by
    obtain ⟨v, h1, h2⟩ := E.dat i d q
    exact ⟨v, h1, h2.mono t.g⟩
  mu := fun i ds q => by
    obtain ⟨m, xs, h1, h2, h3, h4⟩ := E.mu i ds q
    have ne : m ≠ l := fun z => nw (by rw [← z]; exact ⟨i, ds, q, h1⟩)
    exact ⟨m, xs, h1, t.n m _ h3 h2 ne, t.h m _ h3 ne, h4.mono t.g⟩
  ne := E.ne
theorem e_callN {g : List PyData → List PyData → Option (PyData × List PyData)} {r0 ra : FE (List PyData)} (F : FnG X.prog X.w X.K X.mg X.base k f fd ps (spM X.K n g)) (hh : Here k X) (hg : Gl X x) (hm : X.mg x = some (.ref f)) (hk : PySem.W.keepIn X.K (.ref f) = true) (hb : Binds X.K fd ps [])
    (h0 : PE X e (tF X.K true r0)) (ha : PA X es (tA X.K true ra)) (hdb : (x == ("__debug__" : Str)) = false := by decide) (he : starEach (e :: es) X.env = (false, eval e X.env) :: starEach es X.env := by rfl) (hpl : (backTo pos (starEach es X.env)).any (·.1) = false := by rfl) :
    PE X (.Call (.Name x p) (e :: es) [] pos) (tE X.K true (fCallN n g r0 ra)) := PE.weak (call_G F hh hg hm hk hb (pa_cons h0 ha he) hdb he hpl) fun σ H Q ⟨G, ρ, d, ρ', E, ef, kk⟩ => by
  obtain ⟨ms, ρ1, h1, h2⟩ := thnE_of ef
  obtain ⟨ds, ρ2, h3, h4⟩ := thnE_of h2
  obtain ⟨h5, rfl⟩ := liftO_of h4
  split at h5
  case isFalse => cases h5
  rename_i hl
  obtain ⟨⟨z, ms'⟩, h6, rfl⟩ := Option.map_eq_some_iff.mp h5
  refine ⟨G, ρ, ms, ρ1, E, h1, fun l xs G1 H1 hp hG hH dx t1 o1 E1 => ?_⟩
  have nw : ¬ own σ ρ1 l := fun q => by
    obtain ⟨ys, z⟩ := own_there E (o1 l q)
    rw [hp] at z
    cases z
  refine ⟨G1, ρ1, ds, ρ', E1, h3, fun ws G2 H2 t2 o2 E2 d2 => ?_⟩
  have nw2 : ¬ own σ ρ' l := fun q => nw (o2 l q)
  have not2 : ¬ ows true σ ρ1 l := fun q => nw q.2
  have hG2 : G2 l = none := t2.n l _ hH hG not2
  have hH2 : H2 l = some (.lst xs) := t2.h l _ hH not2
  refine ⟨G2, l, xs, ws, ms, ds, _, ms', rfl, E2.ex, hG2, hH2, dx.mono t2.g, d2, hl, h6, fun v G3 H3 xs' t3 ex3 hG3 hH3 dx3 dv => ?_⟩
  have t12 := t1.seq o1 t2
  have t13 : Tr (ows true σ ρ) G H G3 H3 := {
    g := fun x o q => t3.g x o (t12.g x o q)
    h := fun x o q w => by
      by_cases z : x = l
      · subst z; rw [hp] at q; cases q
      · exact t3.h x o (t12.h x o q w) z
    n := fun x o q gq w => by
      by_cases z : x = l
      · subst z; rw [hp] at q; cases q
      · exact t3.n x o (t12.h x o q w) (t12.n x o q gq w) z
    k := fun x o q => let ⟨u, e⟩ := t12.k x o q; t3.k x u e }
  exact kk v G3 H3 t13 (fun l' q => o1 l' (o2 l' q)) (env_keep E2 nw2 t3 ex3) dv
end
end Tw

set_option Elab.async false
set_option linter.all false
set_option maxRecDepth 100000
set_option maxHeartbeats 2000000
namespace Tw
open PySem PySem.Spec PyProof.Rows L2
open Evl (Ex)
section
variable {X : Cx} {a b e i : Expr} {es : List Expr} {pos p q : Pos} {bb : Bool} {fa fb fe fi : FE PyData} {P : List Nat} {K : PySem.W.Frag} {x : Str}
/-! ### tuple(range(n)) -/
def fTupRg (f : FE PyData) : FE PyData := thnE f fun x => liftO ((rg1 x).map .tuple)
theorem e_tupRg (hc : X.calm = true) (hg : Gl X "tuple") (hm : X.mg "tuple" = none) (hgr : Gl X "range") (hmr : X.mg "range" = none) (ha : PE X a (tE X.K bb fa))
    (n1 : starEach [a] X.env = (false, eval a X.env) :: starEach [] X.env := by rfl) (n2 : starEach [.Call (.Name "range" q) [a] [] p] X.env = (false, eval (.Call (.Name "range" q) [a] [] p) X.env) :: starEach [] X.env := by rfl) {pl : Pos} :
    PE X (.Call (.Name "tuple" pl) [.Call (.Name "range" q) [a] [] p] [] pos) (tE X.K bb (fTupRg fa)) := PE.weak (pe_tupRgP hc hg hm (prg_1 hgr hmr ha n1) n2) fun σ H Q ⟨G, ρ, d, ρ', E, ef, k⟩ => by
  obtain ⟨x, ρ1, h1, h2⟩ := thnE_of ef
  obtain ⟨h4, rfl⟩ := liftO_of h2
  obtain ⟨ds, h3, rfl⟩ := Option.map_eq_some_iff.mp h4
  refine ⟨G, ρ, x, ρ', E, h1, fun v G1 H1 t1 o1 E1 d1 => ?_⟩
  unfold rg1 at h3
  split at h3
  · obtain ⟨h6, rfl⟩ := ite_p h3
    have h5 := of_decide_eq_true h6
    refine ⟨_, dt_int d1, RgOk.of_le (by omega) (by omega) (by omega) (by omega), fun l ob hl ho => ?_⟩
    have da := rg_da (K := X.K) (G := G1) 0 ‹Int›
    rw [Int.sub_zero] at da
    have t2 : Tr nobody G1 H1 (upd G1 l (.frz ob (.tup (rgV 0 ‹Int›)))) (upd H1 l (.frz ob (.tup (rgV 0 ‹Int›)))) := Tr.new hl E1.ex
    exact k _ _ _ (t1.trans t2 fun _ _ _ q => q.elim) o1 (E1.tr t2 (ex_upd E1.ex)) (.tt (PTu.new ho) (da.mono t2.g))
  · cases h3
/-! ### xs[i] += e, a list of one's own -/
def rGetL : V → V → Hp → VK → Prop := fun o i H Q => ∃ p xs k v, o = .ref p ∧ i = .int k ∧ H p = some (.lst xs) ∧ atI xs k = some v ∧ Q v H
theorem get_list : PGet X rGetL := fun pins s σ H o i ov iv Q I ro ri h => by
  obtain ⟨p, xs, k, z, rfl, rfl, hp, he, q⟩ := h
  cases ro
  obtain ⟨t, rfl⟩ := ri
  obtain ⟨its, r, pl, hz⟩ := I.list (SqL.of hp)
  obtain ⟨j, h1, h2, h3, h4, h5⟩ := atI_get he
  obtain ⟨w, ew, rw'⟩ := r.get h2
  have hl := r.length
  have hn := line63
  have fin : EP X pins σ Q w s := ⟨z, H, I, rw', q⟩
  by_cases h0 : 0 ≤ k
  · have hj : k.toNat = j := by
      rw [seqIndex_of h0 h5] at h1
      exact Option.some.inj h1
    exact wpAny_getItem_list pl.isList h0 (by omega) (by rw [hj]; simpa using ew) fin
  · have hj : (k + (its.toArray.size : Int)).toNat = j := by
      rw [seqIndex_neg (by omega) h4] at h1
      rw [List.size_toArray, ← hl]
      exact Option.some.inj h1
    exact wpAny_getItem_list_neg pl.isList (by omega) (by rw [List.size_toArray] <;> omega) (by omega) (by rw [hj]; simpa using ew) fin
/-- the number is told ahead of e, the list of both -/
def fAugI (i : Nat) (g : PyData → PyData → Option PyData) (fi fe : FE PyData) : FS := fun ρ => match ρ[i]? with
  | some (.m (.l _)) => (fi ρ).bind fun p => match p.1, p.2[i]? with
    | .int k, some (.m (.l ms)) => (ixN ms.length k).bind fun j => (ms[j]?).bind fun x => (fe p.2).bind fun q => match q.2[i]? with
      | some (.m (.l ns)) => if ns.length = ms.length then (g x q.1).map fun z => .nx (q.2.set i (.m (.l (ns.set j z)))) else none
      | _ => none
    | _, _ => none
  | _ => none
theorem ixN_at {xs : List V} {k : Int} {j : Nat} (h : ixN xs.length k = some j) {v : V} (hv : xs[j]? = some v) : atI xs k = some v := by
  unfold atI
  rw [h]
  exact hv
theorem s_augI {op : Operator} {r : R2} {g : PyData → PyData → Option PyData} {o ie : Expr} {tpos : Pos} (n : Nat) (ho : PE X o (tVar n)) (hi : PE X ie (tE X.K true fi)) (hop : OpR X (inplaceOp op) r) (hr : OpD X.K r g) (he : PE X e (tE X.K true fe))
    (ha : ∀ ov iv new, augStore ie ov iv new = (do holding [new, ov, iv] (setItem ov iv new); release [new, ov, iv] []; pure .next) := by intros; rfl) :
    PS X (.AugAssign (.Subscript o ie tpos) op e pos) (tS X.K P (fAugI n g fi fe)) :=
  PS.weak (ps_augS (tip := r) ho hi get_list he hop set_list ha) fun D σ H ⟨G, ρ, o, E, ef, k⟩ => by
    unfold fAugI at ef
    split at ef
    case h_2 => cases ef
    rename_i ms0 h0
    obtain ⟨⟨dk, ρ1⟩, h1, h2⟩ := Option.bind_eq_some_iff.mp ef
    dsimp only at h2
    split at h2
    case h_2 => cases h2
    rename_i kk ms hm1
    obtain ⟨j, hj, h3⟩ := Option.bind_eq_some_iff.mp h2
    obtain ⟨x, hx, h4⟩ := Option.bind_eq_some_iff.mp h3
    obtain ⟨⟨y, ρ2⟩, h5, h6⟩ := Option.bind_eq_some_iff.mp h4
    dsimp only at h6
    split at h6
    case h_2 => cases h6
    rename_i ns hm2
    split at h6
    case isFalse => cases h6
    rename_i hlen
    obtain ⟨z, hz, rfl⟩ := Option.map_eq_some_iff.mp h6
    obtain ⟨l, xs0, hσ, _, _, _⟩ := E.muL h0
    refine ⟨.ref l, hσ, G, ρ, _, ρ1, E, h1, fun vk G1 H1 t1 o1 E1 d1 => ?_⟩
    obtain ⟨l1, xs1, hσ1, hG1, hH1, dx1⟩ := E1.muL hm1
    rw [hσ] at hσ1
    cases hσ1
    obtain ⟨vx, hvx, dvx⟩ := dx1.get hx
    have hj1 : ixN xs1.length kk = some j := by rw [dx1.len]; exact hj
    refine ⟨l, xs1, kk, vx, rfl, dt_int d1, hH1, ixN_at hj1 hvx, G1, ρ1, y, ρ2, E1, h5, fun vy G2 H2 t2 o2 E2 d2 => ?_⟩
    obtain ⟨l2, xs2, hσ2, hG2, hH2, dx2⟩ := E2.muL hm2
    rw [hσ] at hσ2
    cases hσ2
    refine hr G2 H2 vx vy x y z _ E2.ex (dvx.mono t2.g) d2 hz fun vz G3 H3 t3 x3 d3 => ?_
    have E3 := E2.tr t3 x3
    obtain ⟨l3, xs3, hσ3, hG3, hH3, dx3⟩ := E3.muL hm2
    rw [hσ] at hσ3
    cases hσ3
    have hj3 : ixN xs3.length kk = some j := by rw [dx3.len, hlen]; exact hj
    refine ⟨l, xs3, kk, j, rfl, dt_int d1, hH3, hj3, ?_⟩
    have own3 : own σ ρ2 l := ⟨n, ns, hm2, hσ⟩
    have s13 : Stp P G H σ ρ G3 H3 σ ρ2 := ((Stp.of t1 o1).trans (.of t2 o2)).trans ⟨t3.none, fun _ q => .inl q, fun _ _ => rfl⟩
    have t4 : Tr (fun a => a = l) G3 H3 G3 (upd H3 l (.lst (xs3.set j vz))) := tr_cell hG3 hH3
    refine k σ G3 _ (s13.trans ⟨t4.wide fun a _ _ q => by rw [q]; exact own3, fun l' q => .inl (own_setM hm2 q), fun _ _ => rfl⟩) ?_
    exact env_setM E3 hm2 hσ t4 (ex_cell E3.ex hG3) hG3 upd_same (.l (Da.set j d3 dx3))
end
/-- how it reckons -/
theorem fAugI_ok {i : Nat} {g : PyData → PyData → Option PyData} {fi fe : FE PyData} {ρ ρ1 ρ2 : Rho} {ms0 ms ns : List PyData} {k : Int} {j : Nat} {x y z : PyData} (h0 : ρ[i]? = some (.m ms0)) (h1 : fi ρ = some (.int k, ρ1)) (h2 : ρ1[i]? = some (.m ms)) (h3 : ixN ms.length k = some j) (h4 : ms[j]? = some x)
    (h5 : fe ρ1 = some (y, ρ2)) (h6 : ρ2[i]? = some (.m ns)) (h7 : ns.length = ms.length) (h8 : g x y = some z) : fAugI i g fi fe ρ = some (.nx (ρ2.set i (.m (ns.set j z)))) := by
  unfold fAugI
  rw [h0]
  dsimp only
  rw [h1, Option.bind_some]
  dsimp only
  rw [h2]
  dsimp only
  rw [h3, Option.bind_some, h4, Option.bind_some, h5, Option.bind_some]
  dsimp only
  rw [h6]
  dsimp only
  rw [if_pos h7, h8]
  rfl
end Tw

set_option Elab.async false
set_option linter.all false
set_option maxRecDepth 100000
set_option maxHeartbeats 2000000
namespace Tw
open PySem PySem.Spec PyProof.Rows L2
open Evl (Ex)
/-! ### dicts, read and filled -/
def keyOf : PyData → Option Key
  | .int i => some (.inl i)
  | .str x => some (.inr x)
  | _ => none
def isK : Key → PyData → Bool
  | .inl i, .int j => decide (j = i)
  | .inr x, .str y => decide (y = x)
  | _, _ => false
theorem isK_key (k q : Key) : isK k (keyD q) = decide (q = k) := by
  cases k <;> cases q <;> simp [isK, keyD]
def getE (es : List (PyData × PyData)) (k : Key) : Option PyData := (es.find? fun e => isK k e.1).map (·.2)
def hasE (es : List (PyData × PyData)) (k : Key) : Bool := es.any fun e => isK k e.1
def putE (es : List (PyData × PyData)) (k : Key) (v : PyData) : List (PyData × PyData) :=
  if hasE es k = true then es.map (fun e => if isK k e.1 = true then (e.1, v) else e) else es ++ [(keyD k, v)]
section
variable {K : PySem.W.Frag} {G : Hp}
def zipE (kvs : List (Key × V)) (ds : List PyData) : List (PyData × PyData) := (kvs.map fun p => keyD p.1).zip ds
theorem ek_get (k : Key) : ∀ {kvs : List (Key × V)} {ds : List PyData}, Da K G (kvs.map (·.2)) ds → (∀ d, getE (zipE kvs ds) k = some d → ∃ v, valV kvs k = some v ∧ Dt K G v d) ∧ (getE (zipE kvs ds) k = none → valV kvs k = none) ∧ hasE (zipE kvs ds) k = (valV kvs k).isSome
  | [], ds, h => by
    cases h
    exact ⟨fun d q => (by cases q), fun _ => rfl, rfl⟩
  | p :: kvs, ds, h => by
    cases h with
    | cons h1 h2 =>
      rename_i d0 ds
      obtain ⟨i1, i2, i3⟩ := ek_get k h2
      have e : zipE (p :: kvs) (d0 :: ds) = (keyD p.1, d0) :: zipE kvs ds := rfl
      rw [e]
      unfold getE at i1 i2 ⊢
      unfold hasE at i3 ⊢
      by_cases c : p.1 = k
      · have t : isK k (keyD p.1) = true := by rw [isK_key, decide_eq_true c]
        rw [List.find?_cons_of_pos (p := fun e : PyData × PyData => isK k e.1) t, valV_pos c, List.any_cons, t]
        exact ⟨fun d q => ⟨_, rfl, by cases q; exact h1⟩, fun q => (by cases q), rfl⟩
      · have t : isK k (keyD p.1) = false := by rw [isK_key, decide_eq_false c]
        rw [List.find?_cons_of_neg (p := fun e : PyData × PyData => isK k e.1) (by rw [t]; decide), valV_neg c, List.any_cons, t, Bool.false_or]
        exact ⟨i1, i2, i3⟩
theorem ek_map {k : Key} {v : V} {d : PyData} (hv : Dt K G v d) : ∀ {kvs : List (Key × V)} {ds : List PyData}, Da K G (kvs.map (·.2)) ds →
    ∃ ds', Da K G ((kvs.map fun kv => if kv.1 = k then (kv.1, v) else kv).map (·.2)) ds' ∧ (zipE kvs ds).map (fun e => if isK k e.1 = true then (e.1, d) else e) = zipE (kvs.map fun kv => if kv.1 = k then (kv.1, v) else kv) ds'
  | [], ds, h => by
    cases h
    exact ⟨[], .nil, rfl⟩
  | p :: kvs, ds, h => by
    cases h with
    | cons h1 h2 =>
      rename_i d0 ds
      obtain ⟨ds', a, b⟩ := ek_map (k := k) hv h2
      have e : zipE (p :: kvs) (d0 :: ds) = (keyD p.1, d0) :: zipE kvs ds := rfl
      rw [e]
      by_cases c : p.1 = k
      · have t : isK k (keyD p.1) = true := by rw [isK_key, decide_eq_true c]
        refine ⟨d :: ds', ?_, ?_⟩
        · show Da K G ((if p.1 = k then (p.1, v) else p).2 :: _) _
          rw [if_pos c]
          exact .cons hv a
        · show (if isK k (keyD p.1) = true then (keyD p.1, d) else (keyD p.1, d0)) :: (zipE kvs ds).map _ = zipE ((if p.1 = k then (p.1, v) else p) :: kvs.map _) _
          rw [b, if_pos t, if_pos c]
          rfl
      · have t : isK k (keyD p.1) = false := by rw [isK_key, decide_eq_false c]
        refine ⟨d0 :: ds', ?_, ?_⟩
        · show Da K G ((if p.1 = k then (p.1, v) else p).2 :: _) _
          rw [if_neg c]
          exact .cons h1 a
        · show (if isK k (keyD p.1) = true then (keyD p.1, d) else (keyD p.1, d0)) :: (zipE kvs ds).map _ = zipE ((if p.1 = k then (p.1, v) else p) :: kvs.map _) _
          rw [b, if_neg (by rw [t]; decide), if_neg c]
          rfl
theorem ek_put {k : Key} {v : V} {d : PyData} {kvs : List (Key × V)} {ds : List PyData} (hv : Dt K G v d) (h : Da K G (kvs.map (·.2)) ds) : MuOk K G (.dK (putK kvs k v)) (.k (putE (zipE kvs ds) k d)) := by
  obtain ⟨_, _, i3⟩ := ek_get k h
  have c : (kvs.any fun kv => decide (kv.1 = k)) = hasE (zipE kvs ds) k := by rw [i3, valV_any]
  unfold putK putE
  rw [c]
  by_cases q : hasE (zipE kvs ds) k = true
  · rw [if_pos q, if_pos q]
    obtain ⟨ds', a, b⟩ := ek_map (k := k) hv h
    rw [b]
    exact .k a
  · rw [if_neg q, if_neg q]
    have l : (kvs.map fun p => keyD p.1).length = ds.length := by rw [List.length_map, ← h.len, List.length_map]
    have e : zipE kvs ds ++ [(keyD k, d)] = zipE (kvs ++ [(k, v)]) (ds ++ [d]) := by
      unfold zipE
      rw [List.map_append, List.zip_append l]
      rfl
    rw [e]
    refine .k ?_
    rw [List.map_append]
    exact h.app (Da.one hv)
/-- data dicts, read -/
theorem dt_dict {v : V} {es : List (PyData × PyData)} (h : Dt K G v (.dict es)) : ∃ a kvs ds, v = .ref a ∧ Rd G a (.dK kvs) ∧ Da K G (kvs.map (·.2)) ds ∧ es = zipE kvs ds := by
  cases h with
  | dd h t => exact ⟨_, _, _, rfl, h, t, rfl⟩
theorem keyOf_dt {v : V} {d : PyData} {k : Key} (h : Dt K G v d) (e : keyOf d = some k) : v = kV k := by
  cases h <;> cases e <;> rfl
end
theorem tr_cell' {G H : Hp} {l : Addr} {o o' : HO} (hH : H l = some o) : Tr (fun a => a = l) G H G (upd H l o') where
  g := fun _ _ q => q
  h := fun x u q n => by rw [upd_ne n]; exact q
  n := fun _ _ _ q _ => q
  k := fun x u q => by
    by_cases z : x = l
    · subst z; exact ⟨_, upd_same⟩
    · exact ⟨u, by rw [upd_ne z]; exact q⟩
section
variable {X : Cx} {bb : Bool} {P : List Nat} {pos tpos : Pos}
def rDg : R2 := fun x y H Q => ∃ a v, x = .ref a ∧ DGet H a y (some v) ∧ Q v H
theorem ix_dict (hu : X.A.units + 1 < cLine) : IxR X rDg := by
  intro value slice pins s σ H x y v u Q I rx ry q hs
  obtain ⟨a, w, rfl, g, q⟩ := q
  cases rx
  have hT := dict_typeIs I g
  unfold subscriptTail
  refine wpAny_bind ?_
  rw [getitemInPython_of_ne hT.not_modules]
  refine wpAny_bind (wpAny_specialOf hT PySem.F.slot_dict_getitem.lookup ?_)
  have h₂ := d_getItem (A := X.A) (E := X.xe) (Q := EP X pins σ Q) hu I g ry fun w' s3 I3 rw' => ⟨w, H, I3, rw', q⟩
  have fin : wpAny (model X.prog X.w) X.A (subscripted slice false (.ref a) u) (fun r s₃ => wpAny (model X.prog X.w) X.A (letTemporaryGo value (.ref a) r >>= fun _ => pure r) (EP X pins σ Q) X.xe s₃) X.xe s := by
    rw [hs]
    exact wpAny_operating (wpAny_mono h₂ (fun r s₃ h₃ => wpAny_bind (wpAny_letTemporaryGo (wpAny_pure h₃))) fun _ _ x => x)
  first
    | exact wpAny_pure (wpAny_bind fin)
    | exact wpAny_bind (wpAny_pure (wpAny_bind fin))
    | exact wpAny_bind fin
def dgD : PyData → PyData → Option PyData
  | .dict es, x => (keyOf x).bind (getE es)
  | _, _ => none
theorem d_dg : OpD X.K rDg dgD := fun G H x y d e z Q ex hd he hz k => by
  unfold dgD at hz
  split at hz
  · obtain ⟨kk, h1, h2⟩ := Option.bind_eq_some_iff.mp hz
    obtain ⟨a, kvs, ds, rfl, hx, dx, rfl⟩ := dt_dict hd
    obtain ⟨v, hv, dv⟩ := (ek_get kk dx).1 _ h2
    have ey := keyOf_dt he h1
    refine ⟨a, v, rfl, ?_, k v G H .refl ex dv⟩
    rw [ey, ← hv]
    exact .inl ⟨_, _, Evl.ex_rd ex hx, rfl, rfl⟩
  · cases hz
/-- a list, a tuple, a text or a dict -/
def ixE (d x : PyData) : Option PyData := (ixD d x).or (dgD d x)
theorem ix_all (hu : X.A.units + 1 < cLine) : IxR X (fun x y H Q => rIx3 X.K x y H Q ∨ rDg x y H Q) := ix_seqB.or (ix_dict hu)
theorem d_ixE : OpD X.K (fun x y H Q => rIx3 X.K x y H Q ∨ rDg x y H Q) ixE := d_ix.or d_dg
/-- in, not in -/
def rDin (neg : Bool) : R2 := fun x y H Q => ∃ a o, y = .ref a ∧ DGet H a x o ∧ Q (.bl (if neg = true then !o.isSome else o.isSome)) H
theorem op_inDict (hu : X.A.units + 1 < cLine) : OpR X (compareOp .In) (rDin false) := by
  intro pins s σ H x y v u Q I rx ry q
  obtain ⟨a, o, rfl, g, q⟩ := q
  cases ry
  exact L2.d_in hu I g rx fun s3 I3 => ⟨.bl o.isSome, H, I3, rfl, q⟩
theorem op_notInDict (hu : X.A.units + 1 < cLine) : OpR X (compareOp .NotIn) (rDin true) := by
  intro pins s σ H x y v u Q I rx ry q
  obtain ⟨a, o, rfl, g, q⟩ := q
  cases ry
  exact L2.d_notIn hu I g rx fun s3 I3 => ⟨.bl (!o.isSome), H, I3, rfl, q⟩
def inK (neg : Bool) : PyData → PyData → Option PyData
  | x, .dict es => (keyOf x).map fun k => .bool (if neg = true then !hasE es k else hasE es k)
  | _, _ => none
theorem d_inK (neg : Bool) : OpD X.K (rDin neg) (inK neg) := fun G H x y d e z Q ex hd he hz k => by
  unfold inK at hz
  split at hz
  · obtain ⟨kk, h1, rfl⟩ := Option.map_eq_some_iff.mp hz
    obtain ⟨a, kvs, ds, rfl, hx, dx, rfl⟩ := dt_dict he
    have ey := keyOf_dt hd h1
    refine ⟨a, valV kvs kk, rfl, ?_, ?_⟩
    · rw [ey]
      exact .inl ⟨_, _, Evl.ex_rd ex hx, rfl, rfl⟩
    · rw [← (ek_get kk dx).2.2]
      exact k _ G H .refl ex (.bb _)
  · cases hz
/-! x = {} -/
def fOwnK (i : Nat) : FS := fun ρ => if i < ρ.length then some (.nx (ρ.set i (.m (.k [])))) else none
theorem s_ownK (i : Nat) {tg : Expr} {dpos : Pos} (hp : i ∉ P) (ht : PG X tg (gName i)) (hs : swapsWithSole [tg] (.Dict [] [] dpos) pos.line X.env = pure false := by rfl) (hw : swappedStores [tg] (.Dict [] [] dpos) X.env = pure none := by rfl)
    (h1 : (assignEach [tg] X.env).map (·.2) = [assign tg X.env] := by rfl) : PS X (.Assign [tg] (.Dict [] [] dpos) pos) (tS X.K P (fOwnK i)) := PS.weak (ps_asg pe_dnewK ht hs hw h1) fun D σ H ⟨G, ρ, o, E, ef, k⟩ => by
  obtain ⟨hi, rfl⟩ := ite_p ef
  intro p hp0
  have hi' : i < σ.length := by rw [E.len]; exact hi
  have t : Tr nobody G H G (upd H p (.dK [])) := tr_mk0 hp0
  have hG : G p = none := E.gn hp0
  have notp : ¬ own σ ρ p := fun q => by
    obtain ⟨ys, z⟩ := own_there E q
    rw [hp0] at z
    cases z
  have own' : ∀ l, own (σ.set i (some (.ref p))) (ρ.set i (.m (.k []))) l → l = p ∨ own σ ρ l := fun l ⟨j, es, w1, w2⟩ => by
    rcases set_get w1 with ⟨rfl, _⟩ | ⟨n, w1⟩
    · rw [List.getElem?_set_self hi'] at w2
      cases w2
      exact .inl rfl
    · rw [List.getElem?_set_ne (Ne.symm n)] at w2
      exact .inr ⟨j, es, w1, w2⟩
  have E1 := E.tr t (ex_new E.ex hp0)
  refine k _ G _ ⟨t.wide fun _ _ _ q => q.elim, fun l q => (own' l q).elim (fun z => .inr (by rw [z]; exact hp0)) fun z => .inl z, fun j hj => List.getElem?_set_ne fun z => hp (by rw [z]; exact hj)⟩ ?_
  exact {
    ex := E1.ex
    len := by rw [List.length_set, List.length_set]; exact E1.len
    dat := fun j d q => by
      rcases set_get q with ⟨_, q⟩ | ⟨n, q⟩
      · cases q
      · rw [List.getElem?_set_ne (Ne.symm n)]
        exact E1.dat j d q
    mu := fun j d q => by
      rcases set_get q with ⟨ej, qq⟩ | ⟨n, qq⟩
      · cases qq
        rw [ej]
        exact ⟨p, _, List.getElem?_set_self hi', hG, upd_same, .k (kvs := []) (ds := []) .nil⟩
      · rw [List.getElem?_set_ne (Ne.symm n)]
        exact E1.mu j d qq
    ne := fun a b d1 d2 l w1 w2 w3 w4 => by
      rcases set_get w1 with ⟨ea, _⟩ | ⟨na, w1⟩
      · rcases set_get w2 with ⟨eb, _⟩ | ⟨nb, w2⟩
        · rw [ea, eb]
        · rw [ea, List.getElem?_set_self hi'] at w3
          cases w3
          rw [List.getElem?_set_ne (Ne.symm nb)] at w4
          exact (notp ⟨b, d2, w2, w4⟩).elim
      · rcases set_get w2 with ⟨eb, _⟩ | ⟨nb, w2⟩
        · rw [eb, List.getElem?_set_self hi'] at w4
          cases w4
          rw [List.getElem?_set_ne (Ne.symm na)] at w3
          exact (notp ⟨a, d1, w1, w3⟩).elim
        · rw [List.getElem?_set_ne (Ne.symm na)] at w3
          rw [List.getElem?_set_ne (Ne.symm nb)] at w4
          exact E1.ne a b d1 d2 l w1 w2 w3 w4 }
/-! d[k] = v -/
def fPutK (i : Nat) (fe fk : FE PyData) : FS := fun ρ => (fe ρ).bind fun p => match p.2[i]? with
  | some (.m (.k _)) => (fk p.2).bind fun q => match q.2[i]? with
    | some (.m (.k es)) => (keyOf q.1).bind fun k => if es.length < 100000 then some (.nx (q.2.set i (.m (.k (putE es k p.1))))) else none
    | _ => none
  | _ => none
theorem s_putK {fe fk : FE PyData} {o ie e : Expr} (n : Nat) (hu : X.A.units + 1 < cLine) (ho : PE X o (tVar n)) (hi : PE X ie (tE X.K true fk)) (he : PE X e (tE X.K true fe)) (hs : swapsWith e (some (.Subscript o ie tpos)) pos.line X.env = pure false := by rfl) :
    PS X (.Assign [.Subscript o ie tpos] e pos) (tS X.K P (fPutK n fe fk)) := PS.weak (ps_dput hu ho hi he hs) fun D σ H ⟨G, ρ, o, E, ef, k⟩ => by
  obtain ⟨⟨d, ρ1⟩, q1, q2⟩ := Option.bind_eq_some_iff.mp ef
  dsimp only at q2
  split at q2
  case h_2 => cases q2
  rename_i es0 hi0
  obtain ⟨⟨dk, ρ2⟩, q3, q4⟩ := Option.bind_eq_some_iff.mp q2
  dsimp only at q4
  split at q4
  case h_2 => cases q4
  rename_i es hi2
  obtain ⟨kk, q5, q6⟩ := Option.bind_eq_some_iff.mp q4
  obtain ⟨hlen, rfl⟩ := ite_p q6
  refine ⟨G, ρ, d, ρ1, E, q1, fun v G1 H1 t1 o1 E1 d1 => ?_⟩
  obtain ⟨l, kvs0, ds0, hσ, _, _, _, _⟩ := E1.muK hi0
  refine ⟨.ref l, hσ, G1, ρ1, dk, ρ2, E1, q3, fun w G2 H2 t2 o2 E2 d2 => ?_⟩
  obtain ⟨l2, kvs, ds, hσ2, hG, hH, dx, ees⟩ := E2.muK hi2
  rw [hσ] at hσ2
  cases hσ2
  have own2 : own σ ρ2 l := ⟨n, _, hi2, hσ⟩
  have s12 : Stp P G H σ ρ G2 H2 σ ρ2 := (Stp.of t1 o1).trans (.of t2 o2)
  have ey := keyOf_dt d2 q5
  have lz : kvs.length < sizeLine := by
    have : es.length = kvs.length := by
      rw [ees, List.length_zip, List.length_map, ← dx.len, List.length_map, Nat.min_self]
    rw [← this]
    exact Evl.sz_lt hlen
  refine ⟨l, upd H2 l (.dK (putK kvs kk v)), rfl, ?_, ?_⟩
  · rw [ey]
    exact DPut.k hH lz
  have t3 : Tr (fun a => a = l) G2 H2 G2 (upd H2 l (.dK (putK kvs kk v))) := tr_cell' hH
  refine k σ G2 _ (s12.trans ⟨t3.wide fun a _ _ q => by rw [q]; exact own2, fun l' q => .inl (own_setM hi2 q), fun _ _ => rfl⟩) ?_
  refine env_setM E2 hi2 hσ t3 (ex_cell E2.ex hG) hG upd_same ?_
  rw [ees]
  exact ek_put (d1.mono t2.g) dx
end
end Tw
namespace Tw
open PySem L2
theorem Here.u1 {k : Nat} {X : Cx} (h : Here k X) : X.A.units + 1 < cLine := by
  have := h.u
  omega
/-- how d[k] = v reckons -/
theorem fPutK_ok {i : Nat} {fe fk : FE PyData} {ρ ρ1 ρ2 : Rho} {d x : PyData} {es0 es : List (PyData × PyData)} {k : Key} (h1 : fe ρ = some (d, ρ1)) (h2 : ρ1[i]? = some (.m (.k es0))) (h3 : fk ρ1 = some (x, ρ2)) (h4 : ρ2[i]? = some (.m (.k es))) (h5 : keyOf x = some k) (h6 : es.length < 100000) :
    fPutK i fe fk ρ = some (.nx (ρ2.set i (.m (.k (putE es k d))))) := by
  unfold fPutK
  rw [h1, Option.bind_some]
  dsimp only
  rw [h2]
  dsimp only
  rw [h3, Option.bind_some]
  dsimp only
  rw [h4]
  dsimp only
  rw [h5, Option.bind_some, if_pos h6]
end Tw

set_option Elab.async false
set_option linter.all false
set_option maxRecDepth 100000
set_option maxHeartbeats 2000000
namespace Tw
open PySem PySem.Spec PyProof.Rows L2
open Evl (Ex)
/-! ### xs.index(x); & and >> -/
def indexN (ds : List PyData) (x : PyData) : Option Nat := ds.findIdx? fun y => PyData.eqv y x
def indexD : PyData → PyData → Option PyData
  | .list ds, x => if (atom x && atomsAll ds) = true then (indexN ds x).map fun j => .int (j : Nat) else none
  | _, _ => none
section
variable {X : Cx} {K : PySem.W.Frag} {bb : Bool}
theorem atomsAll_get : ∀ {ds : List PyData} {j : Nat} {d : PyData}, atomsAll ds = true → ds[j]? = some d → atom d = true
  | [], _, _, _, h => by cases h
  | d :: ds, 0, _, h, e => by
    cases e
    exact (Bool.and_eq_true_iff.mp h).1
  | d :: ds, j + 1, _, h, e => atomsAll_get (ds := ds) (j := j) (Bool.and_eq_true_iff.mp h).2 e
theorem e_index {fo fe : FE PyData} {o e : Expr} {apos cpos : Pos} (ho : PE X o (tE X.K bb fo)) (he : PE X e (tE X.K bb fe)) (hbase : attributeBase o "index" X.env (eval o X.env) = eval o X.env := by rfl)
    (hfew : ((backTo cpos (starEach [e] X.env)).all (fun x => !x.1) && (backToKw cpos (keywordEach [] X.env)).all (fun x => x.1.isSome)
      && decide ([e].length + ([] : List Keyword).length + (if ([] : List Keyword).isEmpty then 0 else 1) < 30)) = true := by rfl)
    (hline : (apos.endLine == cpos.line) = true := by rfl) (hs : starEach [e] X.env = (false, eval e X.env) :: starEach [] X.env := by rfl) (hplain : (backTo cpos (starEach [] X.env)).any (·.1) = false := by rfl) :
    PE X (.Call (.Attribute o "index" apos) [e] [] cpos) (tE X.K bb (fBin indexD fo fe)) :=
  PE.weak (pe_bm PySem.F.plainAttrs_list PySem.F.slot_list_index PySem.F.type_list_index mt_index ho (a_cons he a_nil hs) hbase hfew hline hs hplain) fun σ H Q ⟨G, ρ, d, ρ', E, ef, k⟩ => by
    obtain ⟨x, ρ1, h1, h2⟩ := thnE_of ef
    obtain ⟨y, ρ2, h3, h4⟩ := thnE_of h2
    obtain ⟨h5, rfl⟩ := liftO_of h4
    unfold indexD at h5
    split at h5
    case h_2 => cases h5
    rename_i ds
    split at h5
    case isFalse => cases h5
    rename_i ha
    have h6 := h5
    obtain ⟨j, hj, rfl⟩ := Option.map_eq_some_iff.mp h6
    have ha := Bool.and_eq_true_iff.mp ha
    refine ⟨G, ρ, _, ρ1, E, h1, fun v G1 H1 t1 o1 E1 d1 => ?_⟩
    obtain ⟨a, xs, rfl, hx, dx⟩ := dt_list d1
    refine ⟨.inl ⟨rfl, xs, (hx.mono E1.ex).sq⟩, G1, ρ1, [y], ρ', E1, ?_, fun ws G2 H2 t2 o2 E2 d2 => ?_⟩
    · show thnE fe (fun x => thnE fNil fun xs => ret (x :: xs)) ρ1 = _
      unfold thnE
      rw [h3]
      rfl
    obtain ⟨w, rfl, dw⟩ := da_one d2
    have dx2 := dx.mono t2.g
    have hx2 := (hx.mono t2.g).mono E2.ex
    obtain ⟨hlt, hz, hno⟩ := List.findIdx?_eq_some_iff_getElem.mp hj
    obtain ⟨z, hz1, dz⟩ := dx2.get (List.getElem?_eq_getElem hlt)
    have flat : ∀ {m : Nat} {z' : V}, xs[m]? = some z' → ∃ d', ds[m]? = some d' ∧ eqV z' w = PyData.eqv d' y ∧ flatV z' = true ∧ flatV w = true := fun {m z'} e => by
      obtain ⟨d', e1, e2⟩ := dx2.getV e
      obtain ⟨q1, q2, q3⟩ := eqv_atom e2 dw (atomsAll_get ha.2 e1) ha.1
      exact ⟨d', e1, q1, q2, q3⟩
    obtain ⟨d0, e0, q1, q2, q3⟩ := flat hz1
    rw [List.getElem?_eq_getElem hlt] at e0
    cases e0
    refine ⟨a, xs, w, j, z, rfl, rfl, hx2.sq, q3, List.all_eq_true.mpr fun z' hz' => ?_, hz1, by rw [q1]; exact hz, fun m z' hm e => ?_, ?_⟩
    · obtain ⟨m, e⟩ := List.mem_iff_getElem?.mp hz'
      obtain ⟨_, _, _, q, _⟩ := flat e
      exact q
    · obtain ⟨d', e1, q, _, _⟩ := flat e
      have hm' : m < ds.length := by omega
      rw [List.getElem?_eq_getElem hm'] at e1
      cases e1
      rw [q]
      have := hno m hm
      simpa using this
    · exact k _ G2 H2 (t1.trans t2 fun a o q1 q2 => ⟨q2.1, o1 a q2.2⟩) (fun l q => o1 l (o2 l q)) E2 (.ii _)
def andI : PyData → PyData → Option PyData
  | .int i, .int j => some (.int (Builtin.bitAnd i j))
  | _, _ => none
theorem d_andI : OpD K (rI0 fun i j => .int (Builtin.bitAnd i j)) andI := opD_I0 (h := fun i j => .int (Builtin.bitAnd i j)) (fun _ _ _ => .ii _) fun d e z h => by
  unfold andI at h
  split at h
  · exact ⟨_, _, rfl, rfl, (Option.some.inj h).symm⟩
  · cases h
def shrI : PyData → PyData → Option PyData
  | .int i, .int j => if 0 ≤ j then some (.int (i / 2 ^ j.toNat)) else none
  | _, _ => none
theorem d_shrI : OpD K (rI (fun _ j => 0 ≤ j) fun i j => .int (i / 2 ^ j.toNat)) shrI := opD_I (h := fun i j => .int (i / 2 ^ j.toNat)) (fun _ _ _ => .ii _) fun d e z h => by
  unfold shrI at h
  split at h
  · obtain ⟨h1, h2⟩ := ite_p h
    exact ⟨_, _, rfl, rfl, h1, h2⟩
  · cases h
end
end Tw

set_option Elab.async false
set_option linter.all false
set_option maxRecDepth 100000
set_option maxHeartbeats 2000000
namespace Tw
open PySem PySem.Spec PyProof.Rows L2
open Evl (Ex)
/-! ### match of a tuple by rows of names -/
/-- the cases, the subject a tuple of xs -/
structure PM (X : Cx) (cs : List MatchCase) (t : List V → TS) : Prop where
  run : ∀ (pins : List (Addr × Obj)) (s : Shared) (σ : L2.St) (H : Hp) (D : Ends) (a : Addr) (xs : List V) (first : Bool), Inv X pins σ H s → SqT X.K H a xs → t xs D σ H →
    wpAny (model X.prog X.w) X.A (matchCases cs X.env (.ref a) first) (SP X pins D) X.xe s
section
variable {X : Cx} {e : Expr} {cs : List MatchCase} {body : List Stmt} {pos : Pos} {P : List Nat} {bb : Bool} {f : FS} {g : List PyData → FS}
theorem PM.weak {t t' : List V → TS} (h : PM X cs t) (w : ∀ xs D σ H, t' xs D σ H → t xs D σ H) : PM X cs t' := ⟨fun pins s σ H D a xs first I hq q => h.run pins s σ H D a xs first I hq (w xs D σ H q)⟩
theorem pm_nil : PM X [] (fun _ => tNext) := ⟨fun _ _ σ H _ _ _ _ I _ h => wpAny_matchCases_nil ⟨σ, H, I, h⟩⟩
def tCase (n : Nat) (tg : TGs) (t : TS) (u : List V → TS) : List V → TS := fun xs D σ H => if xs.length = n then tg xs σ H (fun σ' H' => t D σ' H') else u xs D σ H
theorem pm_one {x : Str} {i : Nat} {px pp : Pos} {t : TS} {u : List V → TS} (hc : X.calm = true) (hN : X.N.Nodup) (hi : X.N[i]? = some x) (hx : Loc X.env.scope x) (hb : PSs X body t) (hr : PM X cs u)
    (hf : X.fn x = true ∨ X.env.scope.names.lookup x = some .local := by first | exact .inl rfl | exact .inr rfl | assumption) :
    PM X (⟨.MatchSequence [.MatchAs none (some x) px] pp, none, body⟩ :: cs) (tCase 1 (gCons (gName i) gNil) t u) := by
  refine ⟨fun pins s σ H D a xs first I hq h => ?_⟩
  obtain ⟨its, rv, ht, hz⟩ := I.tuple hq
  have hsz : sizeLine < 2 ^ 62 := by decide
  have hl := rv.length
  refine wpAny_matchCases_cons ?_
  unfold tCase at h
  by_cases hn : xs.length = 1
  · rw [if_pos hn] at h
    refine matchSeq_tuple_hit ht (by simp only [List.size_toArray]; omega) (by simp only [List.size_toArray, List.length_cons, List.length_nil]; omega) ?_
    have I1 := I.tok (s.toks + 1 + 1)
    have e1 : [Pattern.MatchAs none (some x) px].length = its.toArray.size := by simp only [List.size_toArray, List.length_cons, List.length_nil]; omega
    rw [e1]
    refine unpackItems_tuple (I.ok.hd hc) (by obtain ⟨z1, z2, z3⟩ := ht; exact ⟨z1, z2, z3⟩) fun h' hx' => ?_
    have I2 := I1.kept (h' := h') (t' := s.toks + 1 + 1) fun b o e => hx' b o (Nat.ne_of_lt (Heap.lt_size e)) e
    obtain ⟨v, r, ev, h, eh⟩ := h
    subst h
    subst ev
    cases rv with
    | cons r1 rr =>
      cases rr
      refine wpAny_matchEach_cons (wpAny_matchPattern_Capture ?_) rfl
      refine wpAny_matchEach_nil ?_
      refine assignInOrder_cons (wpAny_bindName (store_ok I2 hN hi hx r1 (fun s2 I3 => assignInOrder_nil ?_) hf))
      exact hb.run pins s2 _ H D I3 eh
  · rw [if_neg hn] at h
    refine matchSeq_tuple_miss ht (by simp only [List.size_toArray]; omega) (by simp only [List.size_toArray, List.length_cons, List.length_nil]; omega) ?_
    exact hr.run pins _ σ H D a xs false (I.tok _) hq h
theorem pm_two {x y : Str} {i j : Nat} {px py pp : Pos} {t : TS} {u : List V → TS} (hc : X.calm = true) (hN : X.N.Nodup) (hi : X.N[i]? = some x) (hj : X.N[j]? = some y) (hx : Loc X.env.scope x) (hy : Loc X.env.scope y) (hb : PSs X body t) (hr : PM X cs u)
    (hf : X.fn x = true ∨ X.env.scope.names.lookup x = some .local := by first | exact .inl rfl | exact .inr rfl | assumption) (hg : X.fn y = true ∨ X.env.scope.names.lookup y = some .local := by first | exact .inl rfl | exact .inr rfl | assumption) :
    PM X (⟨.MatchSequence [.MatchAs none (some x) px, .MatchAs none (some y) py] pp, none, body⟩ :: cs) (tCase 2 (gCons (gName i) (gCons (gName j) gNil)) t u) := by
  refine ⟨fun pins s σ H D a xs first I hq h => ?_⟩
  obtain ⟨its, rv, ht, hz⟩ := I.tuple hq
  have hsz : sizeLine < 2 ^ 62 := by decide
  have hl := rv.length
  refine wpAny_matchCases_cons ?_
  unfold tCase at h
  by_cases hn : xs.length = 2
  · rw [if_pos hn] at h
    refine matchSeq_tuple_hit ht (by simp only [List.size_toArray]; omega) (by simp only [List.size_toArray, List.length_cons, List.length_nil]; omega) ?_
    have I1 := I.tok (s.toks + 1 + 1)
    have e1 : [Pattern.MatchAs none (some x) px, Pattern.MatchAs none (some y) py].length = its.toArray.size := by simp only [List.size_toArray, List.length_cons, List.length_nil]; omega
    rw [e1]
    refine unpackItems_tuple (I.ok.hd hc) (by obtain ⟨z1, z2, z3⟩ := ht; exact ⟨z1, z2, z3⟩) fun h' hx' => ?_
    have I2 := I1.kept (h' := h') (t' := s.toks + 1 + 1) fun b o e => hx' b o (Nat.ne_of_lt (Heap.lt_size e)) e
    obtain ⟨v, r, ev, v2, r2, ev2, h3⟩ := h
    obtain ⟨ev3, h⟩ := h3
    subst ev3; subst ev2; subst ev
    cases rv with
    | cons r1 rr =>
      cases rr with
      | cons r2 rr =>
      cases rr
      refine wpAny_matchEach_cons (wpAny_matchPattern_Capture ?_) rfl
      refine wpAny_matchEach_cons (wpAny_matchPattern_Capture ?_) rfl
      refine wpAny_matchEach_nil ?_
      refine assignInOrder_cons (wpAny_bindName (store_ok I2 hN hi hx r1 (fun s2 I3 => ?_) hf))
      refine assignInOrder_cons (wpAny_bindName (store_ok I3 hN hj hy r2 (fun s3 I4 => assignInOrder_nil ?_) hg))
      exact hb.run pins s3 _ H D I4 h
  · rw [if_neg hn] at h
    refine matchSeq_tuple_miss ht (by simp only [List.size_toArray]; omega) (by simp only [List.size_toArray, List.length_cons, List.length_nil]; omega) ?_
    exact hr.run pins _ σ H D a xs false (I.tok _) hq h
theorem ps_match {te : TE} {u : List V → TS} (he : PE X e te) (hm : PM X cs u) : PS X (.Match e cs pos) (fun D σ H => te σ H fun x H1 => ∃ a xs, x = .ref a ∧ SqT X.K H1 a xs ∧ u xs D σ H1) := by
  refine ⟨fun pins s σ H D I h => ?_⟩
  refine wpAny_Match (thn (he.run pins s σ H _ I h) fun v s1 ⟨x, H1, I1, r1, a, xs, ex, hq, q⟩ => ?_)
  subst ex
  cases r1
  exact hm.run pins s1 σ H1 D a xs true I1 hq q
/-! as denotations -/
def tM (K : PySem.W.Frag) (P : List Nat) (f : List PyData → FS) : List V → TS := fun xs D σ H => ∃ (G : Hp) (ρ : Rho) (ds : List PyData) (o : Out), EnvOk K G H σ ρ ∧ Da K G xs ds ∧ f ds ρ = some o ∧ Kont K P G H σ ρ D o
def mEnd : List PyData → FS := fun _ => fNext
def mCase (is : List Nat) (f : FS) (g : List PyData → FS) : List PyData → FS := fun ds ρ => if ds.length = is.length then (gSeq (is.map gNm) ds ρ).bind f else g ds ρ
def fMat (fe : FE PyData) (g : List PyData → FS) : FS := fun ρ => (fe ρ).bind fun p => match p.1 with
  | .tuple ds => g ds p.2
  | _ => none
theorem m_nil : PM X [] (tM X.K P mEnd) := PM.weak pm_nil fun xs D σ H ⟨G, ρ, ds, o, E, dx, ef, k⟩ => by
  cases ef
  exact k σ G H .refl E
theorem m_one {x : Str} {i : Nat} {px pp : Pos} (hp : i ∉ P) (hc : X.calm = true) (hN : X.N.Nodup) (hi : X.N[i]? = some x) (hx : Loc X.env.scope x) (hb : PSs X body (tS X.K P f)) (hr : PM X cs (tM X.K P g))
    (hf : X.fn x = true ∨ X.env.scope.names.lookup x = some .local := by first | exact .inl rfl | exact .inr rfl) :
    PM X (⟨.MatchSequence [.MatchAs none (some x) px] pp, none, body⟩ :: cs) (tM X.K P (mCase [i] f g)) := PM.weak (pm_one hc hN hi hx hb hr hf) fun xs D σ H ⟨G, ρ, ds, o, E, dx, ef, k⟩ => by
  unfold tCase
  unfold mCase at ef
  have hl := dx.len
  change (if ds.length = 1 then _ else _) = _ at ef
  by_cases hn : ds.length = 1
  · rw [if_pos hn] at ef
    rw [if_pos (hl.trans hn)]
    match ds, hn with
    | [d], _ =>
    obtain ⟨ρ1, q1, q2⟩ := Option.bind_eq_some_iff.mp ef
    obtain ⟨ρ2, q3, q4⟩ := Option.bind_eq_some_iff.mp (show (gNm i d ρ).bind _ = some ρ1 from q1)
    cases q4
    obtain ⟨hi', rfl⟩ := ite_p q3
    obtain ⟨v, rfl, dv⟩ := da_one dx
    refine ⟨v, [], rfl, rfl, G, _, o, E.set hi' dv, q2, k.pre ⟨.refl, fun l q => .inl (own_set q), fun j hj => List.getElem?_set_ne fun z => hp (by rw [z]; exact hj)⟩⟩
  · rw [if_neg hn] at ef
    rw [if_neg (by rw [hl]; exact hn)]
    exact ⟨G, ρ, ds, o, E, dx, ef, k⟩
theorem m_two {x y : Str} {i j : Nat} {px py pp : Pos} (hp : i ∉ P) (hp2 : j ∉ P) (hc : X.calm = true) (hN : X.N.Nodup) (hi : X.N[i]? = some x) (hj : X.N[j]? = some y) (hx : Loc X.env.scope x) (hy : Loc X.env.scope y) (hb : PSs X body (tS X.K P f)) (hr : PM X cs (tM X.K P g))
    (hf : X.fn x = true ∨ X.env.scope.names.lookup x = some .local := by first | exact .inl rfl | exact .inr rfl) (hg : X.fn y = true ∨ X.env.scope.names.lookup y = some .local := by first | exact .inl rfl | exact .inr rfl) :
    PM X (⟨.MatchSequence [.MatchAs none (some x) px, .MatchAs none (some y) py] pp, none, body⟩ :: cs) (tM X.K P (mCase [i, j] f g)) := PM.weak (pm_two hc hN hi hj hx hy hb hr hf hg) fun xs D σ H ⟨G, ρ, ds, o, E, dx, ef, k⟩ => by
  unfold tCase
  unfold mCase at ef
  have hl := dx.len
  change (if ds.length = 2 then _ else _) = _ at ef
  by_cases hn : ds.length = 2
  · rw [if_pos hn] at ef
    rw [if_pos (hl.trans hn)]
    match ds, hn with
    | [d, d2], _ =>
    obtain ⟨ρ1, q1, q2⟩ := Option.bind_eq_some_iff.mp ef
    obtain ⟨ρ2, q3, q4⟩ := Option.bind_eq_some_iff.mp (show (gNm i d ρ).bind _ = some ρ1 from q1)
    obtain ⟨ρ3, q5, q6⟩ := Option.bind_eq_some_iff.mp (show (gNm j d2 ρ2).bind _ = some ρ1 from q4)
    cases q6
    obtain ⟨hi', rfl⟩ := ite_p q3
    obtain ⟨hj', rfl⟩ := ite_p q5
    cases dx with
    | cons dv dt =>
      obtain ⟨v2, rfl, dv2⟩ := da_one dt
      have E1 := E.set hi' dv
      have E2 := E1.set hj' dv2
      refine ⟨_, _, rfl, _, _, rfl, rfl, G, _, o, E2, q2, k.pre ((Stp.trans (⟨.refl, fun l q => .inl (own_set q), fun j hj => List.getElem?_set_ne fun z => hp (by rw [z]; exact hj)⟩) ⟨.refl, fun l q => .inl (own_set q), fun j hj => List.getElem?_set_ne fun z => hp2 (by rw [z]; exact hj)⟩))⟩
  · rw [if_neg hn] at ef
    rw [if_neg (by rw [hl]; exact hn)]
    exact ⟨G, ρ, ds, o, E, dx, ef, k⟩
theorem s_match (he : PE X e (tE X.K bb fe)) (hm : PM X cs (tM X.K P g)) : PS X (.Match e cs pos) (tS X.K P (fMat fe g)) := PS.weak (ps_match he hm) fun D σ H ⟨G, ρ, o, E, ef, k⟩ => by
  obtain ⟨⟨d, ρ1⟩, h1, h2⟩ := Option.bind_eq_some_iff.mp ef
  cases d with
  | tuple ds =>
    refine ⟨G, ρ, _, ρ1, E, h1, fun v G1 H1 t1 o1 E1 d1 => ?_⟩
    obtain ⟨a, xs, rfl, hx, dx⟩ := dt_tup d1
    exact ⟨a, xs, rfl, Evl.ex_t E1.ex hx, G1, ρ1, ds, o, E1, dx, h2, k.pre (.of t1 o1)⟩
  | _ => cases h2
end
/-! ### all, any of anything plain -/
def smpl : PyData → Bool
  | .none => true
  | .bool _ => true
  | .int _ => true
  | _ => false
theorem smpl_plain : ∀ {ds : List PyData}, ds.all smpl = true → PyData.plainAll ds = true ∧ ∀ x ∈ ds, x.fits63
  | [], _ => ⟨rfl, fun _ h => nomatch h⟩
  | d :: ds, h => by
    rw [List.all_cons, Bool.and_eq_true] at h
    obtain ⟨a, b⟩ := smpl_plain h.2
    have q : d.plain = true ∧ d.fits63 := by
      cases d <;> first | exact ⟨rfl, trivial⟩ | (cases h.1; done)
    refine ⟨by rw [PyData.plainAll, q.1, a]; rfl, fun x hx => ?_⟩
    rcases List.mem_cons.mp hx with rfl | hx
    · exact q.2
    · exact b x hx
def allV : List PyData → Option PyData
  | [.list ds] => if ds.all smpl = true then some (.bool (ds.all PyData.truthy)) else none
  | [.tuple ds] => if ds.all smpl = true then some (.bool (ds.all PyData.truthy)) else none
  | _ => none
def anyV : List PyData → Option PyData
  | [.list ds] => if ds.all smpl = true then some (.bool (ds.any PyData.truthy)) else none
  | [.tuple ds] => if ds.all smpl = true then some (.bool (ds.any PyData.truthy)) else none
  | _ => none
section
variable {X : Cx} {K : PySem.W.Frag}
def rTruV (K : PySem.W.Frag) (tr : List PyData → Bool) : List V → Hp → VK → Prop := fun vs H Q => ∃ (a : Addr) (xs : List V) (ds : List PyData), vs = [V.ref a] ∧ (SqL K H a xs ∨ SqT K H a xs) ∧ Da K H xs ds ∧ ds.all smpl = true ∧ Q (.bl (tr ds)) H
theorem call_allV (hc : X.calm = true) : CallR X (.builtin "all") (rTruV X.K fun ds => ds.all PyData.truthy) := fun pins s σ H vs us Q I r ⟨a, xs, ds, ev, hs, dx, sm, q⟩ => by
  subst ev
  rw [Vals.ref1 r]
  obtain ⟨p1, p2⟩ := smpl_plain sm
  have fin : ∀ h' tk, (∀ b o, s.heap.get? b = some o → h'.get? b = some o) → EP X pins σ Q (.bool (ds.all PyData.truthy)) { s with heap := h', toks := tk } := fun h' tk hk => ⟨.bl _, H, I.kept hk, rfl, q⟩
  rcases hs with hs | hs
  · obtain ⟨its, rv, hl, _⟩ := I.list hs
    obtain ⟨as, hr⟩ := Da.reads I dx rv
    exact PySem.W.all_list_data (I.ok.hd hc) hl.isList hr p1 p2 fin
  · obtain ⟨its, rv, hl, _⟩ := I.tuple hs
    obtain ⟨as, hr⟩ := Da.reads I dx rv
    exact PySem.W.all_tuple_data (I.ok.hd hc) hl hr p1 p2 fin
theorem call_anyV (hc : X.calm = true) : CallR X (.builtin "any") (rTruV X.K fun ds => ds.any PyData.truthy) := fun pins s σ H vs us Q I r ⟨a, xs, ds, ev, hs, dx, sm, q⟩ => by
  subst ev
  rw [Vals.ref1 r]
  obtain ⟨p1, p2⟩ := smpl_plain sm
  have fin : ∀ h' tk, (∀ b o, s.heap.get? b = some o → h'.get? b = some o) → EP X pins σ Q (.bool (ds.any PyData.truthy)) { s with heap := h', toks := tk } := fun h' tk hk => ⟨.bl _, H, I.kept hk, rfl, q⟩
  rcases hs with hs | hs
  · obtain ⟨its, rv, hl, _⟩ := I.list hs
    obtain ⟨as, hr⟩ := Da.reads I dx rv
    exact PySem.W.any_list_data (I.ok.hd hc) hl.isList hr p1 p2 fin
  · obtain ⟨its, rv, hl, _⟩ := I.tuple hs
    obtain ⟨as, hr⟩ := Da.reads I dx rv
    exact PySem.W.any_tuple_data (I.ok.hd hc) hl hr p1 p2 fin
theorem d_truV {tr : List PyData → Bool} {g : List PyData → Option PyData} (hg : ∀ ds z, g ds = some z → ∃ es, (ds = [.list es] ∨ ds = [.tuple es]) ∧ es.all smpl = true ∧ z = .bool (tr es)) : CallD K (rTruV K tr) g := fun G H xs ds z Q ex hd hz k => by
  obtain ⟨es, h | h, sm, rfl⟩ := hg ds z hz
  · subst h
    obtain ⟨v, rfl, h⟩ := da_one hd
    obtain ⟨a, ys, rfl, hy, dy⟩ := dt_list h
    exact ⟨a, ys, es, rfl, .inl (hy.mono ex).sq, dy.mono ex, sm, k _ G H .refl ex (.bb _)⟩
  · subst h
    obtain ⟨v, rfl, h⟩ := da_one hd
    obtain ⟨a, ys, rfl, hy, dy⟩ := dt_tup h
    exact ⟨a, ys, es, rfl, .inr (Evl.ex_t ex hy), dy.mono ex, sm, k _ G H .refl ex (.bb _)⟩
theorem d_allV : CallD K (rTruV K fun ds => ds.all PyData.truthy) allV := d_truV fun ds z h => by
  unfold allV at h
  split at h
  · obtain ⟨a, b⟩ := ite_p h
    exact ⟨_, .inl rfl, a, b⟩
  · obtain ⟨a, b⟩ := ite_p h
    exact ⟨_, .inr rfl, a, b⟩
  · cases h
theorem d_anyV : CallD K (rTruV K fun ds => ds.any PyData.truthy) anyV := d_truV fun ds z h => by
  unfold anyV at h
  split at h
  · obtain ⟨a, b⟩ := ite_p h
    exact ⟨_, .inl rfl, a, b⟩
  · obtain ⟨a, b⟩ := ite_p h
    exact ⟨_, .inr rfl, a, b⟩
  · cases h
end
end Tw

set_option Elab.async false
set_option linter.all false
set_option maxRecDepth 100000
set_option maxHeartbeats 2000000
namespace Tw
open PySem PySem.Spec PyProof.Rows L2
open Evl (Ex)
/-! ### a def whose second argument is a list that it may change -/
def spM1 (K : PySem.W.Frag) (n : Nat) (g : List PyData → List PyData → Option (PyData × List PyData)) : Sp := fun vs H Q _ => ∃ (G : Hp) (v0 : V) (d0 : PyData) (l : Addr) (xs ws : List V) (ms ds : List PyData) (d : PyData) (ms' : List PyData), vs = v0 :: .ref l :: ws ∧ Ex G H ∧ G l = none ∧
  H l = some (.lst xs) ∧ Da K G xs ms ∧ Dt K G v0 d0 ∧ Da K G ws ds ∧ ds.length + 1 = n ∧ g ms (d0 :: ds) = some (d, ms') ∧
  ∀ v G' H' xs', Tr (fun a => a = l) G H G' H' → Ex G' H' → G' l = none → H' l = some (.lst xs') → Da K G' xs' ms' → Dt K G' v d → Q v H'
def outM1 : Option Out → Option (PyData × List PyData)
  | some (.rt d (_ :: .m (.l ms) :: _)) => some (d, ms)
  | some (.nx (_ :: .m (.l ms) :: _)) => some (.none, ms)
  | _ => none
def runM1 (m : Nat) (fb : FS) (ms : List PyData) : List PyData → Option (PyData × List PyData)
  | d0 :: ds => outM1 (fb (.d d0 :: .m ms :: (ds.map Sl.d ++ List.replicate (m - (ds.length + 2)) Sl.un)))
  | [] => none
theorem fn_M1 {Pr : Program} {w : World} {K : PySem.W.Frag} {mg : Str → Option Value} {base : Heap} {x qual : Str} {st : Stmt} {f : Addr} {fd : FuncData} {N ps : List Str} {k : Nat} (F : Fun K x qual st f fd) (S : FnScope N ps (defScope st)) {fb : FS} (hps : 1 < ps.length)
    (body : ∀ (cdv : Value) (A : Around) (outer : List Env) (s : Shared) (H : Hp), Here k (bx Pr w K mg base N qual st f cdv A outer s H) → PSs (bx Pr w K mg base N qual st f cdv A outer s H) (defBody st) (tS K [1] fb)) : FnG Pr w K mg base (k + 1) f fd ps (spM1 K (ps.length - 1) (runM1 N.length fb)) :=
  fn_G F S (fun vs H Q E ⟨G, v0, d0, l, xs, ws, ms, ds, d, ms', ev, ex, hG, hH, da, d0t, db, hl, _⟩ => by rw [ev, List.length_cons, List.length_cons, db.len]; omega) fun cdv A outer s H hh vs Q ⟨G, v0, d0, l, xs, ws, ms, ds, d, ms', ev, ex, hG, hH, da, d0t, db, hl, hg, k⟩ => by
    refine ⟨_, body cdv A outer s H hh, ?_⟩
    unfold runM1 at hg
    have e1 : L2.start N vs = some v0 :: some (.ref l) :: (ws.map some ++ List.replicate (N.length - (ds.length + 2)) none) := by unfold L2.start; rw [ev, List.length_cons, List.length_cons, db.len]; rfl
    rw [e1]
    have hm : noM (ds.map Sl.d ++ List.replicate (N.length - (ds.length + 2)) Sl.un) := noM_args noM_un ds
    have E : EnvOk K G H (some v0 :: some (.ref l) :: (ws.map some ++ List.replicate (N.length - (ds.length + 2)) none)) (.d d0 :: .m ms :: (ds.map Sl.d ++ List.replicate (N.length - (ds.length + 2)) Sl.un)) := env_cons (env_m (env_args (env_un ex) db) hm hG hH da) d0t
    have ow : ∀ a, own (some v0 :: some (.ref l) :: (ws.map some ++ List.replicate (N.length - (ds.length + 2)) none)) (.d d0 :: .m ms :: (ds.map Sl.d ++ List.replicate (N.length - (ds.length + 2)) Sl.un)) a → a = l := fun a ⟨i, es, q1, q2⟩ => by
      cases i with
      | zero => cases q1
      | succ i =>
        cases i with
        | zero => cases q2; rfl
        | succ i => exact (hm i es q1).elim
    cases ho : fb (.d d0 :: .m ms :: (ds.map Sl.d ++ List.replicate (N.length - (ds.length + 2)) Sl.un)) with
    | none => dsimp only at hg; rw [ho] at hg; cases hg
    | some o =>
      dsimp only at hg
      rw [ho] at hg
      refine ⟨G, _, o, E, ho, ?_⟩
      have at0 : ∀ {σ' : L2.St} {G' H' : Hp} {z : Sl} {ρ' : Rho} {ms'' : List PyData}, Stp [1] G H (some v0 :: some (.ref l) :: (ws.map some ++ List.replicate (N.length - (ds.length + 2)) none)) (.d d0 :: .m ms :: (ds.map Sl.d ++ List.replicate (N.length - (ds.length + 2)) Sl.un)) G' H' σ' (z :: .m ms'' :: ρ') →
          EnvOk K G' H' σ' (z :: .m ms'' :: ρ') → G' l = none ∧ ∃ xs', H' l = some (.lst xs') ∧ Da K G' xs' ms'' := fun {σ' G' H' z ρ' ms''} s' E' => by
        obtain ⟨l', xs', q1, q2, q3, q4⟩ := E'.muL (i := 1) (ds := ms'') rfl
        rw [s'.p 1 (List.mem_singleton.mpr rfl)] at q1
        cases q1
        exact ⟨q2, xs', q3, q4⟩
      cases o with
      | rt e r =>
        match r, hg with
        | z :: .m (.l ms'') :: r, hg =>
          cases hg
          exact fun v σ' G' H' s' E' dv => by
            obtain ⟨q2, xs', q3, q4⟩ := at0 s' E'
            exact k v G' H' xs' (s'.t.wide fun a _ _ q => ow a q) E'.ex q2 q3 q4 dv
      | rf ds' r => cases hg
      | nx r =>
        match r, hg with
        | z :: .m (.l ms'') :: r, hg =>
          cases hg
          exact fun σ' G' H' s' E' => by
            obtain ⟨q2, xs', q3, q4⟩ := at0 s' E'
            exact k .non G' H' xs' (s'.t.wide fun a _ _ q => ow a q) E'.ex q2 q3 q4 .nn
      | bk r => cases hg
      | ct r => cases hg
section
variable {X : Cx} {k : Nat} {f : Addr} {fd : FuncData} {ps : List Str} {x : Str} {p pos : Pos} {e0 e : Expr} {es : List Expr} {bb : Bool} {n : Nat}
def fCallM1 (n : Nat) (g : List PyData → List PyData → Option (PyData × List PyData)) (i : Nat) (fa : FE PyData) (ra : FE (List PyData)) : FE PyData := fun ρ => match ρ[i]? with
  | some (.m (.l _)) => thnE fa (fun d0 => thnE ra fun ds ρ1 => if ds.length + 1 = n then match ρ1[i]? with
    | some (.m (.l ms)) => (g ms (d0 :: ds)).map fun p => (p.1, ρ1.set i (.m (.l p.2)))
    | _ => none
    else none) ρ
  | _ => none
theorem e_callM1 {g : List PyData → List PyData → Option (PyData × List PyData)} {fa : FE PyData} {ra : FE (List PyData)} (i : Nat) (F : FnG X.prog X.w X.K X.mg X.base k f fd ps (spM1 X.K n g)) (hh : Here k X) (hg : Gl X x) (hm : X.mg x = some (.ref f)) (hk : PySem.W.keepIn X.K (.ref f) = true) (hb : Binds X.K fd ps [])
    (ha0 : PE X e0 (tE X.K true fa)) (h0 : PE X e (tVar i)) (ha : PA X es (tA X.K true ra)) (hdb : (x == ("__debug__" : Str)) = false := by decide) (he : starEach (e0 :: e :: es) X.env = (false, eval e0 X.env) :: starEach (e :: es) X.env := by rfl) (he2 : starEach (e :: es) X.env = (false, eval e X.env) :: starEach es X.env := by rfl) (hpl : (backTo pos (starEach (e :: es) X.env)).any (·.1) = false := by rfl) :
    PE X (.Call (.Name x p) (e0 :: e :: es) [] pos) (tE X.K true (fCallM1 n g i fa ra)) := PE.weak (call_G F hh hg hm hk hb (pa_cons ha0 (pa_cons h0 ha he2) he) hdb he hpl) fun σ H Q ⟨G, ρ, d, ρ', E, ef, kk⟩ => by
  unfold fCallM1 at ef
  split at ef
  case h_2 => cases ef
  rename_i ms0 hi0
  obtain ⟨d0, ρ0, h00, ef⟩ := thnE_of ef
  obtain ⟨ds, ρ1, h1, h2⟩ := thnE_of ef
  split at h2
  case isFalse => cases h2
  rename_i hl
  split at h2
  case h_2 => cases h2
  rename_i ms hi
  obtain ⟨⟨z, ms'⟩, h3, h4⟩ := Option.map_eq_some_iff.mp h2
  cases h4
  obtain ⟨l, _, hσ, _, _, _⟩ := E.muL hi0
  refine ⟨G, ρ, d0, ρ0, E, h00, fun v0 G0 H0 t0 o0 E0 dv0 => ⟨.ref l, hσ, G0, ρ0, ds, ρ1, E0, h1, fun ws G1 H1 t1 o1 E1 d1 => ?_⟩⟩
  obtain ⟨l2, xs, hσ2, hG, hH, dx⟩ := E1.muL hi
  rw [hσ] at hσ2
  cases hσ2
  refine ⟨G1, v0, d0, l, xs, ws, ms, ds, _, ms', rfl, E1.ex, hG, hH, dx, dv0.mono t1.g, d1, hl, h3, fun v G2 H2 xs' t2 ex2 hG2 hH2 dx2 dv => ?_⟩
  have own1 : own σ ρ1 l := ⟨i, _, hi, hσ⟩
  exact kk v G2 H2 ((t0.seq o0 t1).trans t2 fun a _ _ q => ⟨rfl, by rw [q]; exact o0 l (o1 l own1)⟩) (fun l' q => o0 l' (o1 l' (own_setM hi q))) (env_setM E1 hi hσ t2 ex2 hG2 hH2 (.l dx2)) dv
end
/-! ### a module's text -/
section
variable {X : Cx} {bb : Bool} {pos : Pos}
theorem e_globS {x : Str} {z : Str} (hg : Gl X x) (hm : ∃ t, X.mg x = some (.str z t)) (hd : (x == ("__debug__" : Str)) = false := by decide) : PE X (.Name x pos) (tE X.K bb (ret (.str z))) := by
  obtain ⟨t, hm⟩ := hm
  exact PE.weak (pe_glob (v := .str z) hg hm ⟨t, rfl⟩ hd) fun σ H Q ⟨G, ρ, d, ρ', E, ef, k⟩ => by
    cases ef
    exact k _ G H .refl (fun _ q => q) E (.ss _)
end
/-! ### range of three -/
def upsC (lo c : Int) (n : Nat) : List PyData := (List.range n).map fun i => .int (lo + (i : Nat) * c)
def rng3 : List PyData → Option (List PyData)
  | [.int i, .int j, .int c] => if (c ≠ 0 ∧ c.natAbs < 1073741824) ∧ Builtin.Range.small i j c = true then some (upsC i c (Builtin.Range.rangeSize i j c).toNat) else none
  | _ => none
section
variable {X : Cx} {tg : Expr} {bb : Bool} {pos p : Pos}
theorem walk_rc {K : PySem.W.Frag} {G : Hp} (lo c : Int) (n : Nat) : WalkD false K G (Itc lo c n) (upsC lo c n) where
  go := fun i H hi ex => by unfold upsC at hi; rw [List.length_map, List.length_range] at hi; exact hi
  stop := fun H ex => by unfold upsC; rw [List.length_map, List.length_range]; exact Nat.le_refl _
  yld := fun i H x H' y hy ex q G2 e1 e2 => by
    obtain ⟨rfl, rfl⟩ := q
    unfold upsC at hy
    rw [List.getElem?_map] at hy
    cases hr : (List.range n)[i]? with
    | none => rw [hr] at hy; cases hy
    | some j =>
      rw [hr] at hy
      obtain ⟨hj, ej⟩ := List.getElem?_eq_some_iff.mp hr
      rw [List.getElem_range] at ej
      cases ej
      cases hy
      exact ⟨G2, .refl, e2, .ii _⟩
theorem rsize_nat (i j c : Int) (hc : c ≠ 0) : Builtin.Range.rangeSize i j c = (((Builtin.Range.rangeSize i j c).toNat : Nat) : Int) := by
  have : 0 ≤ Builtin.Range.rangeSize i j c := by
    unfold Builtin.Range.rangeSize
    split
    · split
      · have := Int.ediv_nonneg (a := j - i - 1) (b := c) (by omega) (by omega)
        omega
      · exact Int.le_refl _
    · split
      · have := Int.ediv_nonneg (a := i - j - 1) (b := -c) (by omega) (by omega)
        omega
      · exact Int.le_refl _
  exact (Int.toNat_of_nonneg this).symm
theorem i_rng3 {a b c : Expr} {ra : FE (List PyData)} (hg : Gl X "range") (hm : X.mg "range" = none) (ha : PA X [a, b, c] (tA X.K bb ra))
    (hs : starEach [a, b, c] X.env = (false, eval a X.env) :: starEach [b, c] X.env := by rfl) (hpl : (backTo pos (starEach [b, c] X.env)).any (·.1) = false := by rfl) :
    PI X tg (.Call (.Name "range" p) [a, b, c] [] pos) (tI X.K bb (fRng rng3 ra)) := PI.weak (pi_range3 hg hm ha hs hpl) fun σ H R ⟨G, ρ, ds, ρ', E, ef, k⟩ => by
  obtain ⟨x, ρ1, h1, h2⟩ := thnE_of ef
  obtain ⟨h3, rfl⟩ := liftO_of h2
  refine ⟨G, ρ, x, ρ', E, h1, fun v G1 H1 t1 o1 E1 d1 => ?_⟩
  unfold rng3 at h3
  split at h3
  · rename_i i j c
    obtain ⟨hb, rfl⟩ := ite_p h3
    cases d1 with
    | cons dv d1 =>
    obtain ⟨v1, v2, rfl, d2, d3⟩ := da_two d1
    exact ⟨i, j, c, _, by rw [dt_int dv, dt_int d2, dt_int d3], ⟨hb.1.1, hb.1.2, hb.2, rsize_nat i j c hb.1.1⟩, k _ G1 H1 t1 o1 E1 (walk_rc _ _ _)⟩
  · cases h3
end
/-! ### min, max of a row of numbers -/
def extV (f : Int → Int → Int) : List PyData → Option PyData
  | [.list (.int n :: ds)] => (intsOf ds).map fun ns => .int (ns.foldl f n)
  | [.tuple (.int n :: ds)] => (intsOf ds).map fun ns => .int (ns.foldl f n)
  | _ => none
def rExtV (K : PySem.W.Frag) (f : Int → Int → Int) : List V → Hp → VK → Prop := fun vs H Q => ∃ (a : Addr) (n : Int) (ns : List Int), vs = [V.ref a] ∧ (SqL K H a ((n :: ns).map V.int) ∨ SqT K H a ((n :: ns).map V.int)) ∧ Q (.int (ns.foldl f n)) H
theorem ints_alike : ∀ ns : List Int, PySem.W.AlikeAll (ns.map PyData.int) := fun ns =>
  ⟨fun x hx y hy => by
    obtain ⟨i, _, rfl⟩ := List.mem_map.mp hx
    obtain ⟨j, _, rfl⟩ := List.mem_map.mp hy
    rfl, fun x hx => by
    obtain ⟨i, _, rfl⟩ := List.mem_map.mp hx
    exact fun z => nomatch z⟩
theorem ints_depth : ∀ ns : List Int, PyData.depthAll (ns.map PyData.int) = 0
  | [] => rfl
  | n :: ns => by
    rw [List.map_cons]
    show max (PyData.depth (.int n)) (PyData.depthAll (ns.map PyData.int)) = 0
    rw [ints_depth ns]
    rfl
section
variable {X : Cx} {K : PySem.W.Frag}
theorem ext_fin {pins : List (Addr × Obj)} {σ : L2.St} {H : Hp} {s : Shared} {Q : VK} (I : Inv X pins σ H s) {m : Int} (q : Q (.int m) H) : ∀ {v : Value} {h' : Heap} {tk : Nat} {bs : List Addr}, Reads h' v (.int m) bs → (∀ b o, s.heap.get? b = some o → h'.get? b = some o) → EP X pins σ Q v { s with heap := h', toks := tk } := fun {v h' tk bs} r hk => by
  cases r with
  | int i t => exact ⟨.int _, H, I.kept hk, ⟨t, rfl⟩, q⟩
theorem call_minV (hc : X.calm = true) (hu : X.A.units + 64 < cLine) : CallR X (.builtin "min") (rExtV X.K min) := fun pins s σ H vs us Q I r ⟨a, n, ns, ev, hs, q⟩ => by
  subst ev
  rw [Vals.ref1 r]
  have al := ints_alike (n :: ns)
  have dp := ints_depth (n :: ns)
  rw [List.map_cons] at al dp
  rcases hs with hs | hs
  · obtain ⟨its, rv, hl, _⟩ := I.list hs
    obtain ⟨as, hr⟩ := Da.reads (H := H) I (Da.ints (n :: ns)) rv
    exact PySem.W.min_list_data (I.ok.hd hc) hl.isList hr al (by rw [dp]; omega) fun i v h' tk bs hv r hk => by
      rw [PySem.W.minD_ints] at r
      exact ext_fin I q r hk
  · obtain ⟨its, rv, hl, _⟩ := I.tuple hs
    obtain ⟨as, hr⟩ := Da.reads (H := H) I (Da.ints (n :: ns)) rv
    exact PySem.W.min_tuple_data (I.ok.hd hc) hl hr al (by rw [dp]; omega) fun i v h' tk bs hv r hk => by
      rw [PySem.W.minD_ints] at r
      exact ext_fin I q r hk
theorem call_maxV (hc : X.calm = true) (hu : X.A.units + 64 < cLine) : CallR X (.builtin "max") (rExtV X.K max) := fun pins s σ H vs us Q I r ⟨a, n, ns, ev, hs, q⟩ => by
  subst ev
  rw [Vals.ref1 r]
  have al := ints_alike (n :: ns)
  have dp := ints_depth (n :: ns)
  rw [List.map_cons] at al dp
  rcases hs with hs | hs
  · obtain ⟨its, rv, hl, _⟩ := I.list hs
    obtain ⟨as, hr⟩ := Da.reads (H := H) I (Da.ints (n :: ns)) rv
    exact PySem.W.max_list_data (I.ok.hd hc) hl.isList hr al (by rw [dp]; omega) fun i v h' tk bs hv r hk => by
      rw [PySem.W.maxD_ints] at r
      exact ext_fin I q r hk
  · obtain ⟨its, rv, hl, _⟩ := I.tuple hs
    obtain ⟨as, hr⟩ := Da.reads (H := H) I (Da.ints (n :: ns)) rv
    exact PySem.W.max_tuple_data (I.ok.hd hc) hl hr al (by rw [dp]; omega) fun i v h' tk bs hv r hk => by
      rw [PySem.W.maxD_ints] at r
      exact ext_fin I q r hk
theorem d_extV (f : Int → Int → Int) : CallD K (rExtV K f) (extV f) := fun G H xs ds z Q ex hd hz k => by
  unfold extV at hz
  split at hz
  · rename_i n es
    obtain ⟨ns, h1, rfl⟩ := Option.map_eq_some_iff.mp hz
    obtain rfl := intsOf_eq h1
    obtain ⟨v, rfl, h⟩ := da_one hd
    obtain ⟨a, ys, rfl, hy, dy⟩ := dt_list h
    obtain rfl := da_ints (ns := n :: ns) dy
    exact ⟨a, n, ns, rfl, .inl (hy.mono ex).sq, k _ G H .refl ex (.ii _)⟩
  · rename_i n es
    obtain ⟨ns, h1, rfl⟩ := Option.map_eq_some_iff.mp hz
    obtain rfl := intsOf_eq h1
    obtain ⟨v, rfl, h⟩ := da_one hd
    obtain ⟨a, ys, rfl, hy, dy⟩ := dt_tup h
    obtain rfl := da_ints (ns := n :: ns) dy
    exact ⟨a, n, ns, rfl, .inr (Evl.ex_t ex hy), k _ G H .refl ex (.ii _)⟩
  · cases hz
end
end Tw

set_option Elab.async false
set_option linter.all false
set_option maxRecDepth 100000
set_option maxHeartbeats 2000000
namespace Tw
open PySem PySem.Spec PyProof.Rows L2
open Evl (Ex)
/-! ### x in a row, both anything plain -/
section
variable {X : Cx} {K : PySem.W.Frag}
def layB (d : PyData) (ys : List PyData) : Bool := d.canLay0 && PyData.canLayAll0 ys && decide (d.depth ≤ 60)
theorem layB_of {d : PyData} {ys : List PyData} (h : layB d ys = true) : d.canLay0 = true ∧ PyData.canLayAll0 ys = true ∧ d.depth ≤ 60 := by
  have h1 := Bool.and_eq_true_iff.mp h
  have h2 := Bool.and_eq_true_iff.mp h1.1
  exact ⟨h2.1, h2.2, of_decide_eq_true h1.2⟩
def rInP (K : PySem.W.Frag) (neg : Bool) : R2 := fun x y H Q => ∃ d ys, Dt K H x d ∧ (Dt K H y (.list ys) ∨ Dt K H y (.tuple ys)) ∧ layB d ys = true ∧ Q (.bl (if neg = true then !inA d ys else inA d ys)) H
theorem op_inP (hu : X.A.units + 64 < cLine) : OpR X (compareOp .In) (rInP X.K false) := by
  intro pins s σ H x y v u Q I rx ry ⟨d, ys, hd, he, hl, q⟩
  obtain ⟨l1, l2, l3⟩ := layB_of hl
  obtain ⟨as, r1⟩ := hd.reads I rx
  have room : X.A.units + 1 + min (PyData.depthAll ys) d.depth < cLine := by
    have := Nat.min_le_right (PyData.depthAll ys) d.depth
    omega
  rcases he with he | he
  · obtain ⟨bs, r2⟩ := he.reads I ry
    exact SeqAt.in_list_reads r2 r1 l2 l1 room ⟨.bl _, H, I, rfl, q⟩
  · obtain ⟨bs, r2⟩ := he.reads I ry
    exact SeqAt.in_tuple_reads r2 r1 l2 l1 room ⟨.bl _, H, I, rfl, q⟩
theorem op_notInP (hu : X.A.units + 64 < cLine) : OpR X (compareOp .NotIn) (rInP X.K true) := by
  intro pins s σ H x y v u Q I rx ry ⟨d, ys, hd, he, hl, q⟩
  obtain ⟨l1, l2, l3⟩ := layB_of hl
  obtain ⟨as, r1⟩ := hd.reads I rx
  have room : X.A.units + 1 + min (PyData.depthAll ys) d.depth < cLine := by
    have := Nat.min_le_right (PyData.depthAll ys) d.depth
    omega
  rcases he with he | he
  · obtain ⟨bs, r2⟩ := he.reads I ry
    exact SeqAt.notIn_list_reads r2 r1 l2 l1 room ⟨.bl _, H, I, rfl, q⟩
  · obtain ⟨bs, r2⟩ := he.reads I ry
    exact SeqAt.notIn_tuple_reads r2 r1 l2 l1 room ⟨.bl _, H, I, rfl, q⟩
def inP (neg : Bool) : PyData → PyData → Option PyData := fun d e => (itemsOf e).bind fun ys => if layB d ys = true then some (.bool (if neg = true then !inA d ys else inA d ys)) else none
theorem d_inP (neg : Bool) : OpD K (rInP K neg) (inP neg) := fun G H x y d e z Q ex hd he hz k => by
  obtain ⟨ys, h1, h2⟩ := Option.bind_eq_some_iff.mp hz
  obtain ⟨h3, rfl⟩ := ite_p h2
  unfold itemsOf at h1
  split at h1
  · cases h1
    exact ⟨d, ys, hd.mono ex, .inl (he.mono ex), h3, k _ G H .refl ex (.bb _)⟩
  · cases h1
    exact ⟨d, ys, hd.mono ex, .inr (he.mono ex), h3, k _ G H .refl ex (.bb _)⟩
  · cases h1
end
def inG (neg : Bool) : PyData → PyData → Option PyData := fun d e => (inD neg d e).or (inP neg d e)
section
variable {X : Cx} {bb : Bool}
theorem op_inG (hu : X.A.units + 64 < cLine) : OpR X (compareOp .In) (fun x y H Q => rIn X.K false x y H Q ∨ rInP X.K false x y H Q) := op_in_seq.or (op_inP hu)
theorem op_notInG (hu : X.A.units + 64 < cLine) : OpR X (compareOp .NotIn) (fun x y H Q => rIn X.K true x y H Q ∨ rInP X.K true x y H Q) := op_notIn_seq.or (op_notInP hu)
theorem d_inG {K : PySem.W.Frag} (neg : Bool) : OpD K (fun x y H Q => rIn K neg x y H Q ∨ rInP K neg x y H Q) (inG neg) := (d_in neg).or (d_inP neg)
/-! ### d.get(k) -/
def getD1 : PyData → PyData → Option PyData
  | .dict es, x => (keyOf x).map fun k => (getE es k).getD .none
  | _, _ => none
theorem e_get {fo fe : FE PyData} {o e : Expr} {apos cpos : Pos} (hu : X.A.units + 1 < cLine) (ho : PE X o (tE X.K bb fo)) (he : PE X e (tE X.K bb fe)) (m : M1 X o "get" apos e cpos) :
    PE X (.Call (.Attribute o "get" apos) [e] [] cpos) (tE X.K bb (fBin getD1 fo fe)) := PE.weak (pe_dget1 hu ho he m) fun σ H Q ⟨G, ρ, d, ρ', E, ef, k⟩ => by
  obtain ⟨x, ρ1, h1, h2⟩ := thnE_of ef
  obtain ⟨y, ρ2, h3, h4⟩ := thnE_of h2
  obtain ⟨h5, rfl⟩ := liftO_of h4
  unfold getD1 at h5
  split at h5
  case h_2 => cases h5
  rename_i es
  obtain ⟨kk, hk, rfl⟩ := Option.map_eq_some_iff.mp h5
  refine ⟨G, ρ, _, ρ1, E, h1, fun v G1 H1 t1 o1 E1 d1 => ?_⟩
  obtain ⟨a, kvs, ds, rfl, hx, dx, rfl⟩ := dt_dict d1
  refine ⟨a, rfl, .inl ⟨kvs, Evl.ex_rd E1.ex hx⟩, G1, ρ1, y, ρ', E1, h3, fun w G2 H2 t2 o2 E2 d2 => ?_⟩
  have ey := keyOf_dt d2 hk
  have hx2 : Rd H2 a (.dK kvs) := Evl.ex_rd E2.ex (Evl.ex_rd t2.g hx)
  refine ⟨valV kvs kk, by rw [ey]; exact .inl ⟨_, _, hx2, rfl, rfl⟩, ?_⟩
  cases hg : getE (zipE kvs ds) kk with
  | none =>
    rw [(ek_get kk dx).2.1 hg]
    rw [hg] at k
    exact k _ G2 H2 (t1.seq o1 t2) (fun l q => o1 l (o2 l q)) E2 .nn
  | some z =>
    obtain ⟨v, hv, dv⟩ := (ek_get kk dx).1 z hg
    rw [hv]
    rw [hg] at k
    exact k _ G2 H2 (t1.seq o1 t2) (fun l q => o1 l (o2 l q)) E2 (dv.mono t2.g)
end
end Tw

set_option Elab.async false
set_option linter.all false
set_option maxRecDepth 100000
set_option maxHeartbeats 2000000
namespace Tw
open PySem PySem.Spec PyProof.Rows L2
open Evl (Ex)
/-! ### zip of a tuple and a list -/
def ItzM (K : PySem.W.Frag) (a b : Addr) : It :=
  ⟨fun i H => ∃ (xs ys : List V) (x y : V), SqT K H a xs ∧ SqL K H b ys ∧ xs[i]? = some x ∧ ys[i]? = some y,
    fun i H v H' => ∃ T x y, v = .ref T ∧ H T = none ∧ H' = upd H T (.tup [x, y]) ∧ (∀ xs, SqT K H a xs → xs[i]? = some x) ∧ ∀ ys, SqL K H b ys → ys[i]? = some y,
    fun i H => ∃ xs ys : List V, SqT K H a xs ∧ SqL K H b ys ∧ i = min xs.length ys.length⟩
def zmFp (z TI TO i1 i2 : Addr) : List Addr := [z, TI, TO, i1, i2]
def zmTn (a b z TI TO i1 i2 : Addr) : Nat → Heap → Prop := fun i h => IsZip h z TI TO .none ∧ IsTupOf2 h TI (.ref i1) (.ref i2) ∧ (∃ x y, IsTupOf2 h TO x y) ∧ h.IsTupleIter i1 a i ∧ h.IsListIter i2 b i
theorem zm_sep {z TI TO i1 i2 a b : Addr} (D : ZipApart z TI TO i1 i2 a b) : ZipSep2 z TI TO i1 i2 [i1, a] [i2, b] where
  TIz := D.TIz
  TOz := D.TOz
  TITO := D.TITO
  TIi1 := D.TIi1
  mem1 := List.mem_cons_self ..
  zf1 := by simp only [List.mem_cons, List.not_mem_nil, or_false, not_or]; exact ⟨D.i1z.symm, D.l1z.symm⟩
  Tf1 := by simp only [List.mem_cons, List.not_mem_nil, or_false, not_or]; exact ⟨D.TOi1, D.l1TO.symm⟩
  TIi2 := D.TIi2
  mem2 := List.mem_cons_self ..
  zf2 := by simp only [List.mem_cons, List.not_mem_nil, or_false, not_or]; exact ⟨D.i2z.symm, D.l2z.symm⟩
  Tf2 := by simp only [List.mem_cons, List.not_mem_nil, or_false, not_or]; exact ⟨D.TOi2, D.l2TO.symm⟩
  sep1_2 := by simp only [List.mem_cons, List.not_mem_nil, or_false, not_or]; exact ⟨D.i12, D.l2i1.symm⟩
  sep2_1 := by simp only [List.mem_cons, List.not_mem_nil, or_false, not_or]; exact ⟨D.i12.symm, D.l1i2.symm⟩
def zm_goes {P : Program} {w : World} {A : Around} {elts : List Expr} {kk : Nat} {tpos : Pos} {a b z TI TO i1 i2 : Addr} (hh : A.handled = none) (D : ZipApart z TI TO i1 i2 a b) (xs ys : Array Value) :=
  GoesN.zip2 (prog := P) (w := w) (A := A) (elts := elts) (x1 := kk) (pos := tpos) (zm_sep D) (Draws.tuple (prog := P) (w := w) (A := A.in1) hh i1 a D.l1i1 xs) (Draws.list (prog := P) (w := w) (A := A.in1) hh i2 b D.l2i2 ys)
theorem turn_zipM {P : Program} {w : World} {K : PySem.W.Frag} {elts : List Expr} {kk : Nat} {tpos : Pos} {a b z TI TO i1 i2 : Addr} (D : ZipApart z TI TO i1 i2 a b) :
    Turn P w K (.Tuple elts kk tpos) (ItzM K a b) (zmFp z TI TO i1 i2) z (zmTn a b z TI TO i1 i2) where
  mem := List.mem_cons_self ..
  obj := fun i h ⟨s1, s2, ⟨x, y, s3⟩, ⟨o1, s4, _, d1⟩, ⟨o2, s5, _, d2⟩⟩ c hc => by
    unfold zmFp at hc
    simp only [List.mem_cons, List.not_mem_nil, or_false] at hc
    rcases hc with rfl | rfl | rfl | rfl | rfl
    · exact ⟨_, s1, fun v e => nomatch e⟩
    · exact ⟨_, s2, fun v e => nomatch e⟩
    · exact ⟨_, s3, fun v e => nomatch e⟩
    · exact ⟨o1, s4, fun v e => by rw [d1] at e; cases e⟩
    · exact ⟨o2, s5, fun v e => by rw [d2] at e; cases e⟩
  keep := fun i h h' ⟨s1, s2, ⟨x, y, s3⟩, s4, s5⟩ k =>
    ⟨k z (by simp [zmFp]) _ s1, k TI (by simp [zmFp]) _ s2, ⟨x, y, k TO (by simp [zmFp]) _ s3⟩, s4.at fun o e => k i1 (by simp [zmFp]) o e, s5.at fun o e => k i2 (by simp [zmFp]) o e⟩
  item := by
    intro X hP hw hK hc i pins s σ H E I hf ⟨s1, s2, s3, s4, s5⟩ ⟨xs, ys, x, y, qx, qy, ex, ey⟩
    subst hP hw hK
    obtain ⟨us, ru, pu, _⟩ := I.tuple qx
    obtain ⟨ws, rw', pw, _⟩ := I.list qy
    obtain ⟨u, hu, relu⟩ := ru.get ex
    obtain ⟨v, hv, relv⟩ := rw'.get ey
    have lu : i < us.length := (List.getElem?_eq_some_iff.mp hu).1
    have lw : i < ws.length := (List.getElem?_eq_some_iff.mp hv).1
    refine (zm_goes (P := X.prog) (w := X.w) (elts := elts) (kk := kk) (tpos := tpos) (I.ok.hd hc) D us.toArray ws.toArray).goes i s (fun u s2 => ∃ x H', Inv X pins σ H' s2 ∧ RelV x u ∧ (ItzM X.K a b).yld i H x H' ∧ zmTn a b z TI TO i1 i2 (i + 1) s2.heap ∧ ∀ b ∈ zmFp z TI TO i1 i2, H' b = none) E
      (by simp only [List.size_toArray]; omega) ⟨s1, s2, s3, ⟨s4, pu⟩, s5, pw.isList⟩ fun vv h' tk ⟨T, p, q, e, hn, hp, hq, hT⟩ ⟨t1, t2, t3, t4, t5⟩ fr ht => ?_
    subst e
    have ep : p = u := by
      have hp' : us[i]? = some p := by simpa using hp
      rw [hu] at hp'
      exact (Option.some.inj hp').symm
    have eq : q = v := by
      have hq' : ws[i]? = some q := by simpa using hq
      rw [hv] at hq'
      exact (Option.some.inj hq').symm
    subst ep eq
    have new : ObjOk X.prog X.w (upd H T (.tup [x, y])) h' T (.tup [x, y]) := ⟨by show 2 ≤ sizeLine; decide, [p, q], .cons relu (.cons relv .nil), hT⟩
    have I1 : Inv X pins σ (upd H T (.tup [x, y])) { s with heap := h', toks := tk } :=
      I.turnedNew (t' := tk) (ch := zmFp z TI TO i1 i2) (fun c o hb e => fr c o (fun m => hb (by simp only [zmFp, List.mem_cons, List.not_mem_nil, or_false] at m ⊢; rcases m with m | m | m | m <;> simp [m])) e) hf hn new
    refine ⟨.ref T, _, I1, rfl, ⟨T, x, y, rfl, I.hok.fresh hn, rfl, fun l hl => by rw [I.tuple_inj hl qx]; exact ex, fun l hl => by rw [I.list_inj hl qy]; exact ey⟩, ⟨t1, t2, t3, t4.1, t5.1⟩, fun c hcm => ?_⟩
    have hlt : c < s.heap.objs.size := by
      obtain ⟨x3, y3, s3⟩ := s3
      obtain ⟨_, e4, _⟩ := s4
      obtain ⟨_, e5, _⟩ := s5
      simp only [zmFp, List.mem_cons, List.not_mem_nil, or_false] at hcm
      rcases hcm with rfl | rfl | rfl | rfl | rfl
      · exact Heap.lt_size s1
      · exact Heap.lt_size s2
      · exact Heap.lt_size s3
      · exact Heap.lt_size e4
      · exact Heap.lt_size e5
    rw [upd_ne (Nat.ne_of_lt (Nat.lt_of_lt_of_le hlt hn))]
    exact (hf c hcm).1
  done := by
    intro X hP hw hK hc i pins s σ H E I hf ⟨s1, s2, s3, s4, s5⟩ ⟨xs, ys, qx, qy, ei⟩
    subst hP hw hK
    obtain ⟨us, ru, pu, _⟩ := I.tuple qx
    obtain ⟨ws, rw', pw, _⟩ := I.list qy
    have l1 := ru.length
    have l2 := rw'.length
    have en : i = min us.toArray.size ws.toArray.size := by simp only [List.size_toArray]; omega
    subst en
    exact (zm_goes (P := X.prog) (w := X.w) (elts := elts) (kk := kk) (tpos := tpos) (I.ok.hd hc) D us.toArray ws.toArray).stops s (fun s1 => Inv X pins σ H s1) E ⟨s1, s2, s3, ⟨s4, pu⟩, s5, pw.isList⟩ fun h' tk fr ht =>
      I.turnedL (t' := tk) (ch := zmFp z TI TO i1 i2) (fun c o hb e => fr c o (fun m => hb (by simp only [zmFp, List.mem_cons, List.not_mem_nil, or_false] at m ⊢; rcases m with m | m | m | m <;> simp [m])) e) hf
  self := fun A i s Q E st h => wpAny_pyIter_zip st.1 h
def iZipM (K : PySem.W.Frag) (ta : TA) : TI := fun σ H R => ta σ H fun vs H1 => ∃ a b xs ys, vs = [.ref a, .ref b] ∧ SqT K H1 a xs ∧ SqL K H1 b ys ∧ R (ItzM K a b) H1
theorem pi_zipM {X : Cx} {e e2 : Expr} {ta : TA} {p pos tpos : Pos} {elts : List Expr} {kk : Nat} (hg : Gl X "zip") (hm : X.mg "zip" = none) (ha : PA X [e, e2] ta)
    (hs : starEach [e, e2] X.env = (false, eval e X.env) :: starEach [e2] X.env := by rfl) (hpl : (backTo pos (starEach [e2] X.env)).any (·.1) = false := by rfl) :
    PI X (.Tuple elts kk tpos) (.Call (.Name "zip" p) [e, e2] [] pos) (iZipM X.K ta) := by
  refine ⟨fun pins s σ H R I h => ?_⟩
  refine Call_ (ld_blt I hg hm PyProof.Rows.boot_zip (PyProof.Rows.callWith_type1 (thn (ha.run pos pins s σ H _ I h) fun us s1 ⟨vs, H1, I1, r1, q1⟩ => ?_) hs hpl))
  obtain ⟨a, b, xs, ys, ex, qx, qy, q⟩ := q1
  subst ex
  obtain ⟨ua, ub, rfl, ra, rb⟩ := vals2 r1
  cases ra
  cases rb
  obtain ⟨us, ru, pu, _⟩ := I1.tuple qx
  obtain ⟨ws, rw', pw, _⟩ := I1.list qy
  have fresh : ∀ c ∈ zmFp (s1.heap.objs.size + 4) (s1.heap.objs.size + 2) (s1.heap.objs.size + 3) s1.heap.objs.size (s1.heap.objs.size + 1), FpOk X pins H1 c := fun c hc => by
    have le : s1.heap.objs.size ≤ c := by
      simp only [zmFp, List.mem_cons, List.not_mem_nil, or_false] at hc
      rcases hc with rfl | rfl | rfl | rfl | rfl
      · exact Nat.le_add_right _ _
      · exact Nat.le_add_right _ _
      · exact Nat.le_add_right _ _
      · exact Nat.le_refl _
      · exact Nat.le_add_right _ _
    exact I1.fpOk le (I1.hok.fresh le)
  have pa : s1.heap.IsTuple a us.toArray := pu
  refine zip_begins2 (begins_tuple a us.toArray) (begins_list b ws.toArray) pa pw.isList fun h' z1 z2 z3 z4 z5 z6 k => wpAny_pyIter_zip z1 ?_
  have I2 : Inv X pins σ H1 { s1 with heap := h' } := I1.kept (t' := s1.toks) k
  obtain ⟨oa, ea, _⟩ := pa
  refine ⟨s1.heap.objs.size + 4, zmFp (s1.heap.objs.size + 4) (s1.heap.objs.size + 2) (s1.heap.objs.size + 3) s1.heap.objs.size (s1.heap.objs.size + 1), _, _, H1, rfl, I2, turn_zipM (PySem.W.ktu_apart s1.heap.objs.size a b (Heap.lt_size ea) pw.lt), ⟨z1, z2, ⟨_, _, z3⟩, ⟨_, z4, rfl, rfl⟩, ⟨_, z5, rfl, rfl⟩⟩, fresh, q⟩
def zipMN : List PyData → Option (List PyData)
  | [.tuple ds, .list es] => some (prs ds es)
  | _ => none
def fZipM (r : FE (List PyData)) : FE (List PyData) := thnE r fun xs => liftO (zipMN xs)
section
variable {X : Cx} {bb : Bool} {e e2 : Expr} {p pos tpos : Pos}
theorem i_zipM {elts : List Expr} {kk : Nat} {ra : FE (List PyData)} (hg : Gl X "zip") (hm : X.mg "zip" = none) (ha : PA X [e, e2] (tA X.K bb ra))
    (hs : starEach [e, e2] X.env = (false, eval e X.env) :: starEach [e2] X.env := by rfl) (hpl : (backTo pos (starEach [e2] X.env)).any (·.1) = false := by rfl) :
    PI X (.Tuple elts kk tpos) (.Call (.Name "zip" p) [e, e2] [] pos) (tIw true X.K bb (fZipM ra)) := PI.weak (pi_zipM hg hm ha hs hpl) fun σ H R ⟨G, ρ, ds, ρ', E, ef, k⟩ => by
  obtain ⟨x, ρ1, h1, h2⟩ := thnE_of ef
  obtain ⟨h3, rfl⟩ := liftO_of h2
  refine ⟨G, ρ, x, ρ', E, h1, fun v G1 H1 t1 o1 E1 d1 => ?_⟩
  unfold zipMN at h3
  split at h3
  case h_2 => cases h3
  rename_i ds2 es2
  cases h3
  obtain ⟨v, u, rfl, dv, du⟩ := da_two d1
  obtain ⟨a, xs, rfl, hx, dx⟩ := dt_tup dv
  obtain ⟨b, ys, rfl, hy, dy⟩ := dt_list du
  refine ⟨a, b, xs, ys, rfl, Evl.ex_t E1.ex hx, (hy.mono E1.ex).sq, k _ G1 H1 t1 o1 E1 ?_⟩
  have hl : (prs ds2 es2).length = min xs.length ys.length := by rw [prs_len, dx.len, dy.len]
  refine ⟨fun i H hi ex => ⟨xs, ys, xs[i]'(by omega), ys[i]'(by omega), Evl.ex_t ex hx, (hy.mono ex).sq, List.getElem?_eq_getElem _, List.getElem?_eq_getElem _⟩,
    fun H ex => ⟨xs, ys, Evl.ex_t ex hx, (hy.mono ex).sq, hl⟩, fun i H y H' d hd ex q G2 e1 e2 => ?_⟩
  obtain ⟨T, z, z2, rfl, hT, rfl, q, q2⟩ := q
  obtain ⟨da, db, k1, k2, rfl⟩ := prs_get hd
  obtain ⟨w, h4, h5⟩ := dx.get k1
  obtain ⟨w2, h6, h7⟩ := dy.get k2
  have r1 := q xs (Evl.ex_t ex hx)
  have r2 := q2 ys ((hy.mono ex).sq)
  rw [h4] at r1
  rw [h6] at r2
  cases r1
  cases r2
  exact pair_yld hT e1 e2 h5 h7
end
/-! ### t[i::c], a tuple from a place on by steps -/
def picks (i c n : Nat) : List Nat := (List.range (if i < n then (n - i - 1) / c + 1 else 0)).map fun k => i + k * c
section
variable {prog : Program} {w : World} {A : Around} {E : Value → Shared → Prop} {s : Shared}
theorem step_places (i c n : Nat) (hc : 2 ≤ c) : Builtin.Slice.slicePlaces (min (i : Int) (n : Int)) (n : Int) (c : Int) = (picks i c n).length := by
  unfold Builtin.Slice.slicePlaces picks
  rw [List.length_map, List.length_range, if_pos (by omega)]
  by_cases h : i < n
  · rw [if_pos h, if_pos (by omega)]
    have e : (n : Int) - min (i : Int) (n : Int) - 1 = ((n - i - 1 : Nat) : Int) := by omega
    rw [e, ← Int.natCast_ediv]
    generalize (n - i - 1) / c = q
    omega
  · rw [if_neg h, if_neg (by omega)]
    rfl
theorem step_pick (xs : Array Value) (i c : Nat) (hc : 2 ≤ c) : ((List.range (picks i c xs.size).length).filterMap fun (k : Nat) => xs[(min (i : Int) (xs.size : Int) + (k : Int) * (c : Int)).toNat]?).toArray = ((picks i c xs.size).filterMap (xs[·]?)).toArray := by
  by_cases h : i < xs.size
  · have e : (picks i c xs.size).length = (xs.size - i - 1) / c + 1 := by
      unfold picks
      rw [List.length_map, List.length_range, if_pos h]
    rw [e]
    unfold picks
    rw [if_pos h, List.filterMap_map]
    congr 1
    refine fm_congr fun k hk => ?_
    have e2 : (min (i : Int) (xs.size : Int) + (k : Int) * (c : Int)).toNat = i + k * c := by
      rw [show min (i : Int) (xs.size : Int) = (i : Int) by omega, ← Int.natCast_mul, ← Int.natCast_add, Int.toNat_natCast]
    show xs[(min (i : Int) (xs.size : Int) + (k : Int) * (c : Int)).toNat]? = xs[i + k * c]?
    rw [e2]
  · have e : picks i c xs.size = [] := by
      unfold picks
      rw [if_neg h]
      rfl
    rw [e]
    rfl
theorem step_applied {sl : Addr} {u v : Tok} {i c n : Nat} {Q : Int × Int × Nat → Shared → Prop} (hc : 2 ≤ c) (hs : s.heap.IsSliceOf sl (.int (i : Int) u) .none (.int (c : Int) v)) (h : Q (min (i : Int) (n : Int), (c : Int), (picks i c n).length) s) :
    wpAny (model prog w) A (Builtin.Slice.sliceApplied (.ref sl) (pure (n : Int))) Q E s := by
  obtain ⟨os, hos, hcs, hds⟩ := id hs
  unfold Builtin.Slice.sliceApplied Builtin.Slice.sliceFields
  refine wpAny_bind (wpAny_bind (wpAny_field hos hds (x := .int (i : Int) u) rfl (wpAny_bind (wpAny_field hos hds (x := .none) rfl (wpAny_bind (wpAny_field hos hds (x := .int (c : Int) v) rfl (wpAny_pure ?_)))))))
  refine wpAny_bind (slicePart_int ?_)
  have cz : ((c : Int) == 0) = false := beq_eq_false_iff_ne.mpr (by omega)
  show wpAny _ _ (if ((c : Int) == 0) = true then _ else _) _ _ s
  rw [if_neg (by rw [cz]; decide)]
  refine wpAny_bind (slicePart_int (wpAny_bind (slicePart_none (wpAny_bind (wpAny_pure ?_)))))
  have e1 : Builtin.Slice.sliceAdjust (some (i : Int)) none (c : Int) (n : Int) = (min (i : Int) (n : Int), (n : Int)) := by
    unfold Builtin.Slice.sliceAdjust
    have h1 : ¬ (c : Int) < 0 := by omega
    have h2 : ¬ (i : Int) < 0 := by omega
    simp only [if_neg h1, if_neg h2]
  show wpAny _ _ (match Builtin.Slice.sliceAdjust (some (i : Int)) none (c : Int) (n : Int) with | (lo, hi) => pure (lo, (c : Int), Builtin.Slice.slicePlaces lo hi (c : Int))) _ _ s
  rw [e1]
  show wpAny _ _ (pure (min (i : Int) (n : Int), (c : Int), Builtin.Slice.slicePlaces (min (i : Int) (n : Int)) (n : Int) (c : Int))) _ _ s
  rw [step_places i c n hc]
  exact wpAny_pure h
theorem picks_len (i c n : Nat) (hc : 2 ≤ c) : (picks i c n).length ≤ n := by
  unfold picks
  rw [List.length_map, List.length_range]
  by_cases h : i < n
  · rw [if_pos h]
    have := Nat.div_le_self (n - i - 1) c
    omega
  · rw [if_neg h]
    exact Nat.zero_le _
theorem step_tuple {t sl : Addr} {items : Array Value} {u v : Tok} {i c : Nat} {Q : Value → Shared → Prop} (hc : 2 ≤ c) (ht : IsTup s.heap t items) (hs : s.heap.IsSliceOf sl (.int (i : Int) u) .none (.int (c : Int) v))
    (h : Q (.ref s.heap.objs.size) { s with heap := s.heap.push { cls := .type "tuple", data := .seq ((picks i c items.size).filterMap (items[·]?)).toArray } }) (hsz : items.size ≤ sizeLine) : wpAny (model prog w) A (getItem (.ref t) (.ref sl)) Q E s := by
  have ht2 : PySem.sizeOk (.seq ((picks i c items.size).filterMap (items[·]?)).toArray) := by
    show ((picks i c items.size).filterMap (items[·]?)).toArray.size ≤ sizeLine
    rw [List.size_toArray]
    have h1 := List.length_filterMap_le (items[·]?) (picks i c items.size)
    have h2 := picks_len i c items.size hc
    omega
  obtain ⟨os, hos, hcs, hds⟩ := id hs
  have hTs : s.TypeIs (.ref sl) "slice" := ⟨os, hos, hcs⟩
  unfold getItem
  try with_reducible refine wpAny_holding ?_
  first | refine wpAny_bind (wpAny_pure ?_) | skip
  refine wpAny_bind (wpAny_sequenceKey ht.typeIs (by decide) ?_)
  refine wpAny_bind (wpAny_callSpecial?_slot (name := Str.ofString "__getitem__") ht.typeIs PyProof.Rows.slot_tuple_getitem (wpAny_call_entry PyProof.Rows.slot_tuple_getitem ht.typeIs entry_tuple_getitem ?_ (args_tuple_getitem _ _)))
  refine wpAny_bind (m := Builtin.Tuple.tupleItemsOf (.ref t)) (tupleItemsOf_ ht ?_)
  refine wpAny_bind (wpAny_typeOf hTs ?_)
  rw [if_pos (by decide)]
  refine wpAny_bind (step_applied hc hs ?_)
  have c1 : ((c : Int) == 1) = false := beq_eq_false_iff_ne.mpr (by omega)
  have hno : ¬ ((min (i : Int) (items.size : Int) == 0 && (c : Int) == 1 && (picks i c items.size).length == items.size) = true) := by
    rw [c1, Bool.and_false, Bool.false_and]
    exact Bool.false_ne_true
  show wpAny _ _ (if (min (i : Int) (items.size : Int) == 0 && (c : Int) == 1 && (picks i c items.size).length == items.size) = true then _ else _) _ _ s
  rw [if_neg hno, step_pick items i c hc]
  first
    | exact wpAny_bind (m := Builtin.Tuple.tupleExact _) (wpAny_newObj_type (wpAny_pure ⟨_, rfl, wpAny_pure h⟩) ht2)
    | exact wpAny_bind (m := Builtin.Tuple.tupleExact _) (wpAny_newObj_type (wpAny_bind (wpAny_pure (wpAny_pure ⟨_, rfl, wpAny_pure h⟩))) ht2)
    | exact wpAny_bind (wpAny_bind (m := Builtin.Tuple.tupleExact _) (wpAny_newObj_type (wpAny_pure (wpAny_pure ⟨_, rfl, wpAny_pure h⟩)) ht2))
    | exact wpAny_bind (wpAny_bind (m := Builtin.Tuple.tupleExact _) (wpAny_newObj_type (wpAny_pure ⟨_, rfl, wpAny_pure h⟩) ht2))
end
theorem vals_picks {xs : List V} {its : List Value} (r : Vals xs its) : ∀ L : List Nat, Vals (L.filterMap (xs[·]?)) (L.filterMap (its[·]?))
  | [] => .nil
  | j :: L => by
    have ih := vals_picks r L
    have ln := r.length
    cases h : xs[j]? with
    | none =>
      have h2 : its[j]? = none := List.getElem?_eq_none (by have := List.getElem?_eq_none_iff.mp h; omega)
      rw [List.filterMap_cons_none h, List.filterMap_cons_none h2]
      exact ih
    | some x =>
      obtain ⟨u, hu, ru⟩ := r.get h
      rw [List.filterMap_cons_some h, List.filterMap_cons_some hu]
      exact .cons ru ih
theorem da_picks {K : PySem.W.Frag} {G : Hp} {xs : List V} {ds : List PyData} (h : Da K G xs ds) : ∀ L : List Nat, Da K G (L.filterMap (xs[·]?)) (L.filterMap (ds[·]?))
  | [] => .nil
  | j :: L => by
    have ih := da_picks h L
    have ln := h.len
    cases e : ds[j]? with
    | none =>
      have h2 : xs[j]? = none := List.getElem?_eq_none (by have := List.getElem?_eq_none_iff.mp e; omega)
      rw [List.filterMap_cons_none e, List.filterMap_cons_none h2]
      exact ih
    | some d =>
      obtain ⟨x, hx, dx⟩ := h.get e
      rw [List.filterMap_cons_some e, List.filterMap_cons_some hx]
      exact .cons dx ih
section
variable {X : Cx} {e : Expr} {bb : Bool} {f : FE PyData} {pos : Pos}
def tStep (K : PySem.W.Frag) (i c : Nat) (te : TE) : TE := fun σ H Q => te σ H fun x H1 => ∃ a, x = .ref a ∧ ∃ xs, SqT K H1 a xs ∧ NewT H1 Q ((picks i c xs.length).filterMap (xs[·]?))
theorem pe_step {te : TE} {i c : Nat} {k1 k2 : Nat} {p1 p2 p3 : Pos} (hc : 2 ≤ c) (he : PE X e te) : PE X (.Subscript e (.Slice (some (.Constant (.int (i : Int)) k1 p1)) none (some (.Constant (.int (c : Int)) k2 p2)) p3) pos) (tStep X.K i c te) := ⟨fun pins s σ H Q I h => by
  refine Subscript_ (thn (he.run pins s σ H _ I h) fun v s1 hz => ?_)
  obtain ⟨x, H1, I1, r1, a, ex, xs, hx, q⟩ := hz
  subst ex
  cases r1
  have sta : PO X (some (.Constant (.int (i : Int)) k1 p1)) (tPart (tC (.int (i : Int)))) := po_some pe_int
  have stc : PO X (some (.Constant (.int (c : Int)) k2 p2)) (tPart (tC (.int (c : Int)))) := po_some pe_int
  refine wpAny_Slice (thn (sta.run pins s1 σ H1 (fun o H2 => o = some (i : Int) ∧ H2 = H1) I1 ⟨(i : Int), rfl, rfl, rfl⟩) fun vl s2 hz => ?_)
  obtain ⟨_, _, I2, pl, rfl, rfl⟩ := hz
  refine thn (po_none.run pins s2 σ _ (fun o H3 => o = none ∧ H3 = _) I2 ⟨rfl, rfl⟩) fun vu s3 hz => ?_
  obtain ⟨_, _, I3, pu, rfl, rfl⟩ := hz
  refine thn (stc.run pins s3 σ _ (fun o H4 => o = some (c : Int) ∧ H4 = _) I3 ⟨(c : Int), rfl, rfl, rfl⟩) fun vs s4 hz => ?_
  obtain ⟨_, _, I4, ps, rfl, rfl⟩ := hz
  have I5 : Inv X pins σ _ { s4 with heap := s4.heap.push { cls := .type "slice", data := .fields #[vl, vu, vs] } } := I4.kept (t' := s4.toks) fun b ob q => Heap.get?_push_of_some _ q
  show wpAny (model X.prog X.w) X.A (subscriptTail e (.Slice (some (.Constant (.int (i : Int)) k1 p1)) none (some (.Constant (.int (c : Int)) k2 p2)) p3) (.ref a) (.ref s4.heap.objs.size)) (EP X pins σ Q) X.xe { s4 with heap := s4.heap.push { cls := .type "slice", data := .fields #[vl, vu, vs] } }
  obtain ⟨its, r, ht, hz⟩ := I5.tuple hx
  cases pl
  cases pu
  cases ps
  have hl : its.toArray.size = xs.length := by rw [List.size_toArray, ← r.length]
  refine tail_any (ops := [.ref a, .ref s4.heap.objs.size]) ht.typeIs (PyProof.Rows.slot_tuple_getitem.lookup) ?_ (by with_unfolding_all rfl)
  refine step_tuple hc ht (Heap.IsSliceOf.new ..) ?_ (by rw [hl]; exact hz)
  have pk : (picks i c its.toArray.size).filterMap (its.toArray[·]?) = (picks i c xs.length).filterMap (its[·]?) := by
    rw [hl]
    exact fm_congr fun j _ => by simp
  refine newT I5 ?_ ?_ q
  · have h1 := List.length_filterMap_le (xs[·]?) (picks i c xs.length)
    have h2 := picks_len i c xs.length hc
    omega
  · rw [pk]
    exact vals_picks r _⟩
def stepD (i c : Nat) : PyData → Option PyData
  | .tuple ds => some (.tuple ((picks i c ds.length).filterMap (ds[·]?)))
  | _ => none
theorem e_step {i c : Nat} {k1 k2 : Nat} {p1 p2 p3 : Pos} (hc : 2 ≤ c) (he : PE X e (tE X.K bb f)) : PE X (.Subscript e (.Slice (some (.Constant (.int (i : Int)) k1 p1)) none (some (.Constant (.int (c : Int)) k2 p2)) p3) pos) (tE X.K bb (fUn (stepD i c) f)) :=
  PE.weak (pe_step hc he) fun σ H Q ⟨G, ρ, d, ρ', E, ef, k⟩ => by
    obtain ⟨x, ρ1, h1, h2⟩ := thnE_of ef
    obtain ⟨h5, rfl⟩ := liftO_of h2
    refine ⟨G, ρ, x, ρ', E, h1, fun v G1 H1 t1 o1 E1 d1 => ?_⟩
    unfold stepD at h5
    split at h5
    · cases h5
      obtain ⟨a, xs, rfl, hx, dx⟩ := dt_tup d1
      refine ⟨a, rfl, xs, Evl.ex_t E1.ex hx, fun p ob hp ho => ?_⟩
      have t : Tr nobody G1 H1 (upd G1 p (.frz ob (.tup ((picks i c xs.length).filterMap (xs[·]?))))) (upd H1 p (.frz ob (.tup ((picks i c xs.length).filterMap (xs[·]?))))) := Tr.new hp E1.ex
      refine k _ _ _ (t1.trans t fun _ _ _ q => q.elim) o1 (E1.tr t (ex_upd E1.ex)) (.tt (PTu.new ho) ?_)
      rw [← dx.len]
      exact (da_picks dx _).mono t.g
    · cases h5
/-! ### a starred part of a row -/
def starN (d : PyData) (xs : List PyData) : Option (List PyData) := (itemsOf d).map fun ds => ds ++ xs
def fStar (f : FE PyData) (r : FE (List PyData)) : FE (List PyData) := thnE f fun d => thnE r fun xs => liftO (starN d xs)
theorem a_star {es : List Expr} {p : Pos} {r : FE (List PyData)} (he : PE X e (tE X.K bb f)) (hr : PA X es (tA X.K bb r)) (hs : starEach (.Starred e p :: es) X.env = (true, eval e X.env) :: starEach es X.env := by rfl) :
    PA X (.Starred e p :: es) (tA X.K bb (fStar f r)) :=
  PA.weak (StX.pa_star he hr hs) fun σ H Q ⟨G, ρ, d, ρ', E, ef, k⟩ => by
    obtain ⟨x, ρ1, h1, h2⟩ := thnE_of ef
    obtain ⟨y, ρ2, h3, h4⟩ := thnE_of h2
    obtain ⟨h5, rfl⟩ := liftO_of h4
    obtain ⟨ds, h6, rfl⟩ := Option.map_eq_some_iff.mp h5
    refine ⟨G, ρ, x, ρ1, E, h1, fun v G1 H1 t1 o1 E1 d1 => ?_⟩
    unfold itemsOf at h6
    split at h6
    · cases h6
      obtain ⟨a, xs, rfl, hx, dx⟩ := dt_list d1
      exact ⟨a, xs, rfl, .inr (hx.mono E1.ex).sq, G1, ρ1, y, _, E1, h3, fun u G2 H2 t2 o2 E2 d2 => k (xs ++ u) G2 H2 (t1.seq o1 t2) (fun l q => o1 l (o2 l q)) E2 ((dx.mono t2.g).app d2)⟩
    · cases h6
      obtain ⟨a, xs, rfl, hx, dx⟩ := dt_tup d1
      exact ⟨a, xs, rfl, .inl (Evl.ex_t E1.ex hx), G1, ρ1, y, _, E1, h3, fun u G2 H2 t2 o2 E2 d2 => k (xs ++ u) G2 H2 (t1.seq o1 t2) (fun l q => o1 l (o2 l q)) E2 ((dx.mono t2.g).app d2)⟩
    · cases h6
end
end Tw

set_option Elab.async false
set_option linter.all false
set_option maxRecDepth 100000
set_option maxHeartbeats 2000000
namespace Tw
open PySem PySem.Spec PyProof.Rows L2
open Evl (Ex)
/-! ### t.index(x), t.index(x, from) -/
section
variable {X : Cx} {K : PySem.W.Frag} {bb : Bool}
/-- the first place from lo on -/
def firstFrom (ds : List PyData) (d : PyData) (lo j : Nat) : Prop := lo ≤ j ∧ (∃ z, ds[j]? = some z ∧ PyData.eqv z d = true) ∧ ∀ m z, lo ≤ m → m < j → ds[m]? = some z → PyData.eqv z d = false
def rTix (K : PySem.W.Frag) : V → List V → Hp → VK → Prop := fun x xs H Q => ∃ (ds : List PyData) (y : V) (d : PyData) (lo j : Nat), ((xs = [y] ∧ lo = 0) ∨ xs = [y, .int (lo : Nat)]) ∧ Dt K H x (.tuple ds) ∧ Dt K H y d ∧ layB d ds = true ∧
  firstFrom ds d lo j ∧ Q (.int (j : Nat)) H
theorem mt_tix (hu : X.A.units + 64 < cLine) : MtR X "tuple.index" (rTix X.K) := fun pins s σ H x xs v us Q I rx rxs h => by
  obtain ⟨ds, y, d, lo, j, hxs, dx, dy, hl, ⟨hlo, ⟨z, hz, he⟩, hno⟩, q⟩ := h
  obtain ⟨l1, l2, l3⟩ := layB_of hl
  obtain ⟨as, r1⟩ := dx.reads I rx
  have room : X.A.units + 1 + min (PyData.depthAll ds) d.depth < cLine := by
    have := Nat.min_le_right (PyData.depthAll ds) d.depth
    omega
  cases r1 with
  | @tuple a o vs n _ _ ho hc hd hr =>
    obtain ⟨cls, dd, data, sl⟩ := o
    simp only at hc hd
    subst hc hd
    have hmap : vs.toList.map (SeqAt.readOf s.heap) = ds := SeqAt.readsAll_map ds vs.toList _ l2 hr
    have hlen : vs.size = ds.length := by rw [← hmap, List.length_map, Array.length_toList]
    have at_ : ∀ (m : Nat) (hm : m < vs.size) (z' : PyData), ds[m]? = some z' → SeqAt.readOf s.heap vs[m] = z' := fun m hm z' hz' => by
      rw [← hmap, List.getElem?_map, List.getElem?_eq_getElem (by simpa using hm)] at hz'
      simpa using hz'
    have hj : j < vs.size := by rw [hlen]; exact (List.getElem?_eq_some_iff.mp hz).1
    let e : Nat → Bool := fun m => match vs[m]? with
      | some u => PyData.eqv (SeqAt.readOf s.heap u) d
      | none => false
    have ee : ∀ (m : Nat) (hm : m < vs.size), e m = PyData.eqv (SeqAt.readOf s.heap vs[m]) d := fun m hm => by
      show (match vs[m]? with | some u => PyData.eqv (SeqAt.readOf s.heap u) d | none => false) = _
      rw [Array.getElem?_eq_getElem hm]
    have hit : e j = true := by rw [ee j hj, at_ j hj z hz]; exact he
    have miss : ∀ m (hm : m < vs.size), lo ≤ m → m < j → e m = false := fun m hm h1 h2 => by
      rw [ee m hm, at_ m hm _ (List.getElem?_eq_getElem (by omega))]
      exact hno m _ h1 h2 (List.getElem?_eq_getElem (by omega))
    have fin : EP X pins σ Q (.int (j : Nat) s.toks) { s with toks := s.toks + 1 } := ⟨.int (j : Nat), H, I.tok _, ⟨_, rfl⟩, q⟩
    rcases hxs with ⟨rfl, rfl⟩ | rfl
    · obtain ⟨u, rfl, ru⟩ := vals1 rxs
      obtain ⟨bs, r2⟩ := dy.reads I ru
      refine call_meets PySem.F.slot_tuple_index ⟨_, ho, rfl⟩ PySem.F.entry_tuple_index (PySem.F.args_tuple_index_2 _ _)
        (SeqAt.tuple_index2_found a vs n dd sl u e j hj (Nat.zero_le _) hj hit fun m hm h1 h2 => miss m hm (Nat.zero_le _) h2) ⟨ho, fun m hm => ?_, fin⟩
      rw [ee m hm]
      exact SeqAt.items_eqAt hr r2 l2 l1 room vs[m] (Array.getElem_mem hm)
    · obtain ⟨u, w, rfl, ru, rw_⟩ := vals2 rxs
      obtain ⟨t, rfl⟩ := rw_
      obtain ⟨bs, r2⟩ := dy.reads I ru
      refine call_meets PySem.F.slot_tuple_index ⟨_, ho, rfl⟩ PySem.F.entry_tuple_index (PySem.F.args_tuple_index_3 _ _ _)
        (SeqAt.tuple_index3_found a vs n dd sl u e (lo : Nat) t j hj (by rw [SeqAt.searchFrom_nat]; exact hlo) hj hit fun m hm h1 h2 => miss m hm (by rw [SeqAt.searchFrom_nat] at h1; exact h1) h2) ⟨ho, fun m hm => ?_, fin⟩
      rw [ee m hm]
      exact SeqAt.items_eqAt hr r2 l2 l1 room vs[m] (Array.getElem_mem hm)
def tixC : List PyData → Option PyData
  | [.tuple ds, x] => if layB x ds = true then (indexN ds x).map fun j => .int (j : Nat) else none
  | [.tuple ds, x, .int lo] => if layB x ds = true ∧ 0 ≤ lo then (indexN (ds.drop lo.toNat) x).map fun j => .int ((lo.toNat + j : Nat)) else none
  | _ => none
theorem indexN_from {ds : List PyData} {d : PyData} {lo j : Nat} (h : indexN (ds.drop lo) d = some j) : firstFrom ds d lo (lo + j) := by
  obtain ⟨hlt, hz, hno⟩ := List.findIdx?_eq_some_iff_getElem.mp h
  refine ⟨Nat.le_add_right _ _, ⟨_, ?_, hz⟩, fun m z h1 h2 h3 => ?_⟩
  · rw [← List.getElem?_drop, List.getElem?_eq_getElem hlt]
  · have h4 := hno (m - lo) (by omega)
    have h5 : (ds.drop lo)[m - lo]? = some z := by
      rw [List.getElem?_drop]
      have : lo + (m - lo) = m := by omega
      rw [this]
      exact h3
    obtain ⟨hlt2, h6⟩ := List.getElem?_eq_some_iff.mp h5
    rw [h6] at h4
    simpa using h4
theorem e_tix {fo : FE PyData} {ra : FE (List PyData)} {o e : Expr} {es : List Expr} {apos cpos : Pos} (hu : X.A.units + 64 < cLine) (ho : PE X o (tE X.K bb fo)) (ha : PA X (e :: es) (tA X.K bb ra))
    (hbase : attributeBase o "index" X.env (eval o X.env) = eval o X.env := by rfl)
    (hfew : ((backTo cpos (starEach (e :: es) X.env)).all (fun x => !x.1) && (backToKw cpos (keywordEach [] X.env)).all (fun x => x.1.isSome)
      && decide ((e :: es).length + ([] : List Keyword).length + (if ([] : List Keyword).isEmpty then 0 else 1) < 30)) = true := by rfl)
    (hline : (apos.endLine == cpos.line) = true := by rfl) (hs : starEach (e :: es) X.env = (false, eval e X.env) :: starEach es X.env := by rfl) (hplain : (backTo cpos (starEach es X.env)).any (·.1) = false := by rfl) :
    PE X (.Call (.Attribute o "index" apos) (e :: es) [] cpos) (tE X.K bb (fCall tixC (fCons fo ra))) :=
  PE.weak (pe_tm PySem.F.slot_tuple_index PySem.F.type_tuple_index (mt_tix hu) ho ha hbase hfew hline hs hplain) fun σ H Q ⟨G, ρ, d, ρ', E, ef, k⟩ => by
    obtain ⟨zs, ρ2, h1, h2⟩ := thnE_of ef
    obtain ⟨h5, rfl⟩ := liftO_of h2
    obtain ⟨x, ρ1, h3, h4⟩ := thnE_of h1
    obtain ⟨xs, ρ3, h6, h7⟩ := thnE_of h4
    obtain ⟨rfl, rfl⟩ := ret_of h7
    refine ⟨G, ρ, x, ρ1, E, h3, fun v G1 H1 t1 o1 E1 d1 => ?_⟩
    have fin : ∀ {ds y : _} {lo j : Nat}, x = .tuple ds → d = .int (j : Nat) → (xs = [y] ∧ lo = 0 ∨ xs = [y, .int (lo : Nat)]) → layB y ds = true → firstFrom ds y lo j →
        (∃ a ys, v = .ref a ∧ PTu X.K H1 a ys) ∧ tA X.K bb ra σ H1 fun vs H2 => rTix X.K v vs H2 Q := fun {ds y lo j} ex ed hx hl hf => by
      subst ex ed
      obtain ⟨a, ys, rfl, hp, _⟩ := dt_tupP d1
      refine ⟨⟨a, ys, rfl, hp.mono E1.ex⟩, G1, ρ1, xs, _, E1, h6, fun vs G2 H2 t2 o2 E2 d2 => ?_⟩
      have dT := (d1.mono t2.g).mono E2.ex
      have last := k (.int (j : Nat)) G2 H2 (t1.seq o1 t2) (fun l q => o1 l (o2 l q)) E2 (.ii _)
      rcases hx with ⟨rfl, rfl⟩ | rfl
      · obtain ⟨w, rfl, dw⟩ := da_one d2
        exact ⟨ds, w, y, 0, j, .inl ⟨rfl, rfl⟩, dT, dw.mono E2.ex, hl, hf, last⟩
      · obtain ⟨w, w2, rfl, dw, dw2⟩ := da_two d2
        rw [dt_int dw2]
        exact ⟨ds, w, y, lo, j, .inr rfl, dT, dw.mono E2.ex, hl, hf, last⟩
    unfold tixC at h5
    split at h5
    · split at h5
      case isFalse => cases h5
      obtain ⟨j, hj, rfl⟩ := Option.map_eq_some_iff.mp h5
      rename_i hl
      have := indexN_from (lo := 0) (ds := ‹List PyData›) (d := ‹PyData›) (j := j) (by rw [List.drop_zero]; exact hj)
      rw [Nat.zero_add] at this
      rename_i he
      cases he
      exact fin rfl rfl (.inl ⟨rfl, rfl⟩) hl this
    · split at h5
      case isFalse => cases h5
      obtain ⟨j, hj, rfl⟩ := Option.map_eq_some_iff.mp h5
      rename_i hl
      rename_i he
      cases he
      refine fin rfl rfl (.inr ?_) hl.1 (indexN_from hj)
      rw [Int.toNat_of_nonneg hl.2]
    · cases h5
end
/-! ### defs with keyword-only parameters behind the others -/
/-- as such a def is called: f(a, ..) (each keyword-only one by its default dv), f(a, .., k = v, ..) (each of them given, in order) -/
structure CalK (Pr : Program) (w : World) (K : PySem.W.Frag) (mg : Str → Option Value) (base : Heap) (k : Nat) (x : Str) (ps : List Str) (sp : Sp) (f : Addr) (fd : FuncData) (n : Nat) (ks : List Str) (dv : List V) : Prop where
  ok : FnG Pr w K mg base k f fd ps sp
  gl : mg x = some (.ref f)
  kp : PySem.W.keepIn K (.ref f) = true
  b0 : ∃ ds : List Value, Vals dv ds ∧ Binds K fd ps ds
  bk : KBn K fd ps n ks (fun us ws => us ++ ws) (fun vs zs => vs ++ zs)
section
variable {X : Cx} {k n : Nat} {f : Addr} {fd : FuncData} {ps ks : List Str} {sp : Sp} {x : Str} {p pos : Pos} {e : Expr} {es : List Expr} {t tk : TA} {kws : List Keyword} {dv : List V} {bb : Bool} {g : List PyData → Option PyData} {ra rk : FE (List PyData)}
theorem call_D (F : FnG X.prog X.w X.K X.mg X.base k f fd ps sp) (hh : Here k X) (hg : Gl X x) (hm : X.mg x = some (.ref f)) (hk : PySem.W.keepIn X.K (.ref f) = true) (hb : ∃ ds : List Value, Vals dv ds ∧ Binds X.K fd ps ds)
    (ha : PA X (e :: es) t) (hdb : (x == ("__debug__" : Str)) = false := by decide) (he : starEach (e :: es) X.env = (false, eval e X.env) :: starEach es X.env := by rfl) (hpl : (backTo pos (starEach es X.env)).any (·.1) = false := by rfl) :
    PE X (.Call (.Name x p) (e :: es) [] pos) (fun σ H Q => t σ H fun vs H1 => sp (vs ++ dv) H1 Q E0) := ⟨fun pins s σ H Q I h => by
  refine wpAny_Call_Name_kw (ld_glob I hg hm ?_ hdb)
  refine PySem.W.callWith_K (h₀ := X.base) I.ok.mod.kin hk (thn (ha.run pos pins s σ H _ I h) fun us s1 hz => ?_) he hpl
  obtain ⟨vs, H1, J, r, q⟩ := hz
  refine ⟨J.kIn, ?_⟩
  have hl := F.len _ _ _ _ q
  obtain ⟨ds, rd, hb⟩ := hb
  have r2 := r.append rd
  have bd := hb s1 us J.kIn (by rw [← r2.length]; exact hl)
  refine wpAny_call (codeAny_mono (F.run X.A hh.g hh.r X.stack s1 H1 ⟨us, []⟩ (us ++ ds) (vs ++ dv) Q J.env0 bd r2 q) fun rr s2 hq => ?_)
  match rr, hq with
  | .ok (.ret _), hq => exact J.after hq
  | .ok .next, hq => exact False.elim hq
  | .ok .brk, hq => exact False.elim hq
  | .ok .cont, hq => exact False.elim hq
  | .error _, hq => exact False.elim hq⟩
theorem call_K (F : FnG X.prog X.w X.K X.mg X.base k f fd ps sp) (hh : Here k X) (hg : Gl X x) (hm : X.mg x = some (.ref f)) (hk : PySem.W.keepIn X.K (.ref f) = true) (hb : KBn X.K fd ps n ks (fun us ws => us ++ ws) (fun vs zs => vs ++ zs))
    (ha : PA X (e :: es) t) (hkw : PK X kws tk) (hall : (backToKw pos (keywordEach kws X.env)).all (·.1.isSome) = true := by rfl) (hks : (backToKw pos (keywordEach kws X.env)).filterMap (·.1) = ks := by rfl)
    (hdb : (x == ("__debug__" : Str)) = false := by decide) (he : starEach (e :: es) X.env = (false, eval e X.env) :: starEach es X.env := by rfl)
    (hpl : ((backTo pos (starEach (e :: es) X.env)).any (·.1) || (backToKw pos (keywordEach kws X.env)).any (·.1.isNone)) = false := by rfl) :
    PE X (.Call (.Name x p) (e :: es) kws pos) (fun σ H Q => t σ H fun vs H1 => tk σ H1 fun zs H2 => vs.length = n ∧ zs.length = ks.length ∧ sp (vs ++ zs) H2 Q E0) := ⟨fun pins s σ H Q I h => by
  refine wpAny_Call_Name_kw (ld_glob I hg hm ?_ hdb)
  refine PySem.W.callWith_KW (h₀ := X.base) I.ok.mod.kin hk hall (thn (ha.run pos pins s σ H _ I h) fun us s1 hz => ?_) hpl he
  obtain ⟨vs, H1, I1, r, q⟩ := hz
  refine thn (hkw.run pos pins s1 σ H1 _ I1 q) fun ws s2 hz => ?_
  obtain ⟨zs, H2, I2, rz, l1, l2, q2⟩ := hz
  refine ⟨I2.kIn, ?_⟩
  rw [hks]
  have r2 := hb.rel r rz
  refine wpAny_call (codeAny_mono (F.run X.A hh.g hh.r X.stack s2 H2 ⟨us, ks.zip ws⟩ (us ++ ws) (vs ++ zs) Q I2.env0 (hb.to s2 us ws I2.kIn (r.length.symm.trans l1) (rz.length.symm.trans l2)) r2 q2) fun rr s3 hq => ?_)
  match rr, hq with
  | .ok (.ret _), hq => exact I2.after hq
  | .ok .next, hq => exact False.elim hq
  | .ok .brk, hq => exact False.elim hq
  | .ok .cont, hq => exact False.elim hq
  | .error _, hq => exact False.elim hq⟩
theorem k_nil : PK X [] (tA X.K bb fNil) := ⟨fun pos pins s σ H Q I ⟨G, ρ, d, ρ', E, ef, k⟩ => pk_nil.run pos pins s σ H Q I (by
  obtain ⟨rfl, rfl⟩ := ret_of ef
  exact k [] G H .refl (fun _ q => q) E .nil)⟩
theorem k_cons {nm : Option Str} {kpos : Pos} {fe : FE PyData} (he : PE X e (tE X.K bb fe)) (hr : PK X kws (tA X.K bb rk)) : PK X (⟨nm, e, kpos⟩ :: kws) (tA X.K bb (fCons fe rk)) :=
  ⟨fun pos pins s σ H Q I ⟨G, ρ, d, ρ', E, ef, k⟩ => (pk_cons he hr).run pos pins s σ H Q I (by
    obtain ⟨x, ρ1, h1, h2⟩ := thnE_of ef
    obtain ⟨xs, ρ2, h3, h4⟩ := thnE_of h2
    obtain ⟨rfl, rfl⟩ := ret_of h4
    exact ⟨G, ρ, x, ρ1, E, h1, fun v G1 H1 t1 o1 E1 d1 => ⟨G1, ρ1, xs, ρ', E1, h3, fun u G2 H2 t2 o2 E2 d2 => k (v :: u) G2 H2 (t1.seq o1 t2) (fun l q => o1 l (o2 l q)) E2 (.cons (d1.mono t2.g) d2)⟩⟩)⟩
/-- f(a, ..), the keyword-only parameters by their defaults dd -/
theorem e_callD {dd : List PyData} (F : FnG X.prog X.w X.K X.mg X.base k f fd ps (spP X.K n g)) (hh : Here k X) (hg : Gl X x) (hm : X.mg x = some (.ref f)) (hk : PySem.W.keepIn X.K (.ref f) = true) (hb : ∃ ds : List Value, Vals dv ds ∧ Binds X.K fd ps ds) (hd : ∀ G, Da X.K G dv dd)
    (ha : PA X (e :: es) (tA X.K bb ra)) (hdb : (x == ("__debug__" : Str)) = false := by decide) (he : starEach (e :: es) X.env = (false, eval e X.env) :: starEach es X.env := by rfl) (hpl : (backTo pos (starEach es X.env)).any (·.1) = false := by rfl) :
    PE X (.Call (.Name x p) (e :: es) [] pos) (tE X.K bb (fCall (fun xs => lenIs n g (xs ++ dd)) ra)) := PE.weak (call_D F hh hg hm hk hb ha hdb he hpl) fun σ H Q h =>
  call_run (r := fun vs H1 Q => spP X.K n g (vs ++ dv) H1 Q E0) (fun G H xs ds z Q ex da hz k => by
    unfold lenIs at hz
    split at hz
    · exact ⟨G, ds ++ dd, z, ex, da.app (hd G), ‹_›, hz, k⟩
    · cases hz) h
/-- f(a, .., k = v, ..) -/
def fCat (ra rk : FE (List PyData)) : FE (List PyData) := thnE ra fun xs => thnE rk fun ys => ret (xs ++ ys)
theorem e_callKw {m : Nat} (F : FnG X.prog X.w X.K X.mg X.base k f fd ps (spP X.K n g)) (hh : Here k X) (hg : Gl X x) (hm : X.mg x = some (.ref f)) (hk : PySem.W.keepIn X.K (.ref f) = true) (hb : KBn X.K fd ps m ks (fun us ws => us ++ ws) (fun vs zs => vs ++ zs))
    (ha : PA X (e :: es) (tA X.K bb ra)) (hkw : PK X kws (tA X.K bb rk)) (hlen : m + ks.length = n := by rfl) (hlk : ∀ ρ xs ρ', rk ρ = some (xs, ρ') → xs.length = ks.length)
    (hall : (backToKw pos (keywordEach kws X.env)).all (·.1.isSome) = true := by rfl) (hks : (backToKw pos (keywordEach kws X.env)).filterMap (·.1) = ks := by rfl)
    (hdb : (x == ("__debug__" : Str)) = false := by decide) (he : starEach (e :: es) X.env = (false, eval e X.env) :: starEach es X.env := by rfl)
    (hpl : ((backTo pos (starEach (e :: es) X.env)).any (·.1) || (backToKw pos (keywordEach kws X.env)).any (·.1.isNone)) = false := by rfl) :
    PE X (.Call (.Name x p) (e :: es) kws pos) (tE X.K bb (fCall (lenIs n g) (fCat ra rk))) := PE.weak (call_K F hh hg hm hk hb ha hkw hall hks hdb he hpl) fun σ H Q ⟨G, ρ, d, ρ', E, ef, k⟩ => by
  obtain ⟨zs, ρ2, h1, h2⟩ := thnE_of ef
  obtain ⟨h5, rfl⟩ := liftO_of h2
  obtain ⟨xs, ρ1, h3, h4⟩ := thnE_of h1
  obtain ⟨ys, ρ3, h6, h7⟩ := thnE_of h4
  obtain ⟨rfl, rfl⟩ := ret_of h7
  refine ⟨G, ρ, xs, ρ1, E, h3, fun vs G1 H1 t1 o1 E1 d1 => ⟨G1, ρ1, ys, _, E1, h6, fun ws G2 H2 t2 o2 E2 d2 => ?_⟩⟩
  unfold lenIs at h5
  split at h5
  case isFalse => cases h5
  rename_i hn
  have l2 : ws.length = ks.length := by rw [d2.len]; exact hlk _ _ _ h6
  rw [List.length_append] at hn
  refine ⟨by have := d1.len; have := d2.len; omega, l2, G2, xs ++ ys, d, E2.ex, (d1.mono t2.g).app d2, by rw [List.length_append]; exact hn, h5, fun v G' H' t3 e3 d3 => ?_⟩
  exact k v G' H' ((t1.seq o1 t2).trans t3 fun _ _ _ q => q.elim) (fun l q => o1 l (o2 l q)) (E2.tr t3 e3) d3
theorem lenK1 {fe : FE PyData} : ∀ ρ xs ρ', fCons fe fNil ρ = some (xs, ρ') → xs.length = 1 := fun ρ xs ρ' h => by
  obtain ⟨x, ρ1, h1, h2⟩ := thnE_of h
  obtain ⟨ys, ρ2, h3, h4⟩ := thnE_of h2
  obtain ⟨rfl, rfl⟩ := ret_of h3
  obtain ⟨rfl, rfl⟩ := ret_of h4
  rfl
end
section
variable {K : PySem.W.Frag} {x qual : Str} {st : Stmt} {kws : List (Str × V)} {f D : Addr} {fd : FuncData} {ps : List Str}
theorem _root_.L2.FunD.toFun (F : FunD K x qual (defArgs st) (defBody st) (defScope st) [] kws f fd) : Fun K x qual st f fd := by
  obtain ⟨oc, od, dV, kV, doc, pm, an, cdv, ct, osl, rfl, lk, hc, hD, _⟩ := F.ex
  rcases hD with ⟨_, rfl⟩ | ⟨e, _⟩
  · exact ⟨⟨oc, od, kV, doc, pm, an, cdv, ct, osl, rfl, lk, hc⟩, F.kp⟩
  · exact absurd rfl e
theorem _root_.L2.FunD.kbn {n : Nat} {ks : List Str} (F : FunD K x qual (defArgs st) (defBody st) (defScope st) [] kws f fd)
    (h : ∀ (kV doc pm : Value) (an : Option Addr) (cdv ct : Value) (us ws : List Value), us.length = n → ws.length = ks.length →
      bindArgs (PySem.W.fnOf x qual (defArgs st) (defBody st) (defScope st) .none kV doc pm an cdv ct) ⟨us, ks.zip ws⟩ = pure (ps.zip (us ++ ws))) : KBn K fd ps n ks (fun us ws => us ++ ws) (fun vs zs => vs ++ zs) := by
  obtain ⟨oc, od, dV, kV, doc, pm, an, cdv, ct, osl, rfl, lk, hc, hD, _⟩ := F.ex
  rcases hD with ⟨_, rfl⟩ | ⟨e, _⟩
  · exact ⟨fun s us ws _ l1 l2 => .of_eq (h kV doc pm an cdv ct us ws l1 l2), fun r1 r2 => r1.append r2⟩
  · exact absurd rfl e
theorem _root_.L2.FunD.of {oc : Value} {od an : Option Addr} {osl : Array (Option Value)} {doc pm cdv ct : Value} (l : K.lookup f = some ⟨oc, od, .func (PySem.W.fnOf x qual (defArgs st) (defBody st) (defScope st) .none (.ref D) doc pm an cdv ct), osl⟩)
    (c : PySem.W.codeIn K cdv qual = true) (k : PySem.W.keepIn K (.ref f) = true) (h : ∀ q ∈ kws, ∃ u, PySem.W.nsIn K D q.1 = some (some u) ∧ RelV q.2 u) :
    FunD K x qual (defArgs st) (defBody st) (defScope st) [] kws f (PySem.W.fnOf x qual (defArgs st) (defBody st) (defScope st) .none (.ref D) doc pm an cdv ct) :=
  ⟨⟨oc, od, .none, .ref D, doc, pm, an, cdv, ct, osl, rfl, l, c, .inl ⟨rfl, rfl⟩, .inr ⟨D, rfl, h⟩⟩, k⟩
end
end Tw

set_option Elab.async false
set_option linter.all false
set_option maxRecDepth 100000
set_option maxHeartbeats 4000000
namespace Tw
open PySem PySem.Spec PyProof.Rows L2
open Evl (Ex)
/-! ### sorted(set(xs)), xs a list of whole numbers -/
abbrev bareSet (w : World) : Obj := { cls := .type "set", dict := none, data := .set #[] 0 (.fresh 0 0 (!w.params.followText "set-order")) }
section
variable {P : Program} {w : World} {A : Around} {E : Value → Shared → Prop} {s : Shared}
/-- set(xs): the set whose order is known of, its members those of xs -/
theorem set_of_list {l : Addr} {items : Array Value} (ns : List Int) {Q : Value → Shared → Prop} (hh : A.handled = none) (hl : s.heap.IsList l items) (hi : IntsAre items.toList ns) (hb : ns.length + 1 < scanBound)
    (fin : ∀ (h' : Heap) (tk c : Nat), SetR w h' s.heap.objs.size (fun j => decide (j ∈ ns)) c → c ≤ ns.length → (∀ b o, s.heap.get? b = some o → h'.get? b = some o) → Q (.ref s.heap.objs.size) { s with heap := h', toks := tk }) :
    wpAny (model P w) A (call (.type "set") [.ref l]) Q E s := by
  have many : items.size = ns.length := (Array.length_toList (xs := items)).symm.trans (IntsAre.length hi)
  obtain ⟨_, _, mro⟩ := F.called_set.mro
  have k1 := F.called_set.made
  have k2 := F.called_set.sub
  have k3 := F.called_set.notType
  have k4 := F.called_set.canCreate
  have k5 := F.typeCall_set_1 (.ref l)
  refine wpAny_call (codeAny_of_tree (show wpAny _ _ (callAny (.type "set") _) _ _ _ from wpAny_pure ⟨Code.quiet_builtin _ (by decide +kernel), codeAny_builtin F.entry_type_call ?_⟩))
  rw [Around.under_plain (weight_type_call_type "set" [.ref l] []) rfl]
  repeat (any_goals (first | assumption | wp_step))
  refine codeAny_mono (code_set_led1 (.ref l) (E := E) (Q₁ := fun v t => v = .ref s.heap.objs.size ∧ t = { s with heap := s.heap.push (bareSet w) }) ⟨rfl, rfl⟩) fun r t hr => ?_
  match r, hr with
  | .error _, hr => exact hr
  | .ok (.ret v), hr =>
    obtain ⟨rfl, rfl⟩ := hr
    have there : (s.heap.push (bareSet w)).get? s.heap.objs.size = some (bareSet w) := Heap.get?_push_size _ rfl
    have ty : Shared.TypeIs { s with heap := s.heap.push (bareSet w) } (.ref s.heap.objs.size) "set" := ⟨_, there, rfl⟩
    have k6 := F.called_set.init.lookup
    have k7 := F.called_set.init.bind (.ref s.heap.objs.size)
    repeat (any_goals (first | assumption | wp_step))
    have run : codeAny (model P w) A.in1 (.call (.builtin "set.__init__") ⟨[.ref s.heap.objs.size, .ref l], []⟩) (wants (fun r t => r = .none ∧ ∃ h' tk c, t = { s with heap := h', toks := tk } ∧
        SetR w h' s.heap.objs.size (fun j => decide (j ∈ ns)) c ∧ c ≤ ns.length ∧ ∀ b o, s.heap.get? b = some o → h'.get? b = some o) E) { s with heap := s.heap.push (bareSet w) } := by
      refine codeAny_call_builtin F.called_set.init.plain F.entry_set_init (check_set_init_1 ty ?_)
      obtain ⟨⟨cl, di, da, sl⟩, o1, o2, nl, o3⟩ := hl
      replace o2 : cl = .type "list" := o2
      replace o3 : da = .seq items nl := o3
      subst o2 o3
      have o4 : (s.heap.push (bareSet w)).get? l = some { cls := .type "list", dict := di, data := .seq items nl, slots := sl } := Heap.get?_push_of_some _ o1
      have o5 : (s.heap.push (bareSet w)).IsList l items := ⟨_, o4, rfl, nl, rfl⟩
      have j1 := F.sub_list_set
      have j2 := F.sub_list_frozenset
      have j3 : (Value.type "list" == Value.type "dict") = false := by decide
      unfold Builtin.«set.__init__» noKeywords Builtin.Frozenset.updateFrom
      generalize hPI : pyIter = PI
      wp_walk
      subst hPI
      refine wpAny_pyIter_list o5 (wpAny_bind (wpAny_runValue ?_))
      have low : l < s.heap.objs.size := Heap.lt_size o1
      have sz : (s.heap.push (bareSet w)).objs.size = s.heap.objs.size + 1 := Heap.size_push ..
      have ne1 : l ≠ (s.heap.push (bareSet w)).objs.size := by rw [sz]; exact Nat.ne_of_lt (Nat.lt_succ_of_lt low)
      have ne2 : s.heap.objs.size ∉ [(s.heap.push (bareSet w)).objs.size, l] := by
        rw [sz]
        simp only [List.mem_cons, List.not_mem_nil, or_false, not_or]
        exact ⟨Nat.ne_of_lt (Nat.lt_succ_self _), Nat.ne_of_gt low⟩
      have val : ∀ (i : Nat) (v : Value), items[i]? = some v → ∃ k t, ns[i]? = some k ∧ v = .int k t := fun i v hv => by
        have hlt : i < ns.length := many ▸ (Array.getElem?_eq_some_iff.mp hv).1
        obtain ⟨t, e⟩ := PyProof.Rows.IntsAre.int_at hi i v (by rw [Array.getElem?_toList]; exact hv)
        rw [List.getD_eq_getElem?_getD, List.getElem?_eq_getElem hlt] at e
        exact ⟨ns[i], t, List.getElem?_eq_getElem hlt, e⟩
      have h3 : A.in1.in1.in1.handled = none := by simp [hh]
      refine set_update_ints ((Walks.list h3 _ l ne1 items).toS) s.heap.objs.size ne2 ns many hb val (items.size - 0) 0 _ (by omega) (Nat.zero_le _)
        ⟨⟨_, Heap.get?_push_size _ rfl, rfl, rfl⟩, o5.push _⟩ ⟨0, Nat.le_refl 0, ?h0⟩ fun t c' mv hc' hS => ?_
      case h0 => exact setR_new_at (Heap.get?_push_of_some _ there)
      obtain ⟨h', g2, d', tk', os'⟩ := t
      obtain rfl : g2 = s.gens := mv.gens
      obtain rfl : d' = s.drawn := mv.drawn
      obtain rfl : os' = s.os := mv.os
      show wpAny _ _ _ _ _ _
      refine wpAny_pure ?_
      show wpAny _ _ (PySem.ret Value.none) _ _ _
      refine wpAny_pure ⟨rfl, h', tk', c', rfl, hS, many ▸ hc', fun b o e => ?_⟩
      have lt := Heap.lt_size e
      exact mv.heap b o (by rw [sz]; simp only [List.mem_cons, List.not_mem_nil, or_false, not_or]; exact ⟨Nat.ne_of_lt lt, Nat.ne_of_lt (Nat.lt_succ_of_lt lt)⟩) (Heap.get?_push_of_some _ (Heap.get?_push_of_some _ e))
    refine codeAny_mono run fun r2 t2 hr2 => ?_
    match r2, hr2 with
    | .error _, hr2 => exact hr2
    | .ok (.ret _), hr2 =>
      obtain ⟨rfl, h', tk, c', rfl, hS, hc', hk⟩ := hr2
      repeat (any_goals (first | assumption | wp_step))
      exact fin _ _ _ hS hc' hk
    | .ok .next, hr2 => exact hr2.elim
    | .ok .brk, hr2 => exact hr2.elim
    | .ok .cont, hr2 => exact hr2.elim
  | .ok .next, hr => exact hr.elim
  | .ok .brk, hr => exact hr.elim
  | .ok .cont, hr => exact hr.elim
/-- sorted(of such a set), of any many -/
theorem sorted_of_set {a : Addr} {S : Int → Bool} {n : Nat} {Q : Value → Shared → Prop} (R : SetR w s.heap a S n) (hh : A.handled = none)
    (fin : ∀ t p (out : Array Value) (c : Nat) (ns : List Int), (∀ b o, s.heap.get? b = some o → t.heap.get? b = some o) → t.gens = s.gens → t.os = s.os → s.heap.objs.size ≤ p →
      t.heap.get? p = some (seqObj "list" out c) → IntsAre out.toList ns → ns.Pairwise (· < ·) → (∀ k, k ∈ ns ↔ S k = true) → ns.length = n → Q (.ref p) t) : wpAny (model P w) A (call (.builtin "sorted") [.ref a]) Q E s := by
  obtain ⟨o, es, ep, t, o1, ex, o2, good, nd, mem, few, fits, sz, ris, led⟩ := R
  refine Calls.call_function_entry kind_sorted plain_sorted entry_sorted (args_sorted1 _) ?_
  unfold Builtin.«sorted»
  refine wpAny_bind (m := checkCount "sorted" 1 1 _) (wpAny_pure (wpAny_bind (collect_set (A := A.in1) hh ⟨o, o1, ex.1, o2⟩ fits few ris led fun t1 vs keep grow g1 os1 perm => ?_)))
  have many : vs.length = n := by rw [perm.length_eq, List.length_map, Array.length_toList, sz]
  have whole : IntsAre vs (vs.map Builtin.Re.reRawOf) := ints_of vs fun v hv => by
    obtain ⟨e, he, rfl⟩ := List.mem_map.mp (perm.mem_iff.mp hv)
    obtain ⟨k, tk, q, _⟩ := good e he
    exact ⟨k, tk, q⟩
  have keys : (vs.map Builtin.Re.reRawOf).Perm (es.toList.map L2.keyOf) := by
    have := perm.map Builtin.Re.reRawOf
    rwa [List.map_map] at this
  have room : vs.length ≤ sizeLine := by
    have : es.size < 2 ^ 24 := Nat.lt_of_lt_of_le few (by decide)
    rw [many, sizeLine_eq]
    omega
  refine wpAny_bind (wpAny_newList ?_ room)
  have new : (t1.heap.push (seqObj "list" vs.toArray 0)).get? t1.heap.objs.size = some (seqObj "list" vs.toArray 0) := Heap.get?_push_size _ rfl
  refine wpAny_bind (wpAny_holding (wpAny_call_entry slot_list_sort ⟨_, new, rfl⟩ entry_list_sort (list_sort_treeAny new whole room fun out ns' a1 a2 a3 => ⟨_, rfl, ?_⟩) (args_list_sort _)))
  obtain ⟨c, hc⟩ := sortedHeap_at (vs := vs) (out := out) new
  have all := a2.trans keys
  refine wpAny_pure ⟨_, rfl, fin _ t1.heap.objs.size out c ns' (fun b u e => ?_) g1 os1 grow hc a1 (lt_of_le_nodup ns' a3 (all.nodup_iff.mpr nd)) (fun k => by rw [all.mem_iff, ← mem k]) (by rw [all.length_eq, List.length_map, Array.length_toList]; exact sz)⟩
  have q := keep b u e
  have lt := Heap.lt_size q
  show (sortedHeap (t1.heap.push (seqObj "list" vs.toArray 0)) t1.heap.objs.size vs out).get? b = some u
  rw [sortedHeap_old (Nat.ne_of_lt lt) (by rw [size_push']; exact Nat.lt_succ_of_lt lt)]
  exact Heap.get?_push_of_some _ q
end
/-- the members, rising -/
def insU (a : Int) : List Int → List Int
  | [] => [a]
  | b :: l => if a < b then a :: b :: l else if a = b then b :: l else b :: insU a l
def usort : List Int → List Int
  | [] => []
  | a :: l => insU a (usort l)
theorem mem_insU {a x : Int} : ∀ {l : List Int}, x ∈ insU a l ↔ x = a ∨ x ∈ l
  | [] => by simp [insU]
  | b :: l => by
    unfold insU
    split
    · exact List.mem_cons
    · split
      · rename_i h
        subst h
        exact ⟨.inr, fun q => q.elim (fun z => z ▸ List.mem_cons_self ..) id⟩
      · rw [List.mem_cons, List.mem_cons, mem_insU (l := l)]
        exact ⟨fun q => q.elim (fun z => .inr (.inl z)) fun z => z.elim .inl fun y => .inr (.inr y), fun q => q.elim (fun z => .inr (.inl z)) fun z => z.elim .inl fun y => .inr (.inr y)⟩
theorem mem_usort {x : Int} : ∀ {l : List Int}, x ∈ usort l ↔ x ∈ l
  | [] => Iff.rfl
  | a :: l => by
    show x ∈ insU a (usort l) ↔ _
    rw [mem_insU, mem_usort, List.mem_cons]
theorem insU_up {a : Int} : ∀ {l : List Int}, l.Pairwise (· < ·) → (insU a l).Pairwise (· < ·)
  | [], _ => List.pairwise_singleton ..
  | b :: l, h => by
    obtain ⟨h1, h2⟩ := List.pairwise_cons.mp h
    unfold insU
    split
    · rename_i q
      exact List.pairwise_cons.mpr ⟨fun x hx => (List.mem_cons.mp hx).elim (fun z => z ▸ q) fun z => Int.lt_trans q (h1 x z), h⟩
    · split
      · exact h
      · rename_i q q2
        exact List.pairwise_cons.mpr ⟨fun x hx => (mem_insU.mp hx).elim (fun z => by omega) (h1 x), insU_up h2⟩
theorem usort_up : ∀ l : List Int, (usort l).Pairwise (· < ·)
  | [] => .nil
  | a :: l => insU_up (usort_up l)
theorem up_one : ∀ {A B : List Int}, A.Pairwise (· < ·) → B.Pairwise (· < ·) → (∀ x, x ∈ A ↔ x ∈ B) → A = B
  | [], [], _, _, _ => rfl
  | [], b :: B, _, _, h => nomatch (h b).mpr (List.mem_cons_self ..)
  | a :: A, [], _, _, h => nomatch (h a).mp (List.mem_cons_self ..)
  | a :: A, b :: B, pa, pb, h => by
    obtain ⟨a1, a2⟩ := List.pairwise_cons.mp pa
    obtain ⟨b1, b2⟩ := List.pairwise_cons.mp pb
    have e : a = b := by
      rcases List.mem_cons.mp ((h a).mp (List.mem_cons_self ..)) with q | q
      · exact q
      · rcases List.mem_cons.mp ((h b).mpr (List.mem_cons_self ..)) with r | r
        · exact r.symm
        · have := a1 b r
          have := b1 a q
          omega
    subst e
    rw [up_one a2 b2 fun x => ⟨fun hx => ?_, fun hx => ?_⟩]
    · rcases List.mem_cons.mp ((h x).mp (List.mem_cons_of_mem _ hx)) with rfl | q
      · have := a1 x hx
        omega
      · exact q
    · rcases List.mem_cons.mp ((h x).mpr (List.mem_cons_of_mem _ hx)) with rfl | q
      · have := b1 x hx
        omega
      · exact q
def numsOf : List PyData → Option (List Int)
  | [] => some []
  | .int i :: ds => (numsOf ds).map (i :: ·)
  | _ => none
theorem nums_da {K : PySem.W.Frag} {G : Hp} : ∀ {xs : List V} {ds : List PyData} {ns : List Int}, Da K G xs ds → numsOf ds = some ns → xs = ns.map V.int
  | _, _, _, .nil, e => by cases e; rfl
  | _, _, _, .cons (d := d) h t, e => by
    cases d with
    | int i =>
      obtain ⟨ms, e1, rfl⟩ := Option.map_eq_some_iff.mp (show (numsOf _).map (i :: ·) = some _ from e)
      rw [dt_int h, nums_da t e1]
      rfl
    | _ => cases e
def ssN : PyData → Option (List PyData)
  | .list ds => (numsOf ds).bind fun ns => if ns.length ≤ 4000 then some ((usort ns).map .int) else none
  | _ => none
def ssD (d : PyData) : Option PyData := (ssN d).map .list
section
variable {X : Cx} {a : Expr} {ta : TE} {bb : Bool} {fa : FE PyData}
def tSortSet (K : PySem.W.Frag) (ta : TE) : TE := fun σ H Q => ta σ H fun x H1 => ∃ (l : Addr) (ns : List Int), x = .ref l ∧ SqL K H1 l (ns.map V.int) ∧ ns.length ≤ 4000 ∧ ∀ p, H1 p = none → Q (.ref p) (upd H1 p (.lst ((usort ns).map V.int)))
theorem pe_sortSet {p p2 q pos : Pos} (hc : X.calm = true) (hg : Gl X "sorted") (hm : X.mg "sorted" = none) (hg2 : Gl X "set") (hm2 : X.mg "set" = none) (ha : PE X a ta)
    (na : starEach [a] X.env = (false, eval a X.env) :: starEach [] X.env := by rfl) : PE X (.Call (.Name "sorted" p) [.Call (.Name "set" p2) [a] [] q] [] pos) (tSortSet X.K ta) := ⟨fun pins s σ H Q I h => by
  refine Call_ (ld_blt I hg hm boot_sorted (PyProof.Rows.callWith_builtin1 (PyProof.Rows.args_cons ?_ rfl) rfl rfl))
  refine Call_ (ld_blt I hg2 hm2 boot_set (PyProof.Rows.callWith_type1 (PyProof.Rows.args_cons (thn (ha.run pins s σ H _ I h) fun v s1 hz => PyProof.Rows.args_nil ?_) na) na rfl))
  obtain ⟨x, H1, I1, r1, l, ns, rfl, hq, hl, k⟩ := hz
  cases r1
  obtain ⟨its, r, pl, _⟩ := I1.list hq
  refine set_of_list ns (I1.ok.hd hc) pl.isList (by simpa using RZ.intsAre_vals r) (by unfold scanBound; omega) fun h' tk c R hc' keep => ?_
  refine PyProof.Rows.args_nil ?_
  have I2 : Inv X pins σ H1 { s1 with heap := h', toks := tk } := I1.kept keep
  refine sorted_of_set R (I2.ok.hd hc) fun t p out c' ns' kp g o hp hgp hi up hm' hl' => ?_
  have eu : ns' = usort ns := up_one up (usort_up ns) fun x => by
    rw [hm' x, mem_usort, decide_eq_true_eq]
  subst eu
  have room : ((usort ns).map V.int).length ≤ sizeLine := by
    rw [List.length_map, hl', sizeLine_eq]
    omega
  have fresh : H1 p = none := I2.hok.fresh hp
  have J : Inv X pins σ (upd H1 p (.lst ((usort ns).map V.int))) { ({ s1 with heap := h', toks := tk } : Shared) with heap := t.heap, gens := t.gens, drawn := t.drawn, toks := t.toks } :=
    I2.call (ch := []) (Un.laid kp hp fresh) (I2.hok.laid kp hp ⟨room, out.toList, c', vals_of_ints hi, hgp⟩) (by rw [g]; exact I2.bare) (fun _ z => nomatch z)
  have e : t = { ({ s1 with heap := h', toks := tk } : Shared) with heap := t.heap, gens := t.gens, drawn := t.drawn, toks := t.toks } := by
    cases t
    cases s1
    cases o
    rfl
  rw [e]
  exact ⟨.ref p, _, J, rfl, k p fresh⟩⟩
theorem l_sortSet {p p2 q pos : Pos} (hc : X.calm = true) (hg : Gl X "sorted") (hm : X.mg "sorted" = none) (hg2 : Gl X "set") (hm2 : X.mg "set" = none) (ha : PE X a (tE X.K bb fa))
    (na : starEach [a] X.env = (false, eval a X.env) :: starEach [] X.env := by rfl) : PE X (.Call (.Name "sorted" p) [.Call (.Name "set" p2) [a] [] q] [] pos) (tE X.K bb (fUn ssD fa)) :=
  PE.weak (pe_sortSet hc hg hm hg2 hm2 ha na) fun σ H Q ⟨G, ρ, d, ρ', E, ef, k⟩ => by
    obtain ⟨x, ρ1, h1, h2⟩ := thnE_of ef
    obtain ⟨h3, rfl⟩ := liftO_of h2
    obtain ⟨zs, h4, rfl⟩ := Option.map_eq_some_iff.mp h3
    unfold ssN at h4
    split at h4
    case h_2 => cases h4
    rename_i ds
    obtain ⟨ns, h5, h6⟩ := Option.bind_eq_some_iff.mp h4
    obtain ⟨h7, rfl⟩ := ite_p h6
    refine ⟨G, ρ, _, ρ', E, h1, fun v G1 H1 t1 o1 E1 d1 => ?_⟩
    obtain ⟨b, xs, rfl, hx, dx⟩ := dt_list d1
    have ex := nums_da dx h5
    subst ex
    refine ⟨b, ns, rfl, (hx.mono E1.ex).sq, h7, fun p hp => ?_⟩
    have t : Tr nobody G1 H1 (upd G1 p (.lst ((usort ns).map V.int))) (upd H1 p (.lst ((usort ns).map V.int))) := Tr.new hp E1.ex
    exact k _ _ _ (t1.trans t fun _ _ _ q => q.elim) o1 (E1.tr t (ex_upd E1.ex)) (.ll (RL.of upd_same) (Da.ints (usort ns)))
end
end Tw

set_option Elab.async false
set_option linter.all false
set_option maxRecDepth 100000
set_option maxHeartbeats 2000000
namespace Tw
open PySem PySem.Spec PyProof.Rows L2
open Evl (Ex)
/-! ### a dict of one's own whose values are lists of one's own -/
inductive InL (K : PySem.W.Frag) (G H : Hp) (no : Addr → Prop) : List V → List PyData → List Addr → Prop
  | nil : InL K G H no [] [] []
  | cons {b : Addr} {xs : List V} {ds : List PyData} {vs : List V} {es : List PyData} {bs : List Addr} (h : H b = some (.lst xs)) (g : G b = none) (n : no b) (d : Da K G xs ds) (f : b ∉ bs) (t : InL K G H no vs es bs) : InL K G H no (.ref b :: vs) (.list ds :: es) (b :: bs)
section
variable {K : PySem.W.Frag} {G H G' H' : Hp} {no no' : Addr → Prop}
theorem InL.mono (eG : Ex G G') : ∀ {vs : List V} {es : List PyData} {bs : List Addr}, InL K G H no vs es bs → (∀ b o, b ∈ bs → H b = some o → G b = none → no b → H' b = some o ∧ G' b = none ∧ no' b) → InL K G' H' no' vs es bs
  | _, _, _, .nil, _ => .nil
  | _, _, _, .cons h g n d f t, hh => by
    obtain ⟨h1, h2, h3⟩ := hh _ _ (List.mem_cons_self ..) h g n
    exact .cons h1 h2 h3 (d.mono eG) f (t.mono eG fun b o hb => hh b o (List.mem_cons_of_mem _ hb))
theorem InL.len : ∀ {vs : List V} {es : List PyData} {bs : List Addr}, InL K G H no vs es bs → vs.length = es.length
  | _, _, _, .nil => rfl
  | _, _, _, .cons _ _ _ _ _ t => congrArg (· + 1) t.len
theorem InL.free : ∀ {vs : List V} {es : List PyData} {bs : List Addr}, InL K G H no vs es bs → ∀ b ∈ bs, no b ∧ G b = none ∧ ∃ xs, H b = some (.lst xs)
  | _, _, _, .nil, b, hb => nomatch hb
  | _, _, _, .cons h g n d f t, b, hb => by
    rcases List.mem_cons.mp hb with rfl | hb
    · exact ⟨n, g, _, h⟩
    · exact t.free b hb
/-- another thing at an address that is none of them -/
theorem InL.upd {p : Addr} {o : HO} {vs : List V} {es : List PyData} {bs : List Addr} (h : InL K G H no vs es bs) (hp : p ∉ bs) : InL K G (upd H p o) no vs es bs :=
  h.mono (fun _ _ q => q) fun b u hb q g n => ⟨by rw [upd_ne fun z => hp (by rw [← z]; exact hb)]; exact q, g, n⟩
theorem InL.app : ∀ {vs us : List V} {es fs : List PyData} {bs cs : List Addr}, InL K G H no vs es bs → InL K G H no us fs cs → (∀ b ∈ bs, b ∉ cs) → InL K G H no (vs ++ us) (es ++ fs) (bs ++ cs)
  | _, _, _, _, _, _, .nil, b, _ => b
  | _, _, _, _, _, _, .cons h g n d f t, b, hd => .cons h g n d (fun q => (List.mem_append.mp q).elim f fun z => hd _ (List.mem_cons_self ..) z) (t.app b fun x hx => hd x (List.mem_cons_of_mem _ hx))
end
/-- the list at a key, lengthened -/
def appE : List (PyData × PyData) → Key → PyData → List (PyData × PyData)
  | [], _, _ => []
  | (q, .list ds) :: es, k, d => if isK k q = true then (q, .list (ds ++ [d])) :: es else (q, .list ds) :: appE es k d
  | e :: es, k, d => e :: appE es k d
section
variable {K : PySem.W.Frag} {G H : Hp} {no : Addr → Prop}
theorem inl_app (k : Key) {v : V} {d : PyData} (dv : Dt K G v d) : ∀ {kvs : List (Key × V)} {ds : List PyData} {bs : List Addr} {ds0 : List PyData}, InL K G H no (kvs.map (·.2)) ds bs → getE (zipE kvs ds) k = some (.list ds0) →
    ∃ b xs ds', valV kvs k = some (.ref b) ∧ H b = some (.lst xs) ∧ G b = none ∧ no b ∧ b ∈ bs ∧ xs.length = ds0.length ∧ InL K G (upd H b (.lst (xs ++ [v]))) no (kvs.map (·.2)) ds' bs ∧ appE (zipE kvs ds) k d = zipE kvs ds'
  | [], ds, bs, ds0, h, e => by
    cases h
    cases e
  | p :: kvs, ds, bs, ds0, h, e => by
    obtain ⟨pk, pv⟩ := p
    have h : InL K G H no (pv :: kvs.map (·.2)) ds bs := h
    cases h with
    | @cons b xs es _ dd cs hb0 g n dx f t =>
      have z : zipE ((pk, V.ref b) :: kvs) (.list es :: dd) = (keyD pk, .list es) :: zipE kvs dd := rfl
      rw [z] at e ⊢
      by_cases c : pk = k
      · have tk : isK k (keyD pk) = true := by rw [isK_key, decide_eq_true c]
        have e' : some (PyData.list es) = some (.list ds0) := by
          rw [← e]
          unfold getE
          rw [List.find?_cons_of_pos (p := fun e : PyData × PyData => isK k e.1) tk]
          rfl
        have ee : es = ds0 := by injection e' with e'; injection e'
        refine ⟨b, xs, .list (es ++ [d]) :: dd, valV_pos c, hb0, g, n, List.mem_cons_self .., by rw [← ee]; exact dx.len, .cons upd_same g n (dx.app (Da.one dv)) f (t.upd f), ?_⟩
        show (if isK k (keyD pk) = true then _ else _) = _
        rw [if_pos tk]
        rfl
      · have tk : isK k (keyD pk) = false := by rw [isK_key, decide_eq_false c]
        have e' : getE (zipE kvs dd) k = some (.list ds0) := by
          rw [← e]
          unfold getE
          rw [List.find?_cons_of_neg (p := fun e : PyData × PyData => isK k e.1) (by rw [tk]; decide)]
        obtain ⟨b2, xs2, ds', h1, h2, h3, h4, h5, h6, h7, h8⟩ := inl_app k dv t e'
        have ne : b ≠ b2 := fun q => f (by rw [q]; exact h5)
        refine ⟨b2, xs2, .list es :: ds', by rw [valV_neg c]; exact h1, h2, h3, h4, List.mem_cons_of_mem _ h5, h6, .cons (by rw [upd_ne ne]; exact hb0) g n dx f h7, ?_⟩
        show (if isK k (keyD pk) = true then _ else _) = _
        rw [if_neg (by rw [tk]; decide), h8]
        rfl
theorem inl_key (k : Key) : ∀ {kvs : List (Key × V)} {ds : List PyData} {bs : List Addr}, InL K G H no (kvs.map (·.2)) ds bs → (valV kvs k).isSome = hasE (zipE kvs ds) k ∧ (hasE (zipE kvs ds) k = true → ∃ ds0, getE (zipE kvs ds) k = some (.list ds0))
  | [], ds, bs, h => by
    cases h
    exact ⟨rfl, fun q => (by cases q)⟩
  | p :: kvs, ds, bs, h => by
    obtain ⟨pk, pv⟩ := p
    have h : InL K G H no (pv :: kvs.map (·.2)) ds bs := h
    cases h with
    | @cons b xs es _ dd cs hb0 g n dx f t =>
      obtain ⟨i1, i2⟩ := inl_key k t
      have z : zipE ((pk, V.ref b) :: kvs) (.list es :: dd) = (keyD pk, .list es) :: zipE kvs dd := rfl
      rw [z]
      unfold getE hasE at *
      by_cases c : pk = k
      · have tk : isK k (keyD pk) = true := by rw [isK_key, decide_eq_true c]
        rw [List.find?_cons_of_pos (p := fun e : PyData × PyData => isK k e.1) tk, valV_pos c, List.any_cons, tk]
        exact ⟨rfl, fun _ => ⟨_, rfl⟩⟩
      · have tk : isK k (keyD pk) = false := by rw [isK_key, decide_eq_false c]
        rw [List.find?_cons_of_neg (p := fun e : PyData × PyData => isK k e.1) (by rw [tk]; decide), valV_neg c, List.any_cons, tk, Bool.false_or]
        exact ⟨i1, i2⟩
end
/-- the slot i has such a dict; what it is made of stood not in H0 -/
def LotsOk (K : PySem.W.Frag) (H0 G H : Hp) (σ : L2.St) (ρ : Rho) (i : Nat) (es : List (PyData × PyData)) : Prop :=
  ∃ (D : Addr) (kvs : List (Key × V)) (ds : List PyData) (bs : List Addr), σ[i]? = some (some (.ref D)) ∧ H D = some (.dK kvs) ∧ G D = none ∧ H0 D = none ∧ ¬ own σ ρ D ∧ es = zipE kvs ds ∧ InL K G H (fun b => H0 b = none ∧ ¬ own σ ρ b ∧ b ≠ D) (kvs.map (·.2)) ds bs
section
variable {K : PySem.W.Frag} {P : List Nat} {H0 G H G0 G1 H1 : Hp} {σ σ0 σ1 : L2.St} {ρ ρ0 ρ1 : Rho} {i : Nat} {es : List (PyData × PyData)}
theorem Stp.cut (s : Stp (i :: P) G H σ ρ G1 H1 σ1 ρ1) : Stp P G H σ ρ G1 H1 σ1 ρ1 := ⟨s.t, s.o, fun j hj => s.p j (List.mem_cons_of_mem _ hj)⟩
theorem LotsOk.stp (L : LotsOk K H0 G H σ ρ i es) (s : Stp (i :: P) G H σ ρ G1 H1 σ1 ρ1) : LotsOk K H0 G1 H1 σ1 ρ1 i es := by
  obtain ⟨D, kvs, ds, bs, h1, h2, h3, h4, h5, h6, h7⟩ := L
  have nw : ∀ a o, H a = some o → ¬ own σ ρ a → ¬ own σ1 ρ1 a := fun a o ha na q => (s.o a q).elim na fun z => by rw [z] at ha; cases ha
  refine ⟨D, kvs, ds, bs, by rw [s.p i (List.mem_cons_self ..)]; exact h1, s.t.h _ _ h2 h5, s.t.n _ _ h2 h3 h5, h4, nw _ _ h2 h5, h6, h7.mono s.t.g fun b o hb q g n => ⟨s.t.h _ _ q n.2.1, s.t.n _ _ q g n.2.1, n.1, nw _ _ q n.2.1, n.2.2⟩⟩
/-- what the slot points to, and what stands there -/
theorem LotsOk.at (L : LotsOk K H0 G H σ ρ i es) {D : Addr} {kvs : List (Key × V)} (hD : σ[i]? = some (some (.ref D))) (hH : H D = some (.dK kvs)) :
    ∃ ds bs, G D = none ∧ H0 D = none ∧ ¬ own σ ρ D ∧ es = zipE kvs ds ∧ InL K G H (fun b => H0 b = none ∧ ¬ own σ ρ b ∧ b ≠ D) (kvs.map (·.2)) ds bs := by
  obtain ⟨D', kvs', ds, bs, h1, h2, h3, h4, h5, h6, h7⟩ := L
  rw [hD] at h1
  cases h1
  rw [hH] at h2
  cases h2
  exact ⟨ds, bs, h3, h4, h5, h6, h7⟩
theorem stp_upd {p : Addr} {o : HO} (s : Stp P G0 H0 σ0 ρ0 G H σ ρ) (hb : H0 p = none) : Stp P G0 H0 σ0 ρ0 G (upd H p o) σ ρ where
  t := {
    g := s.t.g
    h := fun a u q n => by
      rw [upd_ne fun z => by subst z; rw [hb] at q; cases q]
      exact s.t.h a u q n
    n := s.t.n
    k := fun a u q => by
      rw [upd_ne fun z => by subst z; rw [hb] at q; cases q]
      exact s.t.k a u q }
  o := s.o
  p := s.p
theorem env_upd {p : Addr} {o : HO} {u : HO} (E : EnvOk K G H σ ρ) (hp : H p = some u) (hG : G p = none) (nw : ¬ own σ ρ p) : EnvOk K G (upd H p o) σ ρ := env_keep E nw (tr_cell' hp) (ex_cell E.ex hG)
end
/-! readings beside such a dict -/
def KontQ (K : PySem.W.Frag) (P : List Nat) (i : Nat) (Gm G0 H0 : Hp) (σ0 : L2.St) (ρ0 : Rho) (D : Ends) : Out → Prop
  | .nx ρq => ∀ σ' G' H' ρ' es', ρq = ρ'.set i (.m (.k es')) → ρ'[i]? = some .un → Stp P G0 H0 σ0 ρ0 G' H' σ' ρ' → EnvOk K G' H' σ' ρ' → LotsOk K H0 G' H' σ' ρ' i es' → Ex Gm G' → D.nx σ' H'
  | .rt d ρ' => ∀ v σ' G' H', Stp P G0 H0 σ0 ρ0 G' H' σ' ρ' → EnvOk K G' H' σ' ρ' → Dt K G' v d → D.rt v H'
  | .rf _ _ => False
  | .bk ρq => ∀ σ' G' H' ρ' es', ρq = ρ'.set i (.m (.k es')) → ρ'[i]? = some .un → Stp P G0 H0 σ0 ρ0 G' H' σ' ρ' → EnvOk K G' H' σ' ρ' → LotsOk K H0 G' H' σ' ρ' i es' → Ex Gm G' → D.bk σ' H'
  | .ct ρq => ∀ σ' G' H' ρ' es', ρq = ρ'.set i (.m (.k es')) → ρ'[i]? = some .un → Stp P G0 H0 σ0 ρ0 G' H' σ' ρ' → EnvOk K G' H' σ' ρ' → LotsOk K H0 G' H' σ' ρ' i es' → Ex Gm G' → D.ct σ' H'
def tQ (K : PySem.W.Frag) (P : List Nat) (i : Nat) (f : FS) : TS := fun D σ H => ∃ (Gm G0 H0 : Hp) (σ0 : L2.St) (ρ0 : Rho) (G : Hp) (ρ : Rho) (es : List (PyData × PyData)) (o : Out),
  Stp P G0 H0 σ0 ρ0 G H σ ρ ∧ EnvOk K G H σ ρ ∧ ρ[i]? = some .un ∧ LotsOk K H0 G H σ ρ i es ∧ f (ρ.set i (.m (.k es))) = some o ∧ Ex Gm G ∧ KontQ K P i Gm G0 H0 σ0 ρ0 D o
/-- the dict in the slot i -/
def lq0 {α : Type} (s : Option Sl) (f : List (PyData × PyData) → Option α) : Option α := match s with
  | some (.m (.k es)) => f es
  | _ => none
def lqUn : Option Sl → Bool
  | some .un => true
  | _ => false
def lqb (i : Nat) (es : List (PyData × PyData)) (r : Rho) : Option Rho := if lqUn r[i]? = true then some (r.set i (.m (.k es))) else none
def lqk (i : Nat) (es : List (PyData × PyData)) : Option Out → Option Out
  | some (.nx r) => (lqb i es r).map .nx
  | some (.bk r) => (lqb i es r).map .bk
  | some (.ct r) => (lqb i es r).map .ct
  | some (.rt d r) => some (.rt d r)
  | _ => none
def fLift (i : Nat) (f : FS) : FS := fun ρ => lq0 ρ[i]? fun es => lqk i es (f (ρ.set i .un))
theorem un_of {s : Option Sl} (h : lqUn s = true) : s = some .un := by
  unfold lqUn at h
  split at h
  · rfl
  · cases h
section
variable {X : Cx} {st : Stmt} {sts body : List Stmt} {e a b c tg iter : Expr} {P : List Nat} {f g : FS} {fe fa fb : FE PyData} {pos : Pos} {bb : Bool} {i : Nat}
theorem lt_un {ρ : Rho} (h : ρ[i]? = some .un) : i < ρ.length := (List.getElem?_eq_some_iff.mp h).1
theorem set_un {ρ : Rho} {s : Sl} (h : ρ[i]? = some .un) : (ρ.set i s).set i .un = ρ := by
  rw [List.set_set]
  refine List.ext_getElem? fun j => ?_
  by_cases c : j = i
  · subst c
    rw [List.getElem?_set_self (lt_un h), h]
  · rw [List.getElem?_set_ne (Ne.symm c)]
theorem q_at {ρ : Rho} {es : List (PyData × PyData)} (h : ρ[i]? = some .un) : (ρ.set i (.m (.k es)))[i]? = some (.m (.k es)) := List.getElem?_set_self (lt_un h)
theorem q_lift (h : PS X st (tS X.K (i :: P) f)) : PS X st (tQ X.K P i (fLift i f)) := PS.weak h fun D σ H ⟨Gm, G0, H0, σ0, ρ0, G, ρ, es, o, s, E, hu, L, ef, em, k⟩ => by
  unfold fLift at ef
  rw [q_at hu] at ef
  have ef : lqk i es (f ((ρ.set i (.m (.k es))).set i .un)) = some o := ef
  rw [set_un hu] at ef
  cases q : f ρ with
  | none => rw [q] at ef; cases ef
  | some o1 =>
    rw [q] at ef
    refine ⟨G, ρ, o1, E, q, ?_⟩
    cases o1 with
    | rf ds r => cases ef
    | rt d r =>
      cases ef
      exact fun v σ' G' H' s' E' dv => k v σ' G' H' (s.trans s'.cut) E' dv
    | nx r =>
      obtain ⟨rq, e1, rfl⟩ := Option.map_eq_some_iff.mp ef
      obtain ⟨e2, rfl⟩ := ite_p e1
      exact fun σ' G' H' s' E' => k σ' G' H' r es rfl (un_of e2) (s.trans s'.cut) E' (L.stp s') fun a u z => s'.t.g a u (em a u z)
    | bk r =>
      obtain ⟨rq, e1, rfl⟩ := Option.map_eq_some_iff.mp ef
      obtain ⟨e2, rfl⟩ := ite_p e1
      exact fun σ' G' H' s' E' => k σ' G' H' r es rfl (un_of e2) (s.trans s'.cut) E' (L.stp s') fun a u z => s'.t.g a u (em a u z)
    | ct r =>
      obtain ⟨rq, e1, rfl⟩ := Option.map_eq_some_iff.mp ef
      obtain ⟨e2, rfl⟩ := ite_p e1
      exact fun σ' G' H' s' E' => k σ' G' H' r es rfl (un_of e2) (s.trans s'.cut) E' (L.stp s') fun a u z => s'.t.g a u (em a u z)
theorem q_nil : PSs X [] (tQ X.K P i fNext) := PSs.weak pss_nil fun D σ H ⟨Gm, G0, H0, σ0, ρ0, G, ρ, es, o, s, E, hu, L, ef, em, k⟩ => by
  cases ef
  exact k σ G H ρ es rfl hu s E L em
theorem q_cons (h1 : PS X st (tQ X.K P i f)) (h2 : PSs X sts (tQ X.K P i g)) : PSs X (st :: sts) (tQ X.K P i (fSeq f g)) := PSs.weak (pss_cons h1 h2) fun D σ H ⟨Gm, G0, H0, σ0, ρ0, G, ρ, es, o, s, E, hu, L, ef, em, k⟩ => by
  unfold fSeq at ef
  obtain ⟨o1, h1, h2⟩ := Option.bind_eq_some_iff.mp ef
  refine ⟨Gm, G0, H0, σ0, ρ0, G, ρ, es, o1, s, E, hu, L, h1, em, ?_⟩
  cases o1 with
  | nx r => exact fun σ' G' H' ρ' es' er hu' s' E' L' em' => ⟨Gm, G0, H0, σ0, ρ0, G', ρ', es', o, s', E', hu', L', by rw [← er]; exact h2, em', k⟩
  | rt d r => cases h2; exact k
  | rf ds r => cases h2; exact k
  | bk r => cases h2; exact k
  | ct r => cases h2; exact k
theorem q_one (h1 : PS X st (tQ X.K P i f)) : PSs X [st] (tQ X.K P i f) := PSs.weak (pss_one h1) fun _ _ _ h => h
def fIfQ (i : Nat) (t : FE Bool) (f g : FS) : FS := fun ρ => lq0 ρ[i]? fun es => (t (ρ.set i .un)).bind fun p => (lqb i es p.2).bind fun r => if p.1 = true then f r else g r
theorem q_if {t : FE Bool} {ta tb : List Stmt} (hc : PT X c (tT X.K bb t)) (ha : PSs X ta (tQ X.K P i f)) (hb : PSs X tb (tQ X.K P i g)) : PS X (.If c ta tb pos) (tQ X.K P i (fIfQ i t f g)) := PS.weak (ps_if hc ha hb) fun D σ H ⟨Gm, G0, H0, σ0, ρ0, G, ρ, es, o, s, E, hu, L, ef, em, k⟩ => by
  unfold fIfQ at ef
  rw [q_at hu] at ef
  obtain ⟨⟨q, ρ1⟩, h1, h2⟩ := Option.bind_eq_some_iff.mp ef
  rw [set_un hu] at h1
  obtain ⟨r, h3, h4⟩ := Option.bind_eq_some_iff.mp h2
  obtain ⟨h5, rfl⟩ := ite_p h3
  have hu1 := un_of h5
  refine ⟨G, ρ, q, ρ1, E, h1, fun G1 H1 t1 o1 E1 => ?_⟩
  have s1 : Stp (i :: P) G H σ ρ G1 H1 σ ρ1 := .of t1 o1
  cases q with
  | true =>
    rw [if_pos rfl] at h4
    show (if true = true then _ else _)
    rw [if_pos rfl]
    exact ⟨Gm, G0, H0, σ0, ρ0, G1, ρ1, es, o, s.trans s1.cut, E1, hu1, L.stp s1, h4, fun a u z => s1.t.g a u (em a u z), k⟩
  | false =>
    rw [if_neg Bool.false_ne_true] at h4
    show (if false = true then _ else _)
    rw [if_neg Bool.false_ne_true]
    exact ⟨Gm, G0, H0, σ0, ρ0, G1, ρ1, es, o, s.trans s1.cut, E1, hu1, L.stp s1, h4, fun a u z => s1.t.g a u (em a u z), k⟩
def forQ (i : Nat) (ft : FG) (fb : FS) : List PyData → FS
  | [], ρ => some (.nx ρ)
  | d :: ds, ρ => lq0 ρ[i]? fun es => (ft d (ρ.set i .un)).bind fun r => (lqb i es r).bind fun ρ1 => (fb ρ1).bind fun o => match o with
    | .nx r => forQ i ft fb ds r
    | .ct r => forQ i ft fb ds r
    | .bk r => some (.nx r)
    | .rt x r => some (.rt x r)
    | .rf x r => some (.rf x r)
def fForQ (i : Nat) (fi : FE (List PyData)) (ft : FG) (fb : FS) : FS := fun ρ => lq0 ρ[i]? fun es => (fi (ρ.set i .un)).bind fun p => (lqb i es p.2).bind fun r => forQ i ft fb p.1 r
theorem q_for {wk : Bool} {fi : FE (List PyData)} {ft : FG} {fb : FS} (hp : PassesOwn (model X.prog X.w) X.A X.env X.xe) (hc : X.calm = true) (hi : PI X tg iter (tIw wk X.K bb fi)) (hg : PG X tg (tGw wk X.K (i :: P) ft)) (hb : PSs X body (tQ X.K P i fb))
    (hs : ∀ x, foldedSetIterable iter X.env x = pure x := by intro _; rfl) : PS X (.For tg iter body [] pos) (tQ X.K P i (fForQ i fi ft fb)) := PS.weak (ps_for hp hc hi hg hb hs) fun D σ H ⟨Gm, G0, H0, σ0, ρ0, G, ρ, es, o, s, E, hu, L, ef, em, k⟩ => by
  unfold fForQ at ef
  rw [q_at hu] at ef
  obtain ⟨⟨ds, ρ1⟩, h1, h2⟩ := Option.bind_eq_some_iff.mp ef
  rw [set_un hu] at h1
  obtain ⟨r, h3, h4⟩ := Option.bind_eq_some_iff.mp h2
  obtain ⟨h5, rfl⟩ := ite_p h3
  have hu1 := un_of h5
  refine ⟨G, ρ, ds, ρ1, E, h1, fun J G1 H1 t1 o1 E1 W => ?_⟩
  have s1 : Stp (i :: P) G H σ ρ G1 H1 σ ρ1 := .of t1 o1
  refine ⟨fun j m σ' H' => m = ds.length - j ∧ j ≤ ds.length ∧ ∃ G' ρ' es', Stp P G0 H0 σ0 ρ0 G' H' σ' ρ' ∧ Ex G1 G' ∧ EnvOk X.K G' H' σ' ρ' ∧ ρ'[i]? = some .un ∧ LotsOk X.K H0 G' H' σ' ρ' i es' ∧ forQ i ft fb (ds.drop j) (ρ'.set i (.m (.k es'))) = some o,
    ⟨ds.length, by omega, Nat.zero_le _, G1, ρ1, es, s.trans s1.cut, fun _ _ q => q, E1, hu1, L.stp s1, h4⟩, ?_⟩
  rintro j m σ' H' ⟨rfl, hj, G', ρ', es', s', eg, E', hu', L', hf⟩
  by_cases hlt : j < ds.length
  · have ed : ds.drop j = ds[j] :: ds.drop (j + 1) := List.drop_eq_getElem_cons hlt
    rw [ed] at hf
    unfold forQ at hf
    rw [q_at hu'] at hf
    obtain ⟨ρ2, q1, q2⟩ := Option.bind_eq_some_iff.mp hf
    rw [set_un hu'] at q1
    obtain ⟨ρ3, q3, q4⟩ := Option.bind_eq_some_iff.mp q2
    obtain ⟨q5, rfl⟩ := ite_p q3
    obtain ⟨ob, q6, q7⟩ := Option.bind_eq_some_iff.mp q4
    have hu2 := un_of q5
    have exG : Ex G1 H' := fun a u z => E'.ex a u (eg a u z)
    refine .inr ⟨W.go j H' hlt exG, fun σ2 H2 => ∃ G' ρ' es', Stp P G0 H0 σ0 ρ0 G' H2 σ2 ρ' ∧ Ex G1 G' ∧ EnvOk X.K G' H2 σ2 ρ' ∧ ρ'[i]? = some .un ∧ LotsOk X.K H0 G' H2 σ2 ρ' i es' ∧ forQ i ft fb (ds.drop (j + 1)) (ρ'.set i (.m (.k es'))) = some o, fun σ2 H2 z => ⟨ds.length - (j + 1), by omega, rfl, hlt, z⟩, fun x H2 y => ?_⟩
    obtain ⟨G3, t3, e3, d3⟩ := W.yld j H' x H2 ds[j] (List.getElem?_eq_getElem hlt) exG y G' eg E'.ex
    refine ⟨G3, ρ', ds[j], ρ2, E'.tr t3 e3, d3, q1, fun σ2 so E2 => ?_⟩
    have s2 : Stp (i :: P) G' H' σ' ρ' G3 H2 σ2 ρ2 := ⟨t3.none, fun l q => .inl (so.o l q), so.p⟩
    have eg2 : Ex G1 G3 := fun a u z => t3.g a u (eg a u z)
    have emG : Ex Gm G1 := fun a u z => s1.t.g a u (em a u z)
    refine ⟨G1, G0, H0, σ0, ρ0, G3, ρ2, es', ob, s'.trans s2.cut, E2, hu2, L'.stp s2, q6, eg2, ?_⟩
    cases ob with
    | nx r => exact fun σ4 G4 H4 ρ4 es4 er hu4 s4 E4 L4 em4 => ⟨G4, ρ4, es4, s4, em4, E4, hu4, L4, by rw [← er]; exact q7⟩
    | ct r => exact fun σ4 G4 H4 ρ4 es4 er hu4 s4 E4 L4 em4 => ⟨G4, ρ4, es4, s4, em4, E4, hu4, L4, by rw [← er]; exact q7⟩
    | bk r =>
      cases q7
      exact fun σ4 G4 H4 ρ4 es4 er hu4 s4 E4 L4 em4 => k σ4 G4 H4 ρ4 es4 er hu4 s4 E4 L4 fun a u z => em4 a u (emG a u z)
    | rt d r =>
      cases q7
      exact k
    | rf d r =>
      cases q7
      exact k
  · have en : j = ds.length := by omega
    subst en
    rw [List.drop_length] at hf
    cases hf
    exact .inl ⟨W.stop H' fun a u z => E'.ex a u (eg a u z), k σ' G' H' ρ' es' rfl hu' s' E' L' fun a u z => eg a u (s1.t.g a u (em a u z))⟩
end
end Tw

set_option Elab.async false
set_option linter.all false
set_option maxRecDepth 100000
set_option maxHeartbeats 2000000
namespace Tw
open PySem PySem.Spec PyProof.Rows L2
open Evl (Ex)
def onlyRt : Option Out → Option Out
  | some (.rt d r) => some (.rt d r)
  | _ => none
theorem onlyRt_of {o : Option Out} {u : Out} (h : onlyRt o = some u) : ∃ d r, u = .rt d r ∧ o = some (.rt d r) := by
  unfold onlyRt at h
  split at h
  · cases h
    exact ⟨_, _, rfl, rfl⟩
  · cases h
section
variable {K : PySem.W.Frag} {P : List Nat} {H0 G H G0 G1 H1 : Hp} {σ σ0 σ1 : L2.St} {ρ ρ0 ρ1 : Rho} {i : Nat} {es : List (PyData × PyData)}
theorem InL.refs {no : Addr → Prop} : ∀ {vs : List V} {es : List PyData} {bs : List Addr}, InL K G H no vs es bs → vs = bs.map V.ref
  | _, _, _, .nil => rfl
  | _, _, _, .cons _ _ _ _ _ t => congrArg (V.ref _ :: ·) t.refs
theorem own_unQ {v : Option V} {l : Addr} (h : own (σ.set i v) (ρ.set i .un) l) : own σ ρ l := by
  obtain ⟨j, es, w1, w2⟩ := h
  rcases set_get w1 with ⟨_, q⟩ | ⟨n, w1⟩
  · cases q
  · rw [List.getElem?_set_ne (Ne.symm n)] at w2
    exact ⟨j, es, w1, w2⟩
theorem env_unQ {v : Option V} (E : EnvOk K G H σ ρ) : EnvOk K G H (σ.set i v) (ρ.set i .un) where
  ex := E.ex
  len := by rw [List.length_set, List.length_set]; exact E.len
  dat := fun j d q => by
    rcases set_get q with ⟨_, q⟩ | ⟨n, q⟩
    · cases q
    · rw [List.getElem?_set_ne (Ne.symm n)]
      exact E.dat j d q
  mu := fun j d q => by
    rcases set_get q with ⟨_, q⟩ | ⟨n, q⟩
    · cases q
    · rw [List.getElem?_set_ne (Ne.symm n)]
      exact E.mu j d q
  ne := fun a b d1 d2 l w1 w2 w3 w4 => by
    rcases set_get w1 with ⟨_, q⟩ | ⟨na, w1⟩
    · cases q
    rcases set_get w2 with ⟨_, q⟩ | ⟨nb, w2⟩
    · cases q
    rw [List.getElem?_set_ne (Ne.symm na)] at w3
    rw [List.getElem?_set_ne (Ne.symm nb)] at w4
    exact E.ne a b d1 d2 l w1 w2 w3 w4
/-- such a dict, new in the slot i -/
theorem lots_new {D : Addr} {kvs : List (Key × V)} {ds : List PyData} {bs : List Addr} (E : EnvOk K G H σ ρ) (hi : i < ρ.length) (hp : i ∉ P) (hD : H D = none) (hk : ∀ a o, H a = some o → H1 a = some o) (hD1 : H1 D = some (.dK kvs))
    (hl : InL K G H1 (fun b => H b = none ∧ b ≠ D) (kvs.map (·.2)) ds bs) : Stp P G H σ ρ G H1 (σ.set i (some (.ref D))) (ρ.set i .un) ∧ EnvOk K G H1 (σ.set i (some (.ref D))) (ρ.set i .un) ∧ (ρ.set i .un)[i]? = some .un ∧ LotsOk K H G H1 (σ.set i (some (.ref D))) (ρ.set i .un) i (zipE kvs ds) := by
  have t : Tr nobody G H G H1 := ⟨fun _ _ q => q, fun a o q _ => hk a o q, fun _ _ _ q _ => q, fun a o q => ⟨o, hk a o q⟩⟩
  have E1 := E.tr t fun a o q => hk a o (E.ex a o q)
  have no : ∀ {b : Addr}, H b = none → ¬ own (σ.set i (some (.ref D))) (ρ.set i .un) b := fun {b} hb q => by
    obtain ⟨ys, z⟩ := own_there E (own_unQ q)
    rw [hb] at z
    cases z
  refine ⟨⟨t.wide fun _ _ _ q => q.elim, fun l q => .inl (own_unQ q), fun j hj => List.getElem?_set_ne fun z => hp (by rw [z]; exact hj)⟩, env_unQ E1, List.getElem?_set_self hi, ?_⟩
  refine ⟨D, kvs, ds, bs, List.getElem?_set_self (by rw [E.len]; exact hi), hD1, E.gn hD, hD, no hD, rfl, hl.mono (fun _ _ q => q) fun b o hb q g n => ⟨q, g, n.1, no n.1, n.2⟩⟩
/-- the list at k with one more -/
theorem lots_app {D : Addr} {kvs : List (Key × V)} {k : Key} {v : V} {d : PyData} {ds0 : List PyData} (s : Stp P G0 H0 σ0 ρ0 G H σ ρ) (E : EnvOk K G H σ ρ) (L : LotsOk K H0 G H σ ρ i es) (hD : σ[i]? = some (some (.ref D))) (hH : H D = some (.dK kvs)) (hk : getE es k = some (.list ds0)) (dv : Dt K G v d) :
    ∃ b xs, valV kvs k = some (.ref b) ∧ H b = some (.lst xs) ∧ xs.length = ds0.length ∧ Stp P G0 H0 σ0 ρ0 G (upd H b (.lst (xs ++ [v]))) σ ρ ∧ EnvOk K G (upd H b (.lst (xs ++ [v]))) σ ρ ∧ LotsOk K H0 G (upd H b (.lst (xs ++ [v]))) σ ρ i (appE es k d) := by
  obtain ⟨ds, bs, h3, h4, h5, rfl, h7⟩ := L.at hD hH
  obtain ⟨b, xs, ds', e1, e2, e3, e4, e5, e6, e7, e8⟩ := inl_app k dv h7 hk
  refine ⟨b, xs, e1, e2, e6, stp_upd s e4.1, env_upd E e2 e3 e4.2.1, ?_⟩
  rw [e8]
  exact ⟨D, kvs, ds', bs, hD, by rw [upd_ne (Ne.symm e4.2.2)]; exact hH, h3, h4, h5, rfl, e7⟩
theorem val_end {k : Key} {v : V} : ∀ {kvs : List (Key × V)}, (kvs.any fun kv => decide (kv.1 = k)) = false → valV (kvs ++ [(k, v)]) k = some v
  | [], _ => valV_pos rfl
  | p :: kvs, ny => by
    rw [List.any_cons, Bool.or_eq_false_iff] at ny
    have c : ¬ p.1 = k := of_decide_eq_false ny.1
    rw [List.cons_append, valV_neg c]
    exact val_end ny.2
/-- the dict with one more entry, an empty list -/
theorem lots_put {D z : Addr} {kvs : List (Key × V)} {k : Key} (s : Stp P G0 H0 σ0 ρ0 G H σ ρ) (E : EnvOk K G H σ ρ) (L : LotsOk K H0 G H σ ρ i es) (hD : σ[i]? = some (some (.ref D))) (hH : H D = some (.dK kvs)) (hz : H z = some (.lst [])) (gz : G z = none) (nz : ¬ own σ ρ z) (z0 : H0 z = none) (fz : ∀ ds bs, InL K G H (fun b => H0 b = none ∧ ¬ own σ ρ b ∧ b ≠ D) (kvs.map (·.2)) ds bs → z ∉ bs) (hk : valV kvs k = none) :
    Stp P G0 H0 σ0 ρ0 G (upd H D (.dK (putK kvs k (.ref z)))) σ ρ ∧ EnvOk K G (upd H D (.dK (putK kvs k (.ref z)))) σ ρ ∧ LotsOk K H0 G (upd H D (.dK (putK kvs k (.ref z)))) σ ρ i (es ++ [(keyD k, .list [])]) ∧ hasE es k = false ∧ valV (putK kvs k (.ref z)) k = some (.ref z) := by
  obtain ⟨ds, bs, h3, h4, h5, rfl, h7⟩ := L.at hD hH
  obtain ⟨i1, _⟩ := inl_key k h7
  have ny : (kvs.any fun kv => decide (kv.1 = k)) = false := by rw [valV_any, hk]; rfl
  have ep : putK kvs k (.ref z) = kvs ++ [(k, .ref z)] := by
    unfold putK
    rw [ny]
    exact if_neg Bool.false_ne_true
  have zD : z ≠ D := fun q => by rw [q, hH] at hz; cases hz
  have Dn : D ∉ bs := fun q => (h7.free D q).1.2.2 rfl
  refine ⟨stp_upd s h4, env_upd E hH h3 h5, ?_, by rw [← i1, hk]; rfl, ?_⟩
  · refine ⟨D, kvs ++ [(k, .ref z)], ds ++ [.list []], bs ++ [z], hD, by rw [upd_same, ep], h3, h4, h5, ?_, ?_⟩
    · unfold zipE
      have l : (kvs.map fun p => keyD p.1).length = ds.length := by rw [List.length_map, ← h7.len, List.length_map]
      rw [List.map_append, List.zip_append l]
      rfl
    · rw [List.map_append]
      have one : InL K G (upd H D (.dK (putK kvs k (.ref z)))) (fun b => H0 b = none ∧ ¬ own σ ρ b ∧ b ≠ D) ([(k, V.ref z)].map (·.2)) [.list []] [z] := .cons (by rw [upd_ne zD]; exact hz) gz ⟨z0, nz, zD⟩ .nil (by simp) .nil
      exact (h7.upd Dn).app one fun b hb q => fz ds bs h7 (by rw [← List.mem_singleton.mp q]; exact hb)
  · rw [ep]
    exact val_end ny
end
section
variable {X : Cx} {st : Stmt} {sts body : List Stmt} {e a b c tg iter : Expr} {P : List Nat} {f g : FS} {fe fk : FE PyData} {fa : FE (List PyData)} {pos dpos : Pos} {bb : Bool} {i : Nat}
/-! x = {}, whose values will be lists -/
def fLots (i : Nat) (es : List (PyData × PyData)) (g : FS) : FS := fun ρ => if i < ρ.length then onlyRt (g (ρ.set i (.m (.k es)))) else none
theorem ss_lots (i : Nat) (hp : i ∉ P) (ht : PG X tg (gName i)) (hr : PSs X sts (tQ X.K P i g)) (hs : swapsWithSole [tg] (.Dict [] [] dpos) pos.line X.env = pure false := by rfl) (hw : swappedStores [tg] (.Dict [] [] dpos) X.env = pure none := by rfl)
    (h1 : (assignEach [tg] X.env).map (·.2) = [assign tg X.env] := by rfl) : PSs X (.Assign [tg] (.Dict [] [] dpos) pos :: sts) (tS X.K P (fLots i [] g)) := PSs.weak (pss_cons (ps_asg pe_dnewK ht hs hw h1) hr) fun D σ H ⟨G, ρ, o, E, ef, k⟩ => by
  have ef : (if i < ρ.length then onlyRt (g (ρ.set i (.m (.k [])))) else none) = some o := ef
  by_cases hi : i < ρ.length
  case neg => rw [if_neg hi] at ef; cases ef
  rw [if_pos hi] at ef
  obtain ⟨d, r, rfl, ef2⟩ := onlyRt_of ef
  intro p hp0
  obtain ⟨s1, E1, hu, L⟩ := lots_new (i := i) (P := P) (kvs := []) (ds := []) (bs := []) (H1 := upd H p (.dK [])) E hi hp hp0 (fun a o q => by rw [upd_ne fun z => by subst z; rw [q] at hp0; cases hp0]; exact q) upd_same .nil
  exact ⟨G, G, H, σ, ρ, G, ρ.set i .un, [], .rt d r, s1, E1, hu, L, by rw [List.set_set]; exact ef2, fun _ _ q => q, k⟩
/-! it becomes data -/
def fFrzQ (i : Nat) (g : FS) : FS := fun ρ => lq0 ρ[i]? fun es => onlyRt (g (ρ.set i (.d (.dict es))))
theorem inl_da {K : PySem.W.Frag} {G H GG : Hp} {no : Addr → Prop} (eG : Ex G GG) : ∀ {vs : List V} {ds : List PyData} {bs : List Addr}, InL K G H no vs ds bs → (∀ b ∈ bs, GG b = H b) → Da K GG vs ds
  | _, _, _, .nil, _ => .nil
  | _, _, _, .cons h _ _ d _ t, hh => .cons (.ll (RL.of (by rw [hh _ (List.mem_cons_self ..)]; exact h)) (d.mono eG)) (inl_da eG t fun b hb => hh b (List.mem_cons_of_mem _ hb))
theorem q_frz (h : PSs X sts (tS X.K P g)) : PSs X sts (tQ X.K P i (fFrzQ i g)) := PSs.weak h fun D σ H ⟨Gm, G0, H0, σ0, ρ0, G, ρ, es, o, s, E, hu, L, ef, em, k⟩ => by
  unfold fFrzQ at ef
  rw [q_at hu] at ef
  have ef : onlyRt (g ((ρ.set i (.m (.k es))).set i (.d (.dict es)))) = some o := ef
  rw [List.set_set] at ef
  obtain ⟨d, r, rfl, ef2⟩ := onlyRt_of ef
  obtain ⟨D', kvs, ds, bs, h1, h2, h3, h4, h5, rfl, h7⟩ := L
  let GG : Hp := fun a => if a = D' ∨ a ∈ bs then H a else G a
  have g1 : ∀ a, (a = D' ∨ a ∈ bs) → GG a = H a ∧ G a = none ∧ H0 a = none ∧ ¬ own σ ρ a := fun a q => by
    refine ⟨if_pos q, ?_⟩
    rcases q with rfl | q
    · exact ⟨h3, h4, h5⟩
    · exact ⟨(h7.free a q).2.1, (h7.free a q).1.1, (h7.free a q).1.2.1⟩
  have g2 : ∀ a, ¬ (a = D' ∨ a ∈ bs) → GG a = G a := fun a q => if_neg q
  have eG : Ex G GG := fun a o q => by
    by_cases c : a = D' ∨ a ∈ bs
    · rw [(g1 a c).2.1] at q
      cases q
    · rw [g2 a c]
      exact q
  have eH : Ex GG H := fun a o q => by
    by_cases c : a = D' ∨ a ∈ bs
    · rw [(g1 a c).1] at q
      exact q
    · rw [g2 a c] at q
      exact E.ex a o q
  have sub : ∀ a, own σ (ρ.set i (.d (.dict (zipE kvs ds)))) a → own σ ρ a := fun a ⟨j, es, w1, w2⟩ => by
    rcases set_get w1 with ⟨_, q⟩ | ⟨_, q⟩
    · cases q
    · exact ⟨j, es, q, w2⟩
  have E2 : EnvOk X.K GG H σ (ρ.set i (.d (.dict (zipE kvs ds)))) := {
    ex := eH
    len := by rw [List.length_set]; exact E.len
    dat := fun j d q => by
      rcases set_get q with ⟨ej, qq⟩ | ⟨n, qq⟩
      · cases qq
        rw [ej]
        exact ⟨.ref D', h1, .dd (.inl (by rw [(g1 D' (.inl rfl)).1]; exact h2)) (inl_da eG h7 fun b hb => (g1 b (.inr hb)).1)⟩
      · obtain ⟨v, w1, w2⟩ := E.dat j d qq
        exact ⟨v, w1, w2.mono eG⟩
    mu := fun j d q => by
      rcases set_get q with ⟨ej, qq⟩ | ⟨n, qq⟩
      · cases qq
      · obtain ⟨l, xs, w1, w2, w3, w4⟩ := E.mu j d qq
        exact ⟨l, xs, w1, by rw [g2 l fun c => (g1 l c).2.2.2 ⟨j, d, qq, w1⟩]; exact w2, w3, w4.mono eG⟩
    ne := fun a b d1 d2 l w1 w2 w3 w4 => by
      rcases set_get w1 with ⟨_, q⟩ | ⟨_, w1⟩
      · cases q
      rcases set_get w2 with ⟨_, q⟩ | ⟨_, w2⟩
      · cases q
      exact E.ne a b d1 d2 l w1 w2 w3 w4 }
  have s2 : Stp P G0 H0 σ0 ρ0 GG H σ (ρ.set i (.d (.dict (zipE kvs ds)))) := {
    t := {
      g := fun a o q => eG a o (s.t.g a o q)
      h := s.t.h
      n := fun a o q q2 n => by
        rw [g2 a fun c => by rw [(g1 a c).2.2.1] at q; cases q]
        exact s.t.n a o q q2 n
      k := s.t.k }
    o := fun l q => s.o l (sub l q)
    p := s.p }
  exact ⟨GG, _, .rt d r, E2, ef2, fun v σ' G' H' s' E' dv => k v σ' G' H' (s2.trans s') E' dv⟩
/-! d[k].append(x), d.setdefault(k, []).append(x) -/
def appT (i : Nat) (es : List (PyData × PyData)) (k : Key) (ws : List PyData) (r : Rho) : Option Out := match ws, getE es k with
  | [d], some (.list ds) => if ds.length < 100000 then (lqb i (appE es k d) r).map .nx else none
  | _, _ => none
theorem appT_of {es : List (PyData × PyData)} {k : Key} {ws : List PyData} {r : Rho} {o : Out} (h : appT i es k ws r = some o) : ∃ d ds0, ws = [d] ∧ getE es k = some (.list ds0) ∧ ds0.length < 100000 ∧ o = .nx (r.set i (.m (.k (appE es k d)))) ∧ r[i]? = some .un := by
  unfold appT at h
  split at h
  · rename_i d ds0 hk
    by_cases c : ds0.length < 100000
    · rw [if_pos c] at h
      obtain ⟨rq, q6, rfl⟩ := Option.map_eq_some_iff.mp h
      obtain ⟨u, rfl⟩ := ite_p q6
      exact ⟨d, ds0, rfl, hk, c, rfl, un_of u⟩
    · rw [if_neg c] at h
      cases h
  · cases h
/-- the entries where k has a list -/
def setE (es : List (PyData × PyData)) (k : Key) : List (PyData × PyData) := if hasE es k = true then es else es ++ [(keyD k, .list [])]
def keyT (i : Nat) (es : List (PyData × PyData)) (fk : FE PyData) (fa : FE (List PyData)) (f : Key → List PyData → Rho → Option Out) : FS := fun ρ => (fk ρ).bind fun p => (lqb i es p.2).bind fun _ => (keyOf p.1).bind fun k => (fa p.2).bind fun q => f k q.1 q.2
theorem keyT_of {es : List (PyData × PyData)} {f : Key → List PyData → Rho → Option Out} {ρ : Rho} {o : Out} (h : keyT i es fk fa f ρ = some o) : ∃ x ρ1 k ws ρ2, fk ρ = some (x, ρ1) ∧ ρ1[i]? = some .un ∧ keyOf x = some k ∧ fa ρ1 = some (ws, ρ2) ∧ f k ws ρ2 = some o := by
  obtain ⟨⟨x, ρ1⟩, q1, h⟩ := Option.bind_eq_some_iff.mp h
  obtain ⟨_, q2, h⟩ := Option.bind_eq_some_iff.mp h
  obtain ⟨u1, _⟩ := ite_p q2
  obtain ⟨k, q3, h⟩ := Option.bind_eq_some_iff.mp h
  obtain ⟨⟨ws, ρ2⟩, q4, h⟩ := Option.bind_eq_some_iff.mp h
  exact ⟨x, ρ1, k, ws, ρ2, q1, un_of u1, q3, q4, h⟩
def fAppQ (i : Nat) (fk : FE PyData) (fa : FE (List PyData)) : FS := fun ρ => lq0 ρ[i]? fun es => keyT i es fk fa (appT i es) (ρ.set i .un)
def fSetQ (i : Nat) (fk : FE PyData) (fa : FE (List PyData)) : FS := fun ρ => lq0 ρ[i]? fun es => if es.length < 90000 then keyT i es fk fa (fun k => appT i (setE es k) k) (ρ.set i .un) else none
theorem q_app (h : PE X e (tBM X.K "list" rAppend (tDGet (tVar i) (tE X.K true fk)) (tA X.K true fa))) (hs : swapsWith e none pos.line X.env = pure false := by rfl) : PS X (.Expr e pos) (tQ X.K P i (fAppQ i fk fa)) := PS.weak (ps_expr h hs) fun D σ H ⟨Gm, G0, H0, σ0, ρ0, G, ρ, es, o, s, E, hu, L, ef, em, k⟩ => by
  unfold fAppQ at ef
  rw [q_at hu] at ef
  have ef : keyT i es fk fa (appT i es) ((ρ.set i (.m (.k es))).set i .un) = some o := ef
  rw [set_un hu] at ef
  obtain ⟨x, ρ1, kk, ws, ρ2, q1, u1, q3, q4, q5⟩ := keyT_of ef
  obtain ⟨d, ds0, rfl, hk, hl, rfl, u2⟩ := appT_of q5
  obtain ⟨D', kvs, ds', bs, h1, h2, hh⟩ := L
  have L : LotsOk X.K H0 G H σ ρ i es := ⟨D', kvs, ds', bs, h1, h2, hh⟩
  refine ⟨.ref D', h1, G, ρ, x, ρ1, E, q1, fun y G1 H1 t1 o1 E1 d1 => ?_⟩
  have s1 : Stp (i :: P) G H σ ρ G1 H1 σ ρ1 := .of t1 o1
  have L1 := L.stp s1
  have n5 : ¬ own σ ρ D' := by
    obtain ⟨_, _, _, _, n5, _⟩ := L.at h1 h2
    exact n5
  have h21 : H1 D' = some (.dK kvs) := s1.t.h _ _ h2 n5
  obtain ⟨b, xs, e1, e2, e3, _, _, _⟩ := lots_app (s.trans s1.cut) E1 L1 h1 h21 hk (.nn)
  have ey := keyOf_dt d1 q3
  refine ⟨D', .ref b, rfl, by rw [ey, ← e1]; exact .inl ⟨kvs, kk, Rd.of h21, rfl, rfl⟩, .inl ⟨rfl, xs, .inl (Rd.of e2)⟩, G1, ρ1, [d], ρ2, E1, q4, fun vs G2 H2 t2 o2 E2 d2 => ?_⟩
  have s2 : Stp (i :: P) G1 H1 σ ρ1 G2 H2 σ ρ2 := .of t2 o2
  have L2 := L1.stp s2
  have n51 : ¬ own σ ρ1 D' := by
    obtain ⟨_, _, _, _, n5, _⟩ := L1.at h1 h21
    exact n5
  have h22 : H2 D' = some (.dK kvs) := s2.t.h _ _ h21 n51
  obtain ⟨v, rfl, dv⟩ := da_one d2
  obtain ⟨b', xs', e1', e2', e3', s3, E3, L3⟩ := lots_app ((s.trans s1.cut).trans s2.cut) E2 L2 h1 h22 hk dv
  rw [e1] at e1'
  cases e1'
  exact ⟨b, xs', v, rfl, rfl, e2', by rw [e3']; exact Evl.sz_lt hl, k σ G2 _ ρ2 _ rfl u2 s3 E3 L3 fun a u z => t2.g a u (t1.g a u (em a u z))⟩
theorem q_set {fz : FE (List PyData)} (hz : ∀ ρ, fz ρ = some ([], ρ)) (h : PE X e (tBM X.K "list" rAppend (tDSetd (tVar i) (tE X.K true fk) (tF X.K true fz)) (tA X.K true fa))) (hs : swapsWith e none pos.line X.env = pure false := by rfl) : PS X (.Expr e pos) (tQ X.K P i (fSetQ i fk fa)) := PS.weak (ps_expr h hs) fun D σ H ⟨Gm, G0, H0, σ0, ρ0, G, ρ, es, o, s, E, hu, L, ef, em, k⟩ => by
  unfold fSetQ at ef
  rw [q_at hu] at ef
  have ef : (if es.length < 90000 then keyT i es fk fa (fun k => appT i (setE es k) k) ((ρ.set i (.m (.k es))).set i .un) else none) = some o := ef
  by_cases hE : es.length < 90000
  case neg => rw [if_neg hE] at ef; cases ef
  rw [if_pos hE, set_un hu] at ef
  obtain ⟨x, ρ1, kk, ws, ρ2, q1, u1, q3, q4, q5⟩ := keyT_of ef
  obtain ⟨d, ds0, rfl, hk, hl, rfl, u2⟩ := appT_of q5
  obtain ⟨D', kvs, ds', bs, h1, h2, hh⟩ := L
  have L : LotsOk X.K H0 G H σ ρ i es := ⟨D', kvs, ds', bs, h1, h2, hh⟩
  refine ⟨.ref D', h1, D', rfl, .inl ⟨kvs, Rd.of h2⟩, G, ρ, x, ρ1, E, q1, fun y G1 H1 t1 o1 E1 d1 => ?_⟩
  have s1 : Stp (i :: P) G H σ ρ G1 H1 σ ρ1 := .of t1 o1
  have L1 := L.stp s1
  have ey := keyOf_dt d1 q3
  refine ⟨G1, ρ1, [], ρ1, E1, hz ρ1, fun z xz G2 H2 fz2 gz hz2 dz t2 o2 E2 => ?_⟩
  cases dz
  have s2 : Stp (i :: P) G1 H1 σ ρ1 G2 H2 σ ρ1 := .of t2 o2
  have L2 := L1.stp s2
  have n5 : ¬ own σ ρ D' := by
    obtain ⟨_, _, _, _, n5, _⟩ := L.at h1 h2
    exact n5
  have h21 : H1 D' = some (.dK kvs) := s1.t.h _ _ h2 n5
  obtain ⟨dsx, bsx, n3, n4, n51, e6, n7⟩ := L1.at h1 h21
  have h22 : H2 D' = some (.dK kvs) := s2.t.h _ _ h21 n51
  have st := (s.trans s1.cut).trans s2.cut
  have emm : Ex Gm G2 := fun a u z => t2.g a u (t1.g a u (em a u z))
  have lz : kvs.length < sizeLine := by
    have : es.length = kvs.length := by
      rw [e6]
      unfold zipE
      rw [List.length_zip, List.length_map, ← n7.len, List.length_map, Nat.min_self]
    rw [← this]
    exact Evl.sz_lt (by omega)
  obtain ⟨ik, _⟩ := inl_key kk n7
  refine ⟨kvs, kk, h22, ey, lz, fun v hv => ?_, fun hv => ?_⟩
  · have hE2 : hasE es kk = true := by rw [e6, ← ik, hv]; rfl
    have eS : setE es kk = es := if_pos hE2
    rw [eS] at hk k
    obtain ⟨b, xs, e1, e2, e3, _, _, _⟩ := lots_app st E2 L2 h1 h22 hk (.nn)
    rw [hv] at e1
    cases e1
    refine ⟨.inl ⟨rfl, xs, .inl (Rd.of e2)⟩, G2, ρ1, [d], ρ2, E2, q4, fun vs G3 H3 t3 o3 E3 d3 => ?_⟩
    have s3 : Stp (i :: P) G2 H2 σ ρ1 G3 H3 σ ρ2 := .of t3 o3
    have L3 := L2.stp s3
    have n52 : ¬ own σ ρ1 D' := by
      obtain ⟨_, _, _, _, n5, _⟩ := L2.at h1 h22
      exact n5
    have h23 : H3 D' = some (.dK kvs) := s3.t.h _ _ h22 n52
    obtain ⟨v, rfl, dv⟩ := da_one d3
    obtain ⟨b', xs', e1', e2', e3', s4, E4, L4⟩ := lots_app (st.trans s3.cut) E3 L3 h1 h23 hk dv
    rw [hv] at e1'
    cases e1'
    exact ⟨b, xs', v, rfl, rfl, e2', by rw [e3']; exact Evl.sz_lt hl, k σ G3 _ ρ2 _ rfl u2 s4 E4 L4 fun a u z => t3.g a u (emm a u z)⟩
  · have nz : ¬ own σ ρ1 z := fun q => by
      obtain ⟨ys, w⟩ := own_there E1 q
      rw [fz2] at w
      cases w
    have z0 : H0 z = none := by
      cases q : H0 z with
      | none => rfl
      | some u =>
        obtain ⟨u', w⟩ := (s.trans s1.cut).t.k z u q
        rw [fz2] at w
        cases w
    obtain ⟨s4, E4, L4, hE4, hv4⟩ := lots_put (k := kk) st E2 L2 h1 h22 hz2 gz nz z0 (fun ds bs h q => by
      have e1 := h.refs
      have e2 := n7.refs
      rw [e1] at e2
      have e3 : bs = bsx := (List.map_inj_right (fun a b w => by injection w)).mp e2
      rw [e3] at q
      obtain ⟨_, _, ys, w⟩ := n7.free z q
      rw [fz2] at w
      cases w) hv
    have eS : setE es kk = es ++ [(keyD kk, .list [])] := if_neg (by rw [hE4]; decide)
    rw [eS] at hk k
    have hD4 : upd H2 D' (.dK (putK kvs kk (.ref z))) D' = some (.dK (putK kvs kk (.ref z))) := upd_same
    obtain ⟨b, xs, e1, e2, e3, _, _, _⟩ := lots_app s4 E4 L4 h1 hD4 hk (.nn)
    rw [hv4] at e1
    cases e1
    refine ⟨.inl ⟨rfl, xs, .inl (Rd.of e2)⟩, G2, ρ1, [d], ρ2, E4, q4, fun vs G3 H3 t3 o3 E3 d3 => ?_⟩
    have s3 : Stp (i :: P) G2 (upd H2 D' (.dK (putK kvs kk (.ref z)))) σ ρ1 G3 H3 σ ρ2 := .of t3 o3
    have L5 := L4.stp s3
    have n52 : ¬ own σ ρ1 D' := by
      obtain ⟨_, _, _, _, n5, _⟩ := L4.at h1 hD4
      exact n5
    have h23 : H3 D' = some (.dK (putK kvs kk (.ref z))) := s3.t.h _ _ hD4 n52
    obtain ⟨v, rfl, dv⟩ := da_one d3
    obtain ⟨b', xs', e1', e2', e3', s6, E6, L6⟩ := lots_app (s4.trans s3.cut) E3 L5 h1 h23 hk dv
    rw [hv4] at e1'
    cases e1'
    exact ⟨_, xs', v, rfl, rfl, e2', by rw [e3']; exact Evl.sz_lt hl, k σ G3 _ ρ2 _ rfl u2 s6 E6 L6 fun a u z => t3.g a u (emm a u z)⟩
/-! x = {k: [], ..}, keys that are texts -/
theorem pairs_new {σ : L2.St} : ∀ (ks : List Str) (H : Hp) (Q : List (V × V) → Hp → Prop), (∀ (bs : List Addr) (H' : Hp), bs.length = ks.length → bs.Nodup → (∀ b ∈ bs, H b = none ∧ H' b = some (.lst [])) → (∀ a o, H a = some o → H' a = some o) → Q ((ks.zip bs).map fun p => (.str p.1, .ref p.2)) H') → tPairs (ks.map fun k => (tC (.str k), tLst tNil)) σ H Q
  | [], H, Q, h => h [] H rfl List.nodup_nil (fun b hb => nomatch hb) fun _ _ q => q
  | k :: ks, H, Q, h => by
    refine ⟨Nat.zero_le _, fun p hp => ?_⟩
    refine pairs_new ks _ _ fun bs H' hl nd hb hk => ?_
    have np : p ∉ bs := fun q => by
      have := (hb p q).1
      rw [upd_same] at this
      cases this
    refine h (p :: bs) H' (congrArg (· + 1) hl) (List.nodup_cons.mpr ⟨np, nd⟩) (fun b hb' => ?_) fun a o q => hk a o (by rw [upd_ne fun z => by subst z; rw [q] at hp; cases hp]; exact q)
    rcases List.mem_cons.mp hb' with rfl | hb'
    · exact ⟨hp, hk _ _ upd_same⟩
    · obtain ⟨w1, w2⟩ := hb b hb'
      have ne : b ≠ p := fun z => np (by rw [← z]; exact hb')
      rw [upd_ne ne] at w1
      exact ⟨w1, w2⟩
theorem merge_new : ∀ (kvs acc : List (Key × V)), (acc.map (·.1) ++ kvs.map (·.1)).Nodup → mergeK acc kvs = acc ++ kvs
  | [], acc, _ => (List.append_nil _).symm
  | kv :: kvs, acc, nd => by
    have ny : (acc.any fun e => decide (e.1 = kv.1)) = false := by
      rw [List.any_eq_false]
      intro e he q
      have := (List.nodup_append.mp nd).2.2 e.1 (List.mem_map_of_mem he) kv.1 (List.mem_map_of_mem (List.mem_cons_self ..))
      exact this (of_decide_eq_true q)
    have ep : putK acc kv.1 kv.2 = acc ++ [kv] := by
      unfold putK
      rw [ny]
      exact if_neg Bool.false_ne_true
    show mergeK (putK acc kv.1 kv.2) kvs = _
    rw [ep, merge_new kvs (acc ++ [kv]) (by rw [List.map_append, List.append_assoc]; exact nd), List.append_assoc]
    rfl
theorem zip_new : ∀ (ks : List Str) (bs : List Addr), bs.length = ks.length → zipE ((ks.zip bs).map fun p => ((.inr p.1, .ref p.2) : Key × V)) (bs.map fun _ => PyData.list []) = ks.map fun k => (.str k, .list [])
  | [], [], _ => rfl
  | [], b :: bs, h => nomatch h
  | k :: ks, [], h => nomatch h
  | k :: ks, b :: bs, h => by
    have := zip_new ks bs (by simpa using h)
    show (PyData.str k, PyData.list []) :: _ = (PyData.str k, PyData.list []) :: _
    rw [← this]
    rfl
theorem ss_lotsK (ks : List Str) (i : Nat) (hp : i ∉ P) {keys : List (Option Expr)} {values : List Expr} (hd : ks.Nodup) (hl : ks.length ≤ 15) (hne : ks ≠ []) (h : PPs X dpos keys values (ks.map fun k => (tC (.str k), tLst tNil))) (ht : PG X tg (gName i)) (hr : PSs X sts (tQ X.K P i g))
    (hall : (keys.all fun x => x.isSome) = true := by rfl) (hlen : keys.length = values.length := by rfl) (h0 : keys ≠ [] := by exact List.cons_ne_nil _ _) (h15 : keys.length ≤ 15 := by decide)
    (hs : swapsWithSole [tg] (.Dict keys values dpos) pos.line X.env = pure false := by rfl) (hw : swappedStores [tg] (.Dict keys values dpos) X.env = pure none := by rfl)
    (h1 : (assignEach [tg] X.env).map (·.2) = [assign tg X.env] := by rfl) : PSs X (.Assign [tg] (.Dict keys values dpos) pos :: sts) (tS X.K P (fLots i (ks.map fun k => (.str k, .list [])) g)) := PSs.weak (pss_cons (ps_asg (pe_disp h hall hlen h0 h15) ht hs hw h1) hr) fun D σ H ⟨G, ρ, o, E, ef, k⟩ => by
  have ef : (if i < ρ.length then onlyRt (g (ρ.set i (.m (.k (ks.map fun k => (.str k, .list [])))))) else none) = some o := ef
  by_cases hi : i < ρ.length
  case neg => rw [if_neg hi] at ef; cases ef
  rw [if_pos hi] at ef
  obtain ⟨d, r, rfl, ef2⟩ := onlyRt_of ef
  intro p hp0
  refine pairs_new ks _ _ fun bs H' hl' nd hb hk => ⟨hk _ _ upd_same, (ks.zip bs).map fun p => (.inr p.1, .ref p.2), by rw [List.map_map]; rfl, by rw [List.length_map, List.length_zip]; omega, ?_⟩
  have kz : ((ks.zip bs).map fun p : Str × Addr => ((.inr p.1, .ref p.2) : Key × V)).map (·.1) = ks.map Sum.inr := by
    rw [List.map_map]
    have : (ks.zip bs).map ((fun x : Key × V => x.1) ∘ fun p : Str × Addr => ((.inr p.1, .ref p.2) : Key × V)) = ((ks.zip bs).map Prod.fst).map Sum.inr := by rw [List.map_map]; rfl
    rw [this, List.map_fst_zip (by omega)]
  have vz : ((ks.zip bs).map fun p : Str × Addr => ((.inr p.1, .ref p.2) : Key × V)).map (·.2) = bs.map V.ref := by
    rw [List.map_map]
    have : (ks.zip bs).map ((fun x : Key × V => x.2) ∘ fun p : Str × Addr => ((.inr p.1, .ref p.2) : Key × V)) = ((ks.zip bs).map Prod.snd).map V.ref := by rw [List.map_map]; rfl
    rw [this, List.map_snd_zip (by omega)]
  rw [merge_new _ _ (by
    rw [kz, List.map_nil, List.nil_append]
    exact hd.map (R := (· ≠ ·)) (S := (· ≠ ·)) Sum.inr (fun a b n z => n (by injection z))), List.nil_append]
  have pb : p ∉ bs := fun q => by
    have := (hb p q).1
    rw [upd_same] at this
    cases this
  have inl : ∀ cs : List Addr, cs.Nodup → (∀ b ∈ cs, b ∈ bs) → InL X.K G (upd H' p (.dK ((ks.zip bs).map fun p => (.inr p.1, .ref p.2)))) (fun b => H b = none ∧ b ≠ p) (cs.map V.ref) (cs.map fun _ => .list []) cs := fun cs => by
    induction cs with
    | nil => exact fun _ _ => .nil
    | cons c cs ih =>
      intro nd2 sub
      obtain ⟨n1, n2⟩ := List.nodup_cons.mp nd2
      have cb := sub c (List.mem_cons_self ..)
      have cp : c ≠ p := fun z => pb (by rw [← z]; exact cb)
      obtain ⟨w1, w2⟩ := hb c cb
      rw [upd_ne cp] at w1
      exact .cons (by rw [upd_ne cp]; exact w2) (E.gn w1) ⟨w1, cp⟩ .nil n1 (ih n2 fun b hb => sub b (List.mem_cons_of_mem _ hb))
  obtain ⟨s1, E1, hu, L⟩ := lots_new (i := i) (P := P) (kvs := (ks.zip bs).map fun p => (.inr p.1, .ref p.2)) (ds := bs.map fun _ => .list []) (bs := bs) (H1 := upd H' p (.dK ((ks.zip bs).map fun p => (.inr p.1, .ref p.2)))) E hi hp hp0 (fun a o q => by
    have ap : a ≠ p := fun z => by rw [z, hp0] at q; cases q
    rw [upd_ne ap]
    exact hk a o (by rw [upd_ne ap]; exact q)) upd_same (by rw [vz]; exact inl bs nd fun _ q => q)
  have ez := zip_new ks bs hl'
  rw [ez] at L
  exact ⟨G, G, H, σ, ρ, G, ρ.set i .un, _, .rt d r, s1, E1, hu, L, by rw [List.set_set]; exact ef2, fun _ _ q => q, k⟩
end
end Tw

set_option Elab.async false
set_option linter.all false
set_option maxRecDepth 100000
set_option maxHeartbeats 2000000
namespace Tw
open PySem PySem.Spec PyProof.Rows L2
open Evl (Ex)
/-! ### t[::c] of a tuple -/
section
variable {prog : Program} {w : World} {A : Around} {E : Value → Shared → Prop} {s : Shared}
theorem step_applied0 {sl : Addr} {v : Tok} {c n : Nat} {Q : Int × Int × Nat → Shared → Prop} (hc : 2 ≤ c) (hs : s.heap.IsSliceOf sl .none .none (.int (c : Int) v)) (h : Q (min ((0 : Nat) : Int) (n : Int), (c : Int), (picks 0 c n).length) s) :
    wpAny (model prog w) A (Builtin.Slice.sliceApplied (.ref sl) (pure (n : Int))) Q E s := by
  obtain ⟨os, hos, hcs, hds⟩ := id hs
  unfold Builtin.Slice.sliceApplied Builtin.Slice.sliceFields
  refine wpAny_bind (wpAny_bind (wpAny_field hos hds (x := .none) rfl (wpAny_bind (wpAny_field hos hds (x := .none) rfl (wpAny_bind (wpAny_field hos hds (x := .int (c : Int) v) rfl (wpAny_pure ?_)))))))
  refine wpAny_bind (slicePart_int ?_)
  have cz : ((c : Int) == 0) = false := beq_eq_false_iff_ne.mpr (by omega)
  show wpAny _ _ (if ((c : Int) == 0) = true then _ else _) _ _ s
  rw [if_neg (by rw [cz]; decide)]
  refine wpAny_bind (slicePart_none (wpAny_bind (slicePart_none (wpAny_bind (wpAny_pure ?_)))))
  have e1 : Builtin.Slice.sliceAdjust none none (c : Int) (n : Int) = (min ((0 : Nat) : Int) (n : Int), (n : Int)) := by
    unfold Builtin.Slice.sliceAdjust
    have h1 : ¬ (c : Int) < 0 := by omega
    have h2 : min ((0 : Nat) : Int) (n : Int) = 0 := by omega
    simp only [if_neg h1, h2]
  show wpAny _ _ (match Builtin.Slice.sliceAdjust none none (c : Int) (n : Int) with | (lo, hi) => pure (lo, (c : Int), Builtin.Slice.slicePlaces lo hi (c : Int))) _ _ s
  rw [e1]
  show wpAny _ _ (pure (min ((0 : Nat) : Int) (n : Int), (c : Int), Builtin.Slice.slicePlaces (min ((0 : Nat) : Int) (n : Int)) (n : Int) (c : Int))) _ _ s
  rw [step_places 0 c n hc]
  exact wpAny_pure h
theorem step_tuple0 {t sl : Addr} {items : Array Value} {v : Tok} {c : Nat} {Q : Value → Shared → Prop} (hc : 2 ≤ c) (ht : IsTup s.heap t items) (hs : s.heap.IsSliceOf sl .none .none (.int (c : Int) v))
    (h : Q (.ref s.heap.objs.size) { s with heap := s.heap.push { cls := .type "tuple", data := .seq ((picks 0 c items.size).filterMap (items[·]?)).toArray } }) (hsz : items.size ≤ sizeLine) : wpAny (model prog w) A (getItem (.ref t) (.ref sl)) Q E s := by
  have ht2 : PySem.sizeOk (.seq ((picks 0 c items.size).filterMap (items[·]?)).toArray) := by
    show ((picks 0 c items.size).filterMap (items[·]?)).toArray.size ≤ sizeLine
    rw [List.size_toArray]
    have h1 := List.length_filterMap_le (items[·]?) (picks 0 c items.size)
    have h2 := picks_len 0 c items.size hc
    omega
  obtain ⟨os, hos, hcs, hds⟩ := id hs
  have hTs : s.TypeIs (.ref sl) "slice" := ⟨os, hos, hcs⟩
  unfold getItem
  try with_reducible refine wpAny_holding ?_
  first | refine wpAny_bind (wpAny_pure ?_) | skip
  refine wpAny_bind (wpAny_sequenceKey ht.typeIs (by decide) ?_)
  refine wpAny_bind (wpAny_callSpecial?_slot (name := Str.ofString "__getitem__") ht.typeIs PyProof.Rows.slot_tuple_getitem (wpAny_call_entry PyProof.Rows.slot_tuple_getitem ht.typeIs entry_tuple_getitem ?_ (args_tuple_getitem _ _)))
  refine wpAny_bind (m := Builtin.Tuple.tupleItemsOf (.ref t)) (tupleItemsOf_ ht ?_)
  refine wpAny_bind (wpAny_typeOf hTs ?_)
  rw [if_pos (by decide)]
  refine wpAny_bind (step_applied0 hc hs ?_)
  have c1 : ((c : Int) == 1) = false := beq_eq_false_iff_ne.mpr (by omega)
  have hno : ¬ ((min ((0 : Nat) : Int) (items.size : Int) == 0 && (c : Int) == 1 && (picks 0 c items.size).length == items.size) = true) := by
    rw [c1, Bool.and_false, Bool.false_and]
    exact Bool.false_ne_true
  show wpAny _ _ (if (min ((0 : Nat) : Int) (items.size : Int) == 0 && (c : Int) == 1 && (picks 0 c items.size).length == items.size) = true then _ else _) _ _ s
  rw [if_neg hno, step_pick items 0 c hc]
  first
    | exact wpAny_bind (m := Builtin.Tuple.tupleExact _) (wpAny_newObj_type (wpAny_pure ⟨_, rfl, wpAny_pure h⟩) ht2)
    | exact wpAny_bind (m := Builtin.Tuple.tupleExact _) (wpAny_newObj_type (wpAny_bind (wpAny_pure (wpAny_pure ⟨_, rfl, wpAny_pure h⟩))) ht2)
    | exact wpAny_bind (wpAny_bind (m := Builtin.Tuple.tupleExact _) (wpAny_newObj_type (wpAny_pure (wpAny_pure ⟨_, rfl, wpAny_pure h⟩)) ht2))
    | exact wpAny_bind (wpAny_bind (m := Builtin.Tuple.tupleExact _) (wpAny_newObj_type (wpAny_pure ⟨_, rfl, wpAny_pure h⟩) ht2))
end
section
variable {X : Cx} {e : Expr} {bb : Bool} {f : FE PyData} {pos : Pos}
def tStep0 (K : PySem.W.Frag) (c : Nat) (te : TE) : TE := fun σ H Q => te σ H fun x H1 => ∃ a, x = .ref a ∧ ∃ xs, SqT K H1 a xs ∧ NewT H1 Q ((picks 0 c xs.length).filterMap (xs[·]?))
theorem pe_step0 {te : TE} {c : Nat} {k2 : Nat} {p2 p3 : Pos} (hc : 2 ≤ c) (he : PE X e te) : PE X (.Subscript e (.Slice none none (some (.Constant (.int (c : Int)) k2 p2)) p3) pos) (tStep0 X.K c te) := ⟨fun pins s σ H Q I h => by
  refine Subscript_ (thn (he.run pins s σ H _ I h) fun v s1 hz => ?_)
  obtain ⟨x, H1, I1, r1, a, ex, xs, hx, q⟩ := hz
  subst ex
  cases r1
  have stc : PO X (some (.Constant (.int (c : Int)) k2 p2)) (tPart (tC (.int (c : Int)))) := po_some pe_int
  refine wpAny_Slice (thn (po_none.run pins s1 σ H1 (fun o H2 => o = none ∧ H2 = H1) I1 ⟨rfl, rfl⟩) fun vl s2 hz => ?_)
  obtain ⟨_, _, I2, pl, rfl, rfl⟩ := hz
  refine thn (po_none.run pins s2 σ _ (fun o H3 => o = none ∧ H3 = _) I2 ⟨rfl, rfl⟩) fun vu s3 hz => ?_
  obtain ⟨_, _, I3, pu, rfl, rfl⟩ := hz
  refine thn (stc.run pins s3 σ _ (fun o H4 => o = some (c : Int) ∧ H4 = _) I3 ⟨(c : Int), rfl, rfl, rfl⟩) fun vs s4 hz => ?_
  obtain ⟨_, _, I4, ps, rfl, rfl⟩ := hz
  have I5 : Inv X pins σ _ { s4 with heap := s4.heap.push { cls := .type "slice", data := .fields #[vl, vu, vs] } } := I4.kept (t' := s4.toks) fun b ob q => Heap.get?_push_of_some _ q
  show wpAny (model X.prog X.w) X.A (subscriptTail e (.Slice none none (some (.Constant (.int (c : Int)) k2 p2)) p3) (.ref a) (.ref s4.heap.objs.size)) (EP X pins σ Q) X.xe { s4 with heap := s4.heap.push { cls := .type "slice", data := .fields #[vl, vu, vs] } }
  obtain ⟨its, r, ht, hz⟩ := I5.tuple hx
  cases pl
  cases pu
  cases ps
  have hl : its.toArray.size = xs.length := by rw [List.size_toArray, ← r.length]
  refine tail_any (ops := [.ref a, .ref s4.heap.objs.size]) ht.typeIs (PyProof.Rows.slot_tuple_getitem.lookup) ?_ (by with_unfolding_all rfl)
  refine step_tuple0 hc ht (Heap.IsSliceOf.new ..) ?_ (by rw [hl]; exact hz)
  have pk : (picks 0 c its.toArray.size).filterMap (its.toArray[·]?) = (picks 0 c xs.length).filterMap (its[·]?) := by
    rw [hl]
    exact fm_congr fun j _ => by simp
  refine newT I5 ?_ ?_ q
  · have h1 := List.length_filterMap_le (xs[·]?) (picks 0 c xs.length)
    have h2 := picks_len 0 c xs.length hc
    omega
  · rw [pk]
    exact vals_picks r _⟩
theorem e_step0 {c : Nat} {k2 : Nat} {p2 p3 : Pos} (hc : 2 ≤ c) (he : PE X e (tE X.K bb f)) : PE X (.Subscript e (.Slice none none (some (.Constant (.int (c : Int)) k2 p2)) p3) pos) (tE X.K bb (fUn (stepD 0 c) f)) :=
  PE.weak (pe_step0 hc he) fun σ H Q ⟨G, ρ, d, ρ', E, ef, k⟩ => by
    obtain ⟨x, ρ1, h1, h2⟩ := thnE_of ef
    obtain ⟨h5, rfl⟩ := liftO_of h2
    refine ⟨G, ρ, x, ρ', E, h1, fun v G1 H1 t1 o1 E1 d1 => ?_⟩
    unfold stepD at h5
    split at h5
    · cases h5
      obtain ⟨a, xs, rfl, hx, dx⟩ := dt_tup d1
      refine ⟨a, rfl, xs, Evl.ex_t E1.ex hx, fun p ob hp ho => ?_⟩
      have t : Tr nobody G1 H1 (upd G1 p (.frz ob (.tup ((picks 0 c xs.length).filterMap (xs[·]?))))) (upd H1 p (.frz ob (.tup ((picks 0 c xs.length).filterMap (xs[·]?))))) := Tr.new hp E1.ex
      refine k _ _ _ (t1.trans t fun _ _ _ q => q.elim) o1 (E1.tr t (ex_upd E1.ex)) (.tt (PTu.new ho) ?_)
      rw [← dx.len]
      exact (da_picks dx _).mono t.g
    · cases h5
end
end Tw

set_option Elab.async false
set_option linter.all false
set_option maxRecDepth 100000
set_option maxHeartbeats 2000000
namespace Tw
open PySem PySem.Spec PyProof.Rows L2
open Evl (Ex)
section
variable {X : Cx} {e elt tg iter : Expr} {ifs : List Expr} {pos : Pos} {bb : Bool}
/-- a comprehension over anything that walks -/
theorem lc_walk {wk : Bool} {n : Nat} {wi : TI} {ft : FG} {tt : FE Bool} {fe : FE PyData} {vs : List Nat} {σ : L2.St} {G H : Hp} {ρ ρ1 ρe : Rho} {ds ys' : List PyData} {Q : VK} (hn : σ.length = n) (hz : sizeOk ds.length = true) (h4 : lcF ft tt fe vs ds (wipeR ρ1 vs) = some (ys', ρe))
    (hw : ∀ R : It → Hp → Prop, (∀ J G1 H1, Tr (ows bb σ ρ) G H G1 H1 → (∀ l, own σ ρ1 l → own σ ρ l) → EnvOk X.K G1 H1 σ ρ1 → WalkD wk X.K G1 J ds → R J H1) → wi σ H R)
    (k : ∀ p xs G' H', H p = none → G' p = none → H' p = some (.lst xs) → Da X.K G' xs ys' → Tr (ows bb σ ρ) G H G' H' → (∀ l, own σ (backR ρ1 ρe vs) l → own σ ρ l) → EnvOk X.K G' H' σ (backR ρ1 ρe vs) → Q (.ref p) H') :
    tLc wi (tGw wk X.K (compl n vs) ft) (tT X.K bb tt) (tE X.K bb fe) vs σ H Q := by
  refine hw _ fun J G1 H1 t1 o1 E1 W D hD => ?_
  have E0 := env_wipe E1 vs
  have hD0 : H D = none := tr_back t1 hD
  have notD : ∀ {a : Addr}, own (wipe σ vs) (wipeR ρ1 vs) a → a ≠ D := fun {a} q z => by
    obtain ⟨xs, w⟩ := own_there E0 q
    rw [z, hD] at w
    cases w
  let Inv' : Nat → Hp → Prop := fun i H' => ∃ G' ρ2 acc accd rest, EnvOk X.K G' H' (wipe σ vs) ρ2 ∧ Tr (fun a => ows bb (wipe σ vs) (wipeR ρ1 vs) a ∨ a = D) G1 (upd H1 D (.lst [])) G' H' ∧ G' D = none ∧ H' D = some (.lst acc) ∧ Da X.K G' acc accd ∧
    (∀ l, own (wipe σ vs) ρ2 l → own (wipe σ vs) (wipeR ρ1 vs) l) ∧ lcF ft tt fe vs (ds.drop i) ρ2 = some (rest, ρe) ∧ accd ++ rest = ys' ∧ acc.length ≤ i
  have start0 : Inv' 0 (upd H1 D (.lst [])) := ⟨G1, wipeR ρ1 vs, [], [], ys', E0.tr (tr_mk0 hD) (ex_new E1.ex hD), .refl, E1.gn hD, upd_same, .nil, fun _ q => q, h4, rfl, Nat.zero_le _⟩
  refine ⟨fun i m H' => m = ds.length - i ∧ i ≤ ds.length ∧ Inv' i H', ⟨ds.length, by omega, Nat.zero_le _, start0⟩, ?_⟩
  rintro i m H' ⟨rfl, hi, G', ρ2, acc, accd, rest, E', t', gD, hDl, da, oo, hf, ea, hlen⟩
  have exG : Ex G1 H' := fun a u z => E'.ex a u (t'.g a u z)
  by_cases hlt : i < ds.length
  · have ed : ds.drop i = ds[i] :: ds.drop (i + 1) := List.drop_eq_getElem_cons hlt
    rw [ed] at hf
    obtain ⟨ρ3, q1, q2⟩ := Option.bind_eq_some_iff.mp hf
    obtain ⟨⟨b, ρ4⟩, q3, q4⟩ := Option.bind_eq_some_iff.mp q2
    refine .inr ⟨W.go i H' hlt exG, Inv' (i + 1), fun H2 z => ⟨ds.length - (i + 1), by omega, rfl, hlt, z⟩, fun x H2 y => ?_⟩
    obtain ⟨G3, t3, e3, d3⟩ := W.yld i H' x H2 ds[i] (List.getElem?_eq_getElem hlt) exG y G' t'.g E'.ex
    have E3 := E'.tr t3 e3
    refine ⟨G3, ρ2, ds[i], ρ3, E3, d3, q1, fun σ2 so E4 => ?_⟩
    have hl2 : σ2.length = n := by rw [so.l, wipe_length, hn]
    refine ⟨wipe_eq hn hl2 so.p, G3, ρ3, b, ρ4, E4, q3, fun G5 H5 t5 o5 E5 => ?_⟩
    have D2 : H2 D = some (.lst acc) := t3.h D _ hDl id
    have g3D : G3 D = none := t3.n D _ hDl gD id
    have own3 : ∀ {a : Addr}, own σ2 ρ3 a → own (wipe σ vs) (wipeR ρ1 vs) a := fun q => oo _ (so.o _ q)
    have nD3 : ¬ ows bb σ2 ρ3 D := fun q => notD (own3 q.2) rfl
    have D5 : H5 D = some (.lst acc) := t5.h D _ D2 nD3
    have g5D : G5 D = none := t5.n D _ D2 g3D nD3
    have T5 : Tr (fun a => ows bb (wipe σ vs) (wipeR ρ1 vs) a ∨ a = D) G1 (upd H1 D (.lst [])) G5 H5 := (t'.trans t3 fun _ _ _ q => q.elim).trans t5 fun a _ _ q => .inl ⟨q.1, own3 q.2⟩
    have toW : ∀ {ρx : Rho} {a : Addr}, (∀ l, own σ2 ρx l → own σ2 ρ4 l) → own (wipe σ vs) (wipeR ρx vs) a → own (wipe σ vs) (wipeR ρ1 vs) a := fun {ρx a} hx q => by
      rw [← wipe_eq hn hl2 so.p] at q
      exact own3 (o5 _ (hx _ (own_wipe q)))
    cases b with
    | false =>
      dsimp only
      rw [if_neg Bool.false_ne_true]
      refine ⟨G5, wipeR ρ4 vs, acc, accd, rest, ?_, T5, g5D, D5, da.mono fun a u z => t5.g a u (t3.g a u z), fun l q => toW (fun _ z => z) q, q4, ea, Nat.le_succ_of_le hlen⟩
      rw [← wipe_eq hn hl2 so.p]
      exact env_wipe E5 vs
    | true =>
      dsimp only
      rw [if_pos rfl]
      obtain ⟨⟨y0, ρ5⟩, q5, q6⟩ := Option.bind_eq_some_iff.mp (show ((fe ρ4).bind fun q => _) = some (rest, ρe) from q4)
      obtain ⟨⟨r0, ρ6⟩, q7, q8⟩ := Option.map_eq_some_iff.mp q6
      cases q8
      refine ⟨G5, ρ4, y0, ρ5, E5, q5, fun v G6 H6 t6 o6 E6 d6 => ?_⟩
      have nD4 : ¬ ows bb σ2 ρ4 D := fun q => notD (own3 (o5 _ q.2)) rfl
      have D6 : H6 D = some (.lst acc) := t6.h D _ D5 nD4
      have g6D : G6 D = none := t6.n D _ D5 g5D nD4
      refine ⟨acc, D6, Nat.lt_of_le_of_lt hlen (Nat.lt_of_lt_of_le hlt (sizeOk_le hz)), ?_⟩
      have E7 : EnvOk X.K G6 (upd H6 D (.lst (acc ++ [v]))) σ2 ρ5 := {
        ex := ex_cell E6.ex g6D
        len := E6.len
        dat := E6.dat
        mu := fun j d q => by
          obtain ⟨l, xs, w1, w2, w3, w4⟩ := E6.mu j d q
          have nl : l ≠ D := notD (own3 (o5 _ (o6 _ ⟨j, d, q, w1⟩)))
          exact ⟨l, xs, w1, w2, by rw [upd_ne nl]; exact w3, w4⟩
        ne := E6.ne }
      refine ⟨G6, wipeR ρ5 vs, acc ++ [v], accd ++ [y0], r0, ?_, ?_, g6D, upd_same, (da.mono fun a u z => t6.g a u (t5.g a u (t3.g a u z))).app (Da.one d6), fun l q => toW (fun _ z => o6 _ z) q, q7, by rw [List.append_assoc]; exact ea, by rw [List.length_append]; exact Nat.succ_le_succ hlen⟩
      · rw [← wipe_eq hn hl2 so.p]
        exact env_wipe E7 vs
      · have T6 : Tr (fun a => ows bb (wipe σ vs) (wipeR ρ1 vs) a ∨ a = D) G1 (upd H1 D (.lst [])) G6 H6 := T5.trans t6 fun a _ _ q => .inl ⟨q.1, own3 (o5 _ q.2)⟩
        exact T6.trans (tr_cell g6D D6) fun a _ _ q => .inr q
  · have en : i = ds.length := by omega
    subst en
    rw [List.drop_length] at hf
    cases hf
    rw [List.append_nil] at ea
    subst ea
    refine .inl ⟨W.stop H' exG, k D acc G' H' hD0 gD hDl da ?_ (fun l q => o1 l (own_wipe (oo l (own_back q)))) (env_back E1 E' t'.g)⟩
    have tA : Tr (ows bb (wipe σ vs) (wipeR ρ1 vs)) G1 H1 G' H' := (tr_mk0 hD).trans t' fun x o q w => w.elim id fun z => by rw [z, hD] at q; cases q
    exact t1.trans tA fun x o q w => ⟨w.1, o1 _ (own_wipe w.2)⟩
end
end Tw

set_option Elab.async false
set_option linter.all false
set_option maxRecDepth 100000
set_option maxHeartbeats 2000000
namespace Tw
open PySem PySem.Spec PyProof.Rows L2
open Evl (Ex)
/-! ### return tuple([.. for y in d.values()]), d a dict of lists of one's own -/
def unD (G : Hp) (D : Addr) (kvs : List (Key × V)) : Hp := upd G D (.dK kvs)
theorem unD_ne {G : Hp} {D a : Addr} {kvs : List (Key × V)} (h : a ≠ D) : unD G D kvs a = G a := upd_ne h
theorem unD_same {G : Hp} {D : Addr} {kvs : List (Key × V)} : unD G D kvs D = some (.dK kvs) := upd_same
section
variable {K : PySem.W.Frag} {G : Hp} {D : Addr} {od : Obj} {kvs : List (Key × V)}
mutual
theorem Dt.unD (hD : G D = some (.frz od (.dK kvs))) : ∀ {v : V} {d : PyData}, Dt K G v d → Dt K (Tw.unD G D kvs) v d
  | _, _, .nn => .nn
  | _, _, .bb b => .bb b
  | _, _, .ii i => .ii i
  | _, _, .ss x => .ss x
  | _, _, .ll h t => .ll (by
      rcases h with (h | ⟨o, h⟩) | h
      · exact .inl (.inl (by rw [unD_ne fun z => by rw [z, hD] at h; cases h]; exact h))
      · exact .inl (.inr ⟨o, by rw [unD_ne fun z => by rw [z, hD] at h; cases h]; exact h⟩)
      · exact .inr h) (Da.unD hD t)
  | _, _, .tt h t => .tt (by
      rcases h with ⟨o, h1, h⟩ | h
      · exact .inl ⟨o, h1, by rw [unD_ne fun z => by rw [z, hD] at h; cases h]; exact h⟩
      · exact .inr h) (Da.unD hD t)
  | _, _, .dd (a := a) h t => .dd (by
      by_cases c : a = D
      · subst c
        rcases h with h | ⟨o, h⟩
        · rw [hD] at h; cases h
        · rw [hD] at h; cases h; exact .inl unD_same
      · rcases h with h | ⟨o, h⟩
        · exact .inl (by rw [unD_ne c]; exact h)
        · exact .inr ⟨o, by rw [unD_ne c]; exact h⟩) (Da.unD hD t)
theorem Da.unD (hD : G D = some (.frz od (.dK kvs))) : ∀ {vs : List V} {ds : List PyData}, Da K G vs ds → Da K (Tw.unD G D kvs) vs ds
  | _, _, .nil => .nil
  | _, _, .cons h t => .cons (Dt.unD hD h) (Da.unD hD t)
end
theorem vals_walk {ds : List PyData} (hD : G D = some (.frz od (.dK kvs))) (da : Da K G (kvs.map (·.2)) ds) : WalkD false K G (Itd D od kvs) ds where
  go := fun i H hi ex => ⟨ex _ _ hD, by have := da.len; rw [List.length_map] at this; omega⟩
  stop := fun H ex => ⟨ex _ _ hD, by have := da.len; rw [List.length_map] at this; omega⟩
  yld := fun i H x H' d hd ex y G2 e1 e2 => by
    obtain ⟨rfl, k, hk⟩ := y
    obtain ⟨v, hv, dv⟩ := da.get hd
    rw [List.getElem?_map, hk] at hv
    cases hv
    exact ⟨G2, .refl, e2, dv.mono e1⟩
end
def fRetV (i : Nat) (ft : FG) (tt : FE Bool) (fe : FE PyData) (vs : List Nat) : FS := fun ρ => lq0 ρ[i]? fun es => if sizeOk es.length = true then (lcF ft tt fe vs (es.map (·.2)) (wipeR (ρ.set i .un) vs)).map fun q => .rt (.tuple q.1) (backR (ρ.set i .un) q.2 vs) else none
section
variable {X : Cx} {elt tg o : Expr} {ifs : List Expr} {P : List Nat} {i n : Nat} {ft : FG} {tt : FE Bool} {fe : FE PyData} {vs : List Nat}
theorem zip_snd {kvs : List (Key × V)} {ds : List PyData} (h : kvs.length = ds.length) : (zipE kvs ds).map (·.2) = ds := by
  unfold zipE
  exact List.map_snd_zip (by rw [List.length_map]; omega)
theorem q_retV {wi : Expr} {st : Stmt} (h : PS X st (tLock (tRet fun σ H Q => tCons (tLc (iVals (tVar i)) (tGw false X.K (compl n vs) ft) (tT X.K true tt) (tE X.K true fe) vs) tNil σ H fun xs H1 => rTupP X.K xs H1 Q))) (hn : X.N.length = n) : PS X st (tQ X.K P i (fRetV i ft tt fe vs)) := PS.weakI h fun pins s0 D σ H I ⟨Gm, G0, H0, σ0, ρ0, G, ρ, es, o, s, E, hu, L, ef, em, k⟩ => by
  have hs : σ.length = n := I.len.trans hn
  unfold fRetV at ef
  rw [q_at hu] at ef
  have ef : (if sizeOk es.length = true then (lcF ft tt fe vs (es.map (·.2)) (wipeR ((ρ.set i (.m (.k es))).set i .un) vs)).map fun q => Out.rt (.tuple q.1) (backR ((ρ.set i (.m (.k es))).set i .un) q.2 vs) else none) = some o := ef
  rw [set_un hu] at ef
  by_cases hz : sizeOk es.length = true
  case neg => rw [if_neg hz] at ef; cases ef
  rw [if_pos hz] at ef
  obtain ⟨⟨ys, ρe⟩, h4, rfl⟩ := Option.map_eq_some_iff.mp ef
  obtain ⟨D', kvs, ds, bs, h1, h2, h3, h5, h6, rfl, h7⟩ := L
  have hl : kvs.length = ds.length := by have := h7.len; rwa [List.length_map] at this
  rw [zip_snd hl] at h4
  have hz' : sizeOk ds.length = true := by
    have : (zipE kvs ds).length = ds.length := by
      unfold zipE
      rw [List.length_zip, List.length_map]
      omega
    rw [this] at hz
    exact hz
  refine ⟨D', .dK kvs, h2, trivial, fun od => ?_⟩
  let GG : Hp := fun a => if a = D' then some (.frz od (.dK kvs)) else if a ∈ bs then H a else G a
  let HL : Hp := upd H D' (.frz od (.dK kvs))
  have gD : GG D' = some (.frz od (.dK kvs)) := if_pos rfl
  have gb : ∀ a ∈ bs, GG a = H a ∧ a ≠ D' := fun a q => by
    have ne := (h7.free a q).1.2.2
    exact ⟨by show (if a = D' then _ else _) = _; rw [if_neg ne, if_pos q], ne⟩
  have go : ∀ a, a ≠ D' → a ∉ bs → GG a = G a := fun a n1 n2 => by
    show (if a = D' then _ else _) = _
    rw [if_neg n1, if_neg n2]
  have eG : Ex G GG := fun a u q => by
    have n1 : a ≠ D' := fun z => by rw [z, h3] at q; cases q
    have n2 : a ∉ bs := fun z => by rw [(h7.free a z).2.1] at q; cases q
    rw [go a n1 n2]
    exact q
  have eH : Ex GG HL := fun a u q => by
    by_cases c : a = D'
    · rw [c, gD] at q
      rw [c]
      show upd H D' _ D' = _
      rw [upd_same]
      exact q
    · show upd H D' _ a = _
      rw [upd_ne c]
      by_cases cb : a ∈ bs
      · rw [(gb a cb).1] at q
        exact q
      · rw [go a c cb] at q
        exact E.ex a u q
  have fr : ∀ l xs, own σ ρ l → H l = some xs → G l = none → GG l = none ∧ HL l = some xs := fun l xs w hx gx => by
    have n1 : l ≠ D' := fun z => h6 (by rw [← z]; exact w)
    have n2 : l ∉ bs := fun z => (h7.free l z).1.2.1 w
    exact ⟨by rw [go l n1 n2]; exact gx, by show upd H D' _ l = _; rw [upd_ne n1]; exact hx⟩
  have EL : EnvOk X.K GG HL σ ρ := {
    ex := eH
    len := E.len
    dat := fun j d q => by
      obtain ⟨v, w1, w2⟩ := E.dat j d q
      exact ⟨v, w1, w2.mono eG⟩
    mu := fun j d q => by
      obtain ⟨l, xs, w1, w2, w3, w4⟩ := E.mu j d q
      obtain ⟨f1, f2⟩ := fr l xs ⟨j, d, q, w1⟩ w3 w2
      exact ⟨l, xs, w1, f1, f2, w4.mono eG⟩
    ne := E.ne }
  have da : Da X.K GG (kvs.map (·.2)) ds := inl_da eG h7 fun b hb => (gb b hb).1
  show tLc (iVals (tVar i)) (tGw false X.K (compl n vs) ft) (tT X.K true tt) (tE X.K true fe) vs σ HL (fun x H1 => rTupP X.K [x] H1 fun v H' => H' D' = some (.frz od (.dK kvs)) ∧ D.rt v (upd H' D' (.dK kvs)))
  refine lc_walk (wk := false) (ρ := ρ) (ρ1 := ρ) (G := GG) hs hz' h4 (fun R hR => ?_) fun p xs G' H' hp gp hx dx t oo E' => ?_
  · refine ⟨.ref D', h1, D', od, kvs, rfl, upd_same, ?_⟩
    exact hR _ GG HL .refl (fun _ q => q) EL (vals_walk gD da)
  · refine ⟨p, xs, rfl, .inl ⟨.inl (Rd.of hx), fun T ob hT hob => ?_⟩⟩
    have nD : ¬ ows true σ ρ D' := fun q => h6 q.2
    have D2 : H' D' = some (.frz od (.dK kvs)) := t.h D' _ upd_same nD
    have G2 : G' D' = some (.frz od (.dK kvs)) := t.g D' _ gD
    have TD : D' ≠ T := fun z => by rw [z, hT] at D2; cases D2
    have t2 : Tr nobody G' H' (upd G' T (.frz ob (.tup xs))) (upd H' T (.frz ob (.tup xs))) := Tr.new hT E'.ex
    have E3 := E'.tr t2 (ex_upd E'.ex)
    have D3 : upd H' T (.frz ob (.tup xs)) D' = some (.frz od (.dK kvs)) := by rw [upd_ne TD]; exact D2
    have G3 : upd G' T (.frz ob (.tup xs)) D' = some (.frz od (.dK kvs)) := by rw [upd_ne TD]; exact G2
    have dv : Dt X.K (upd G' T (.frz ob (.tup xs))) (.ref T) (.tuple ys) := .tt (PTu.new hob) (dx.mono t2.g)
    refine ⟨D3, ?_⟩
    refine k (.ref T) σ (unD (upd G' T (.frz ob (.tup xs))) D' kvs) _ ?_ ?_ (dv.unD G3)
    · have nT : ¬ own σ ρ T := fun q => by
        obtain ⟨ys', w⟩ := own_there EL q
        obtain ⟨u', w'⟩ := t.k T _ w
        rw [hT] at w'
        cases w'
      exact {
        t := {
          g := fun a u q => by
            have q1 := s.t.g a u q
            have n1 : a ≠ D' := fun z => by rw [z, h3] at q1; cases q1
            rw [unD_ne n1]
            exact t2.g a u (t.g a u (eG a u q1))
          h := fun a u q nw => by
            have n1 : a ≠ D' := fun z => by rw [z, h5] at q; cases q
            rw [upd_ne n1]
            have q1 := s.t.h a u q nw
            have q2 : HL a = some u := by show upd H D' _ a = _; rw [upd_ne n1]; exact q1
            have no : ¬ own σ ρ a := fun w => by
              rcases s.o a w with w | w
              · exact nw w
              · rw [q] at w
                cases w
            exact t2.h a u (t.h a u q2 fun w => no w.2) id
          n := fun a u q qg nw => by
            have n1 : a ≠ D' := fun z => by rw [z, h5] at q; cases q
            have nb : a ∉ bs := fun z => by rw [(h7.free a z).1.1] at q; cases q
            have q1 := s.t.h a u q nw
            have q2 : HL a = some u := by show upd H D' _ a = _; rw [upd_ne n1]; exact q1
            have no : ¬ own σ ρ a := fun w => by
              rcases s.o a w with w | w
              · exact nw w
              · rw [q] at w
                cases w
            have g1 : GG a = none := by rw [go a n1 nb]; exact s.t.n a u q qg nw
            have q3 := t.h a u q2 fun w => no w.2
            rw [unD_ne n1]
            exact t2.n a u q3 (t.n a u q2 g1 fun w => no w.2) id
          k := fun a u q => by
            have n1 : a ≠ D' := fun z => by rw [z, h5] at q; cases q
            obtain ⟨u1, q1⟩ := s.t.k a u q
            have q2 : HL a = some u1 := by show upd H D' _ a = _; rw [upd_ne n1]; exact q1
            obtain ⟨u2, q3⟩ := t.k a u1 q2
            obtain ⟨u3, q4⟩ := t2.k a u2 q3
            exact ⟨u3, by rw [upd_ne n1]; exact q4⟩ }
        o := fun l q => s.o l (oo l q)
        p := s.p }
    · exact {
        ex := fun a u q => by
          by_cases c : a = D'
          · rw [c, unD_same] at q
            rw [c, upd_same]
            exact q
          · rw [unD_ne c] at q
            rw [upd_ne c]
            exact E3.ex a u q
        len := E3.len
        dat := fun j d q => by
          obtain ⟨v, w1, w2⟩ := E3.dat j d q
          exact ⟨v, w1, w2.unD G3⟩
        mu := fun j d q => by
          obtain ⟨l, xs', w1, w2, w3, w4⟩ := E3.mu j d q
          have n1 : l ≠ D' := fun z => by rw [z, G3] at w2; cases w2
          refine ⟨l, xs', w1, by rw [unD_ne n1]; exact w2, by rw [upd_ne n1]; exact w3, ?_⟩
          cases w4 with
          | l h => exact .l (h.unD G3)
          | k h => exact .k (h.unD G3)
        ne := E3.ne }
theorem q_vals {scope : Scope} {own : List (Str × Nat)} {x : Str} {p apos cpos lpos pos rpos : Pos} (hc : X.calm = true) (hN : X.N.Nodup) (ho : PE X o (tVar i)) (ok : BlkOk X.N X.env.scope scope own)
    (hg : ∀ (s : Shared) (H : Hp) (C : Addr) (cl : List (Str × Addr)) (fp : List Addr), PG (X.blk s H scope (compEnvC scope cl C X.env) fp) tg (tGw false X.K (compl n (own.map (·.2))) ft))
    (ht : ∀ (s : Shared) (H : Hp) (C : Addr) (cl : List (Str × Addr)) (fp : List Addr), PTs (X.blk s H scope (compEnvC scope cl C X.env) fp) ifs (tT X.K true tt))
    (he : ∀ (s : Shared) (H : Hp) (C : Addr) (cl : List (Str × Addr)) (fp : List Addr), PE (X.blk s H scope (compEnvC scope cl C X.env) fp) elt (tE X.K true fe))
    (hgx : Gl X x) (hm : X.mg x = none) (hv : bootBuiltins x = some (.type "tuple")) (hn : X.N.length = n := by rfl) (hnm : x ≠ "__name__" := by decide) (hdb : (x == ("__debug__" : Str)) = false := by decide)
    (hb : attributeBase o "values" X.env (eval o X.env) = eval o X.env := by rfl) (hl : (apos.endLine == cpos.line) = true := by rfl)
    (hs : ∀ y, foldedSetIterable (.Call (.Attribute o "values" apos) [] [] cpos) X.env y = pure y := by intro _; rfl)
    (h1 : starEach [.ListComp elt [⟨tg, .Call (.Attribute o "values" apos) [] [] cpos, ifs, 0⟩] scope lpos] X.env = (false, eval (.ListComp elt [⟨tg, .Call (.Attribute o "values" apos) [] [] cpos, ifs, 0⟩] scope lpos) X.env) :: starEach [] X.env := by rfl) (h2 : (backTo pos (starEach [] X.env)).any (·.1) = false := by rfl) :
    PS X (.Return (some (.Call (.Name x p) [.ListComp elt [⟨tg, .Call (.Attribute o "values" apos) [] [] cpos, ifs, 0⟩] scope lpos] [] pos)) rpos) (tQ X.K P i (fRetV i ft tt fe (own.map (·.2)))) :=
  q_retV (wi := o) (ps_lock (ps_ret (pe_callTy call_tupleP hgx hm hv (pa_cons (pe_lc hc hN (pi_values ho hb hl) ok hg ht he hs) pa_nil h1) hnm hdb h1 h2))) hn
end
end Tw

set_option Elab.async false
set_option linter.all false
set_option maxRecDepth 100000
set_option maxHeartbeats 4000000
namespace Tw
open PySem PySem.Spec PyProof.Rows L2
open Evl (Ex)
/-! ### len(set(xs)), xs a list of whole numbers -/
theorem usort_many {ks ns : List Int} (nd : ks.Nodup) (h : ∀ k, k ∈ ks ↔ k ∈ ns) : ks.length = (usort ns).length := by
  have p := List.mergeSort_perm ks fun a b => decide (a ≤ b)
  have s : (ks.mergeSort fun a b => decide (a ≤ b)).Pairwise (· ≤ ·) := (List.pairwise_mergeSort (le := fun a b : Int => decide (a ≤ b)) (fun a b c h1 h2 => decide_eq_true (Int.le_trans (of_decide_eq_true h1) (of_decide_eq_true h2))) (fun a b => by rcases Int.le_total a b with q | q <;> simp [q]) ks).imp fun h => of_decide_eq_true h
  have n : (ks.mergeSort fun a b => decide (a ≤ b)).Nodup := p.nodup_iff.mpr nd
  have up : (ks.mergeSort fun a b => decide (a ≤ b)).Pairwise (· < ·) := (s.and n).imp fun ⟨a, b⟩ => by omega
  have e := up_one up (usort_up ns) fun x => by rw [p.mem_iff, h, mem_usort]
  rw [← e, p.length_eq]
section
variable {X : Cx} {a : Expr} {ta : TE} {bb : Bool} {fa : FE PyData}
def tLenSet (K : PySem.W.Frag) (ta : TE) : TE := fun σ H Q => ta σ H fun x H1 => ∃ (l : Addr) (ns : List Int), x = .ref l ∧ SqL K H1 l (ns.map V.int) ∧ ns.length ≤ 4000 ∧ Q (.int ((usort ns).length : Nat)) H1
theorem pe_lenSet {p p2 q pos : Pos} (hc : X.calm = true) (hg : Gl X "len") (hm : X.mg "len" = none) (hg2 : Gl X "set") (hm2 : X.mg "set" = none) (ha : PE X a ta)
    (na : starEach [a] X.env = (false, eval a X.env) :: starEach [] X.env := by rfl) : PE X (.Call (.Name "len" p) [.Call (.Name "set" p2) [a] [] q] [] pos) (tLenSet X.K ta) := ⟨fun pins s σ H Q I h => by
  refine Call_ (ld_blt I hg hm boot_len (PyProof.Rows.callWith_builtin1 (PyProof.Rows.args_cons ?_ rfl) rfl rfl))
  refine Call_ (ld_blt I hg2 hm2 boot_set (PyProof.Rows.callWith_type1 (PyProof.Rows.args_cons (thn (ha.run pins s σ H _ I h) fun v s1 hz => PyProof.Rows.args_nil ?_) na) na rfl))
  obtain ⟨x, H1, I1, r1, l, ns, rfl, hq, hl, k⟩ := hz
  cases r1
  obtain ⟨its, r, pl, _⟩ := I1.list hq
  refine set_of_list ns (I1.ok.hd hc) pl.isList (by simpa using RZ.intsAre_vals r) (by unfold scanBound; omega) fun h' tk c R hc' keep => ?_
  refine PyProof.Rows.args_nil ?_
  have I2 : Inv X pins σ H1 { s1 with heap := h', toks := tk } := I1.kept keep
  obtain ⟨o, es, ep, t, o1, ex, o2, good, nd, mem, few, fits, sz, ris, led⟩ := R
  refine call_len_set o1 ex o2 fits (by have : es.size < 2 ^ 24 := Nat.lt_of_lt_of_le few (by decide); omega) ?_
  have en : es.size = (usort ns).length := by
    rw [← usort_many nd fun k => by rw [← mem k, decide_eq_true_eq], List.length_map, Array.length_toList]
  exact ⟨.int ((usort ns).length : Nat), H1, I2.tok _, ⟨tk + 1, by rw [en]⟩, k⟩⟩
def lsD : PyData → Option PyData
  | .list ds => (numsOf ds).bind fun ns => if ns.length ≤ 4000 then some (.int ((usort ns).length : Nat)) else none
  | _ => none
theorem e_lenSet {p p2 q pos : Pos} (hc : X.calm = true) (hg : Gl X "len") (hm : X.mg "len" = none) (hg2 : Gl X "set") (hm2 : X.mg "set" = none) (ha : PE X a (tE X.K bb fa))
    (na : starEach [a] X.env = (false, eval a X.env) :: starEach [] X.env := by rfl) : PE X (.Call (.Name "len" p) [.Call (.Name "set" p2) [a] [] q] [] pos) (tE X.K bb (fUn lsD fa)) :=
  PE.weak (pe_lenSet hc hg hm hg2 hm2 ha na) fun σ H Q ⟨G, ρ, d, ρ', E, ef, k⟩ => by
    obtain ⟨x, ρ1, h1, h2⟩ := thnE_of ef
    obtain ⟨h3, rfl⟩ := liftO_of h2
    unfold lsD at h3
    split at h3
    case h_2 => cases h3
    rename_i ds
    obtain ⟨ns, h5, h6⟩ := Option.bind_eq_some_iff.mp h3
    obtain ⟨h7, rfl⟩ := ite_p h6
    refine ⟨G, ρ, _, ρ', E, h1, fun v G1 H1 t1 o1 E1 d1 => ?_⟩
    obtain ⟨b, xs, rfl, hx, dx⟩ := dt_list d1
    have ex := nums_da dx h5
    subst ex
    exact ⟨b, ns, rfl, (hx.mono E1.ex).sq, h7, k _ G1 H1 t1 o1 E1 (.ii _)⟩
end
end Tw

set_option Elab.async false
set_option linter.all false
set_option maxRecDepth 100000
set_option maxHeartbeats 2000000
namespace Tw
open PySem PySem.Spec PyProof.Rows L2
/-! ### whole numbers as truths: 1 if xs[i] else 2 -/
def truD : PyData → Option Bool
  | .none => some false
  | .bool b => some b
  | .int i => some (i != 0)
  | _ => none
def fTru (f : FE PyData) : FE Bool := thnE f fun d => liftO (truD d)
theorem t_tru {X : Cx} {e : Expr} {bb : Bool} {f : FE PyData} (h : PE X e (tE X.K bb f)) (he : ∀ whole, isTrue e X.env whole = (do let v ← whole; standAt e.pos; holding [v] (truthy v)) := by intro _; rfl) : PT X e (tT X.K bb (fTru f)) :=
  PT.weak (pt_truth h he) fun σ H Q ⟨G, ρ, d, ρ', E, ef, k⟩ => by
    obtain ⟨x, ρ1, h1, h2⟩ := thnE_of ef
    obtain ⟨h3, rfl⟩ := liftO_of h2
    refine ⟨G, ρ, x, ρ', E, h1, fun v G1 H1 t1 o1 E1 d1 => ⟨d, ?_, k G1 H1 t1 o1 E1⟩⟩
    cases d1 <;> cases h3 <;> rfl
end Tw

set_option Elab.async false
set_option linter.all false
set_option maxRecDepth 100000
set_option maxHeartbeats 2000000
namespace Tw
open PySem PySem.Spec PyProof.Rows L2
open Evl (Ex)
section
variable {X : Cx} {e elt tg iter tg1 iter1 : Expr} {ifs ifs1 : List Expr} {pos : Pos} {bb : Bool} {P : List Nat}
variable {scope : Scope} {own : List (Str × Nat)} {vs1 : List Nat} {fi fi1 : FE (List PyData)} {ft ft1 : FG} {tt tt1 : FE Bool} {fe : FE PyData}
/-- y = [.. for .. in .. for .. in ..], stored straight -/
theorem s_setLc2 {wk wk1 : Bool} {i : Nat} {y : Str} {py spos : Pos} (n : Nat) (hp : i ∉ P) (hc : X.calm = true) (hN : X.N.Nodup) (hy : X.N[i]? = some y) (hyl : X.env.scope.names.lookup y = some .local)
    (hsw : swapsWith (.ListComp elt [⟨tg, iter, ifs, 0⟩, ⟨tg1, iter1, ifs1, 0⟩] scope pos) (some (.Name y py)) spos.line X.env = pure true) (hi : PI X tg iter (tIw wk X.K bb fi)) (ok : BlkOk X.N X.env.scope scope own) (hv : ∀ i ∈ vs1, i ∈ own.map (·.2))
    (hg : ∀ (s : Shared) (H : Hp) (C : Addr) (cl : List (Str × Addr)) (fp : List Addr), PG (X.blk s H scope (compEnvC scope cl C X.env) fp) tg (tGw wk X.K (compl n (own.map (·.2))) ft))
    (ht : ∀ (s : Shared) (H : Hp) (C : Addr) (cl : List (Str × Addr)) (fp : List Addr), PTs (X.blk s H scope (compEnvC scope cl C X.env) fp) ifs (tT X.K bb tt))
    (hi1 : ∀ (s : Shared) (H : Hp) (C : Addr) (cl : List (Str × Addr)) (fp : List Addr), PI (X.blk s H scope (compEnvC scope cl C X.env) fp) tg1 iter1 (tIw wk1 X.K bb fi1))
    (hg1 : ∀ (s : Shared) (H : Hp) (C : Addr) (cl : List (Str × Addr)) (fp : List Addr), PG (X.blk s H scope (compEnvC scope cl C X.env) fp) tg1 (tGw wk1 X.K (compl n vs1) ft1))
    (ht1 : ∀ (s : Shared) (H : Hp) (C : Addr) (cl : List (Str × Addr)) (fp : List Addr), PTs (X.blk s H scope (compEnvC scope cl C X.env) fp) ifs1 (tT X.K bb tt1))
    (he : ∀ (s : Shared) (H : Hp) (C : Addr) (cl : List (Str × Addr)) (fp : List Addr), PE (X.blk s H scope (compEnvC scope cl C X.env) fp) elt (tE X.K bb fe)) (hn : X.N.length = n := by rfl)
    (hs : ∀ x, foldedSetIterable iter X.env x = pure x := by intro _; rfl) (hs1 : ∀ env x, foldedSetIterable iter1 env x = pure x := by intro _ _; rfl) :
    PS X (.Assign [.Name y py] (.ListComp elt [⟨tg, iter, ifs, 0⟩, ⟨tg1, iter1, ifs1, 0⟩] scope pos) spos) (tS X.K P (fAsg (fOf (fL2 fi ft tt fi1 ft1 tt1 fe (own.map (·.2)) vs1)) (gNm i))) :=
  PS.weakI (ps_setLc2 hc hN hy hyl hsw hi ok hv hg ht hi1 hg1 ht1 he hs hs1) fun pins s D σ H I h => by
    obtain ⟨G, ρ, o, E, ef, k⟩ := h
    refine l2_run hv (I.len.trans hn) (f_to ?_)
    obtain ⟨⟨d, ρ1⟩, h1, h2⟩ := Option.bind_eq_some_iff.mp ef
    obtain ⟨ρ2, h3, rfl⟩ := Option.map_eq_some_iff.mp h2
    obtain ⟨hlt, rfl⟩ := ite_p h3
    refine ⟨G, ρ, d, ρ1, E, h1, fun v G1 H1 t1 o1 E1 d1 => ?_⟩
    exact k _ G1 H1 ((Stp.of t1 o1).trans ⟨.refl, fun l q => .inl (own_set q), fun j hj => List.getElem?_set_ne fun z => hp (by rw [z]; exact hj)⟩) (E1.set hlt d1)
end
end Tw

set_option Elab.async false
set_option linter.all false
set_option maxRecDepth 100000
set_option maxHeartbeats 4000000
namespace Tw
open PySem
/-! ### a table laid anew: its probing comes to every place -/
def lcg (M i : Nat) : Nat := (i * 5 + 1) % M
def lcgN (M : Nat) : Nat → Nat → Nat
  | 0, i => i
  | n + 1, i => lcgN M n (lcg M i)
def orb (M : Nat) : Nat → Nat → List Nat
  | 0, _ => []
  | n + 1, i => i :: orb M n (lcg M i)
theorem mem_orb {M x : Nat} : ∀ {n i : Nat}, x ∈ orb M n i → ∃ k, k < n ∧ lcgN M k i = x
  | 0, _, h => nomatch h
  | n + 1, i, h => by
    rcases List.mem_cons.mp h with rfl | h
    · exact ⟨0, Nat.succ_pos _, rfl⟩
    · obtain ⟨k, hk, e⟩ := mem_orb h
      exact ⟨k + 1, by omega, e⟩
theorem lcgN_add (M : Nat) : ∀ (a b i : Nat), lcgN M (a + b) i = lcgN M b (lcgN M a i)
  | 0, b, i => by rw [Nat.zero_add]; rfl
  | a + 1, b, i => by
    rw [show a + 1 + b = (a + b) + 1 by omega]
    show lcgN M (a + b) (lcg M i) = _
    rw [lcgN_add M a b]
    rfl
def goodM (M : Nat) : Bool := (List.range M).all (fun j => (orb M M 0).contains j) && lcgN M M 0 == 0
theorem reach {M : Nat} (g : goodM M = true) {i j : Nat} (hi : i < M) (hj : j < M) : ∃ n, n < M ∧ lcgN M n i = j := by
  unfold goodM at g
  rw [Bool.and_eq_true] at g
  obtain ⟨g1, g2⟩ := g
  have all : ∀ j, j < M → ∃ k, k < M ∧ lcgN M k 0 = j := fun j hj => mem_orb (List.contains_iff_mem.mp (List.all_eq_true.mp g1 j (List.mem_range.mpr hj)))
  have z : lcgN M M 0 = 0 := beq_iff_eq.mp g2
  obtain ⟨a, ha, ea⟩ := all i hi
  obtain ⟨b, hb, eb⟩ := all j hj
  by_cases c : a ≤ b
  · refine ⟨b - a, by omega, ?_⟩
    rw [← ea, ← lcgN_add, show a + (b - a) = b by omega, eb]
  · refine ⟨M - a + b, by omega, ?_⟩
    rw [← ea, ← lcgN_add, show a + (M - a + b) = M + b by omega, lcgN_add, z, eb]
theorem good_all : (List.range 7).all (fun e => goodM (8 * 2 ^ e)) = true := by decide +kernel
abbrev isF (owner : Array (Option Nat)) (j : Nat) : Prop := owner.getD j none = none
section
variable {M : Nat} {owner : Array (Option Nat)}
theorem free_hit (hs : owner.size = M) {i k : Nat} (hi : i < M) (h : ((List.range (SetTable.runEnd (M - 1) i + 1 - i)).find? fun k => (owner.getD (i + k) (some 0)).isNone) = some k) : i + k < M ∧ isF owner (i + k) := by
  have h1 := List.find?_some h
  have h2 := List.mem_range.mp (List.mem_of_find?_eq_some h)
  have lt : i + k < M := by
    unfold SetTable.runEnd at h2
    split at h2 <;> omega
  refine ⟨lt, ?_⟩
  unfold isF
  have h1 : (owner.getD (i + k) (some 0)).isNone = true := h1
  unfold Array.getD at h1 ⊢
  rw [dif_pos (by omega)] at h1 ⊢
  exact Option.isNone_iff_eq_none.mp h1
theorem free_not (hs : owner.size = M) {i : Nat} (hi : i < M) (h : ((List.range (SetTable.runEnd (M - 1) i + 1 - i)).find? fun k => (owner.getD (i + k) (some 0)).isNone) = none) : ¬ isF owner i := by
  intro f
  have h0 := List.find?_eq_none.mp h 0 (List.mem_range.mpr (by unfold SetTable.runEnd; split <;> omega))
  refine h0 ?_
  unfold isF at f
  show (owner.getD (i + 0) (some 0)).isNone = true
  rw [Nat.add_zero]
  unfold Array.getD at f ⊢
  rw [dif_pos (by omega)] at f ⊢
  exact Option.isNone_iff_eq_none.mpr f
theorem free_zero (hs : owner.size = M) : ∀ (n f i : Nat), i < M → isF owner (lcgN M n i) → n < f → ∃ r, SetTable.layClean.free (M - 1) owner f i 0 = some r ∧ r < M ∧ isF owner r
  | n, 0, i, _, _, h => by omega
  | n, f + 1, i, hi, hf, hn => by
    unfold SetTable.layClean.free
    cases c : (List.range (SetTable.runEnd (M - 1) i + 1 - i)).find? fun k => (owner.getD (i + k) (some 0)).isNone with
    | some k =>
      obtain ⟨a, b⟩ := free_hit hs hi c
      exact ⟨i + k, rfl, a, b⟩
    | none =>
      have no := free_not hs hi c
      cases n with
      | zero => exact absurd hf no
      | succ n =>
        have lp : SetTable.leap (M - 1) i 0 = (lcg M i, 0) := by
          unfold SetTable.leap lcg
          rw [show M - 1 + 1 = M by omega]
        dsimp only
        rw [lp]
        exact free_zero hs n f (lcg M i) (Nat.mod_lt _ (by omega)) hf (by omega)
theorem free_any (g : goodM M = true) (hs : owner.size = M) {j : Nat} (hj : j < M) (hf : isF owner j) : ∀ (a p f i : Nat), p < 32 ^ a → i < M → a + M ≤ f → ∃ r, SetTable.layClean.free (M - 1) owner f i p = some r ∧ r < M ∧ isF owner r
  | 0, p, f, i, hp, hi, hl => by
    have p0 : p = 0 := by omega
    subst p0
    obtain ⟨n, hn, e⟩ := reach g hi hj
    exact free_zero hs n f i hi (by rw [e]; exact hf) (by omega)
  | a + 1, p, 0, i, _, _, hl => by omega
  | a + 1, p, f + 1, i, hp, hi, hl => by
    unfold SetTable.layClean.free
    cases c : (List.range (SetTable.runEnd (M - 1) i + 1 - i)).find? fun k => (owner.getD (i + k) (some 0)).isNone with
    | some k =>
      obtain ⟨x, y⟩ := free_hit hs hi c
      exact ⟨i + k, rfl, x, y⟩
    | none =>
      have lp : SetTable.leap (M - 1) i p = ((i * 5 + 1 + p / 32) % M, p / 32) := by
        unfold SetTable.leap
        rw [show M - 1 + 1 = M by omega]
      dsimp only
      rw [lp]
      exact free_any g hs hj hf a (p / 32) f _ (by rw [Nat.pow_succ] at hp; omega) (Nat.mod_lt _ (by omega)) (by omega)
end
theorem nat_len : ∀ (n : Nat) (l : List Nat), l.Nodup → (∀ x ∈ l, x < n) → l.length ≤ n
  | 0, l, _, h => by
    cases l with
    | nil => exact Nat.le_refl _
    | cons a l => exact absurd (h a (List.mem_cons_self ..)) (Nat.not_lt_zero _)
  | n + 1, l, nd, h => by
    have ih := nat_len n (l.erase n) (nd.erase n) fun x hx => by
      have h1 := h x (List.mem_of_mem_erase hx)
      have h2 : x ≠ n := ((List.Nodup.mem_erase_iff nd).mp hx).1
      omega
    by_cases c : n ∈ l
    · rw [List.length_erase_of_mem c] at ih
      omega
    · rw [List.erase_of_not_mem c] at ih
      omega
structure Laid (M : Nat) (owner : Array (Option Nat)) (k : Nat) : Prop where
  size : owner.size = M
  all : ∀ t, t < k → ∃ j, j < M ∧ owner.getD j none = some t
  low : ∀ j t, owner.getD j none = some t → t < k
  one : ∀ i j t, owner.getD i none = some t → owner.getD j none = some t → i = j
theorem getD_set {owner : Array (Option Nat)} {j : Nat} (hj : j < owner.size) (x : Option Nat) (i : Nat) : (owner.setIfInBounds j x).getD i none = if i = j then x else owner.getD i none := by
  rw [Array.getD_eq_getD_getElem?, Array.getD_eq_getD_getElem?, Array.getElem?_setIfInBounds]
  by_cases c : i = j
  · rw [if_pos c.symm, if_pos c, if_pos hj]
    rfl
  · rw [if_neg (Ne.symm c), if_neg c]
theorem Laid.room {M k : Nat} {owner : Array (Option Nat)} (L : Laid M owner k) (h : k < M) : ∃ j, j < M ∧ isF owner j := by
  refine Classical.byContradiction fun no => ?_
  have val : ∀ j, j < M → ∃ t, owner.getD j none = some t := fun j hj => by
    cases c : owner.getD j none with
    | none => exact absurd ⟨j, hj, c⟩ no
    | some t => exact ⟨t, rfl⟩
  have nd : ((List.range M).map fun j => (owner.getD j none).getD 0).Nodup := by
    refine List.pairwise_map.mpr (List.Pairwise.imp_of_mem ?_ (List.nodup_range (n := M)))
    intro a b ha hb hne e
    obtain ⟨s, es⟩ := val a (List.mem_range.mp ha)
    obtain ⟨t, et⟩ := val b (List.mem_range.mp hb)
    rw [es, et] at e
    have e : s = t := e
    subst e
    exact hne (L.one a b s es et)
  have := nat_len k _ nd fun x hx => by
    obtain ⟨j, hj, rfl⟩ := List.mem_map.mp hx
    obtain ⟨t, et⟩ := val j (List.mem_range.mp hj)
    rw [et]
    exact L.low j t et
  rw [List.length_map, List.length_range] at this
  omega
theorem Laid.put {M k : Nat} {owner : Array (Option Nat)} (L : Laid M owner k) {j : Nat} (hj : j < M) (hf : isF owner j) : Laid M (owner.setIfInBounds j (some k)) (k + 1) := by
  have hs := L.size
  have gd := fun i => getD_set (owner := owner) (j := j) (by omega) (some k) i
  refine ⟨by rw [Array.size_setIfInBounds]; exact hs, fun t ht => ?_, fun i t e => ?_, fun i i' t e1 e2 => ?_⟩
  · by_cases c : t = k
    · exact ⟨j, hj, by rw [gd, if_pos rfl, c]⟩
    · obtain ⟨i, hi, e⟩ := L.all t (by omega)
      refine ⟨i, hi, ?_⟩
      rw [gd, if_neg fun z => by rw [z, hf] at e; cases e]
      exact e
  · rw [gd] at e
    by_cases c : i = j
    · rw [if_pos c] at e
      cases e
      omega
    · rw [if_neg c] at e
      have := L.low i t e
      omega
  · rw [gd] at e1 e2
    by_cases c : i = j
    · rw [if_pos c] at e1
      cases e1
      by_cases d : i' = j
      · rw [c, d]
      · rw [if_neg d] at e2
        have := L.low i' k e2
        omega
    · rw [if_neg c] at e1
      by_cases d : i' = j
      · rw [if_pos d] at e2
        cases e2
        have := L.low i k e1
        omega
      · rw [if_neg d] at e2
        exact L.one i i' t e1 e2
def layF (M : Nat) (acc : Option (Array (Option Nat) × Nat)) (h : Int) : Option (Array (Option Nat) × Nat) := do
  let (owner, k) ← acc
  let j ← SetTable.layClean.free (M - 1) owner (SetTable.turns (M - 1)) (SetTable.bits h % (M - 1 + 1)) (SetTable.bits h)
  pure (owner.setIfInBounds j (some k), k + 1)
theorem lay_fold {M : Nat} (g : goodM M = true) : ∀ (hs : List Int) (owner : Array (Option Nat)) (k : Nat), Laid M owner k → k + hs.length < M → ∃ owner', hs.foldl (layF M) (some (owner, k)) = some (owner', k + hs.length) ∧ Laid M owner' (k + hs.length)
  | [], owner, k, L, _ => ⟨owner, rfl, L⟩
  | h :: hs, owner, k, L, hl => by
    rw [List.length_cons] at hl
    obtain ⟨j, hj, hf⟩ := L.room (by omega)
    have b64 : SetTable.bits h < 32 ^ 13 := by
      have : SetTable.bits h < 2 ^ 64 := by
        unfold SetTable.bits
        omega
      exact Nat.lt_of_lt_of_le this (by decide)
    obtain ⟨r, e, hr, hfr⟩ := free_any g L.size hj hf 13 (SetTable.bits h) (SetTable.turns (M - 1)) (SetTable.bits h % (M - 1 + 1)) b64 (by
      rw [show M - 1 + 1 = M by omega]
      exact Nat.mod_lt _ (by omega)) (by unfold SetTable.turns; omega)
    obtain ⟨owner', e2, L2⟩ := lay_fold g hs (owner.setIfInBounds r (some k)) (k + 1) (L.put hr hfr) (by omega)
    refine ⟨owner', ?_, by rw [List.length_cons, show k + (hs.length + 1) = k + 1 + hs.length by omega]; exact L2⟩
    have st : layF M (some (owner, k)) h = some (owner.setIfInBounds r (some k), k + 1) := by
      unfold layF
      show ((SetTable.layClean.free (M - 1) owner (SetTable.turns (M - 1)) (SetTable.bits h % (M - 1 + 1)) (SetTable.bits h)).bind _) = _
      rw [e]
      rfl
    rw [List.foldl_cons, st, e2, List.length_cons, show k + (hs.length + 1) = k + 1 + hs.length by omega]
theorem lay_ok {M : Nat} (g : goodM M = true) {hs : Array Int} (hl : hs.size < M) : ∃ owner, SetTable.layClean (M - 1) hs = some owner ∧ Laid M owner hs.size := by
  have L0 : Laid M (Array.replicate (M - 1 + 1) none) 0 := by
    have gd : ∀ j, (Array.replicate (M - 1 + 1) (none : Option Nat)).getD j none = none := fun j => by
      unfold Array.getD
      split
      · simp
      · rfl
    exact ⟨by rw [Array.size_replicate]; omega, fun t ht => absurd ht (Nat.not_lt_zero _), fun j t e => (by rw [gd] at e; cases e), fun i j t e _ => (by rw [gd] at e; cases e)⟩
  obtain ⟨owner, e, L⟩ := lay_fold g hs.toList _ 0 L0 (by rw [Nat.zero_add, Array.length_toList]; exact hl)
  rw [Nat.zero_add, Array.length_toList] at e L
  refine ⟨owner, ?_, L⟩
  unfold SetTable.layClean
  rw [← Array.foldl_toList]
  show (hs.toList.foldl (layF M) (some (Array.replicate (M - 1 + 1) none, 0))).map (·.1) = _
  rw [e]
  rfl
/-- a clean table for any few hashes: its places rise, and its order names each once -/
theorem laid_ok {M : Nat} (g : goodM M = true) {hs : Array Int} (hl : hs.size < M) (finger moves : Nat) (led plain : Bool) : ∃ t order, SetTable.laid (M - 1) finger moves led plain hs = some (t, order) ∧ t.dummies = #[] ∧ t.mask = M - 1 ∧ t.place.toList.Pairwise (· < ·) ∧ t.led = led ∧ t.fits hs.size = true ∧ order.toList.Perm (List.range hs.size) := by
  obtain ⟨owner, e, L⟩ := lay_ok g hl
  have len : ∀ l : List Nat, ((l.filterMap fun j => (owner.getD j none).map (j, ·)).map (·.1)).Sublist l := fun l => by
    induction l with
    | nil => exact List.Sublist.slnil
    | cons a l ih =>
      cases c : owner.getD a none with
      | none =>
        rw [List.filterMap_cons_none (by rw [c]; rfl)]
        exact ih.cons a
      | some t =>
        rw [List.filterMap_cons_some (b := (a, t)) (by rw [c]; rfl), List.map_cons]
        exact ih.cons₂ a
  have nd : (((List.range (M - 1 + 1)).filterMap fun j => (owner.getD j none).map (j, ·)).map (·.2)).Nodup := by
    have : ∀ l : List Nat, l.Nodup → ((l.filterMap fun j => (owner.getD j none).map (j, ·)).map (·.2)).Nodup := fun l => by
      induction l with
      | nil => intro _; exact List.nodup_nil
      | cons a l ih =>
        intro h
        obtain ⟨h1, h2⟩ := List.nodup_cons.mp h
        cases c : owner.getD a none with
        | none =>
          rw [List.filterMap_cons_none (by rw [c]; rfl)]
          exact ih h2
        | some t =>
          rw [List.filterMap_cons_some (b := (a, t)) (by rw [c]; rfl), List.map_cons]
          refine List.nodup_cons.mpr ⟨fun q => ?_, ih h2⟩
          obtain ⟨p, hp, ep⟩ := List.mem_map.mp q
          obtain ⟨j, hj, ej⟩ := List.mem_filterMap.mp hp
          obtain ⟨u, eu, rfl⟩ := Option.map_eq_some_iff.mp ej
          have ep : u = t := ep
          subst ep
          have := L.one a j u c eu
          subst this
          exact h1 hj
    exact this _ List.nodup_range
  have mem : ∀ t, t ∈ ((List.range (M - 1 + 1)).filterMap fun j => (owner.getD j none).map (j, ·)).map (·.2) ↔ t ∈ List.range hs.size := fun t => by
    rw [List.mem_range]
    constructor
    · intro q
      obtain ⟨p, hp, rfl⟩ := List.mem_map.mp q
      obtain ⟨j, hj, ej⟩ := List.mem_filterMap.mp hp
      obtain ⟨u, eu, rfl⟩ := Option.map_eq_some_iff.mp ej
      exact L.low j u eu
    · intro q
      obtain ⟨j, hj, ej⟩ := L.all t q
      exact List.mem_map.mpr ⟨(j, t), List.mem_filterMap.mpr ⟨j, List.mem_range.mpr (by omega), by rw [ej]; rfl⟩, rfl⟩
  have pm : (((List.range (M - 1 + 1)).filterMap fun j => (owner.getD j none).map (j, ·)).map (·.2)).Perm (List.range hs.size) := (List.perm_ext_iff_of_nodup nd List.nodup_range).mpr mem
  refine ⟨_, _, by unfold SetTable.laid; rw [e]; rfl, rfl, rfl, ?_, rfl, ?_, ?_⟩
  · show (((List.range (M - 1 + 1)).filterMap fun j => (owner.getD j none).map (j, ·)).map (·.1)).toArray.toList.Pairwise (· < ·)
    exact List.Pairwise.sublist (len _) List.pairwise_lt_range
  · have sz : (((List.range (M - 1 + 1)).filterMap fun j => (owner.getD j none).map (j, ·)).map (·.1)).length = hs.size := by
      rw [List.length_map, ← List.length_map (f := fun p : Nat × Nat => p.2), pm.length_eq, List.length_range]
    unfold SetTable.fits SetTable.fill
    show ((((List.range (M - 1 + 1)).filterMap fun j => (owner.getD j none).map (j, ·)).map (·.1)).toArray.size == hs.size && decide ((((List.range (M - 1 + 1)).filterMap fun j => (owner.getD j none).map (j, ·)).map (·.1)).toArray.size + (#[] : Array Nat).size ≤ M - 1)) = true
    rw [List.size_toArray, sz, beq_self_eq_true, Bool.true_and]
    exact decide_eq_true (by show hs.size + 0 ≤ M - 1; omega)
  · show ((((List.range (M - 1 + 1)).filterMap fun j => (owner.getD j none).map (j, ·)).map (·.2)).toArray).toList.Perm _
    exact pm
end Tw

set_option Elab.async false
set_option linter.all false
set_option maxRecDepth 100000
set_option maxHeartbeats 4000000
namespace Tw
open PySem PySem.Spec PyProof.Rows L2
section
variable {P : Program} {w : World} {A : Around} {E : Value → Shared → Prop} {s : Shared} {a : Addr} {es : Array (Int × Value)} {ep : Nat} {t : SetTable}
theorem walk_at {Q : Array (Int × Value) → Shared → Prop} (ha : SetAt s.heap a es ep t) (hf : t.fits es.size = true) (hl : w.params.followText "set-order" = true ∨ t.led = true)
    (hQ : ∀ (ys : Array (Int × Value)) d, ys.toList.Perm es.toList → Q ys { s with drawn := d }) : wpAny (model P w) A (setWalk a) Q E s := by
  obtain ⟨o, ho, _, hd⟩ := ha
  unfold setWalk
  refine wpAny_bind (wpAny_setState_of ho hd hf ?_)
  dsimp only
  refine wpAny_bind (wpAny_byText ?_)
  by_cases bt : w.params.followText "set-order" = true
  · refine wp_if_pos bt ?_
    refine wpAny_bind (wpAny_askSetting ?_)
    exact wpAny_pure (hQ _ s.drawn (pick_perm _ es))
  · refine wp_if_neg bt ?_
    have ld := hl.resolve_left bt
    refine wpAny_ite_split (fun c => ?_) fun c => ?_
    · refine wpAny_bind (drawOrder_at _ _ _ _ (Nat.le_of_eq (Array.length_toList ..)) fun ys d p => ?_)
      exact wpAny_pure (hQ _ d p)
    · refine wpAny_bind ?_
      show wpAny _ _ (if (!t.led && decide (es.size > 1)) = true then unsupported "set:maker-not-led" else pure ()) _ _ _
      refine wp_if_neg (by rw [ld]; exact Bool.false_ne_true) (wpAny_pure (wpAny_pure (hQ es s.drawn (List.Perm.refl _))))
/-- every member is a number -/
def Nums2 (es : Array (Int × Value)) : Prop := ∀ e ∈ es.toList, ∃ k tk, e.2 = Value.int k tk
theorem quiet_sets : ∀ (L : List Addr), (∀ b ∈ L, ∃ es ep t, SetAt s.heap b es ep t ∧ t.fits es.size = true ∧ Nums2 es) → ∀ {Q : Bool → Shared → Prop}, Q true s → wpAny (model P w) A (setsQuiet L) Q E s := fun L hL Q hQ => by
  unfold setsQuiet
  refine wpAny_bind (wpAny_forIn_list _ (fun rest b s' => b.1 = none ∧ s' = s ∧ ∀ x ∈ rest, x ∈ L) _ ?_ ?_ L _ ⟨rfl, rfl, fun x hx => hx⟩)
  · rintro x rest b s' ⟨hb, rfl, hr⟩
    obtain ⟨es, ep, t, ⟨o, ho, _, hd⟩, hf, nm⟩ := hL x (hr x (List.mem_cons_self ..))
    refine wpAny_bind (m := setEntries x) ?_
    unfold setEntries
    refine wpAny_bind (wpAny_setState_of ho hd hf (wpAny_pure ?_))
    refine wpAny_bind (PySem.MeetsSeq2.wpAny_forIn_array _ (fun rest b s'' => b.1 = none ∧ s'' = s' ∧ ∀ e ∈ rest, e ∈ es.toList) _ ?_ ?_ es _ ⟨rfl, rfl, fun e he => he⟩)
    · rintro ⟨h, v⟩ rest2 b2 s2 ⟨hb2, rfl, hr2⟩
      obtain ⟨k, tk, e⟩ := nm _ (hr2 _ (List.mem_cons_self ..))
      have e : v = Value.int k tk := e
      subst e
      exact wpAny_pure ⟨rfl, rfl, fun e he => hr2 e (List.mem_cons_of_mem _ he)⟩
    · rintro ⟨b1, b2⟩ s2 ⟨hb2, rfl, _⟩
      cases hb2
      exact wpAny_pure ⟨rfl, rfl, fun x hx => hr x (List.mem_cons_of_mem _ hx)⟩
  · rintro ⟨b1, b2⟩ s' ⟨hb, rfl, _⟩
    cases hb
    exact wpAny_pure hQ
/-- a walk that nobody sees, with the set that is being filled: a permutation; the filled set keeps all but its marks -/
theorem walk_unseen {f : Addr} {es2 : Array (Int × Value)} {ep2 : Nat} {t2 : SetTable} {o2 : Obj} {Q : Array (Int × Value) → Shared → Prop} (ha : SetAt s.heap a es ep t) (hf : t.fits es.size = true) (hl : w.params.followText "set-order" = true ∨ t.led = true) (nm : Nums2 es)
    (ho2 : s.heap.get? f = some o2) (hc2 : o2.cls = .type "set") (hd2 : o2.data = .set es2 ep2 t2) (hf2 : t2.fits es2.size = true) (hz2 : es2.size ≤ sizeLine) (nm2 : Nums2 es2)
    (hQ : ∀ (ys : Array (Int × Value)) d, ys.toList.Perm es.toList → Q ys { s with drawn := d })
    (hQ2 : ∀ t3 : SetTable, t3.place = t2.place → t3.dummies = t2.dummies → t3.mask = t2.mask → (t2.led = true → w.params.followText "set-order" = false → t3.led = true) → Q es { s with heap := s.heap.update f (Obj.putSet es2 t3) }) :
    wpAny (model P w) A (setWalkUnseen a [f] (some f)) Q E s := by
  obtain ⟨o, ho, hc, hd⟩ := id ha
  unfold setWalkUnseen
  refine wpAny_bind (wpAny_setState_of ho hd hf ?_)
  dsimp only
  refine wpAny_bind (wpAny_byText ?_)
  refine wpAny_ite_split (fun _ => walk_at ha hf hl hQ) fun _ => ?_
  refine wpAny_bind (quiet_sets [a, f] (fun b hb => ?_) ?_)
  · rcases List.mem_cons.mp hb with rfl | hb
    · exact ⟨es, ep, t, ha, hf, nm⟩
    · rw [List.mem_singleton.mp hb]
      exact ⟨es2, ep2, t2, ⟨o2, ho2, hc2, hd2⟩, hf2, nm2⟩
  · refine wp_if_neg (by decide : ¬ (!true) = true) ?_
    refine wpAny_bind (wpAny_rule ?_)
    refine wpAny_bind (wpAny_setState_of ho2 hd2 hf2 ?_)
    dsimp only
    refine wpAny_ite_split (fun _ => ?_) fun _ => wpAny_pure (hQ es s.drawn (List.Perm.refl _))
    refine wpAny_bind (wpAny_storeSet_of ho2 hd2 ?_ hz2)
    refine wpAny_pure (hQ2 _ rfl rfl rfl fun h1 h2 => ?_)
    have ld := hl.resolve_left (by rw [h2]; exact Bool.false_ne_true)
    show (t2.led && t.led) = true
    rw [h1, ld]
    rfl
/-! ### a member taken out -/
theorem erase_list {α : Type} (xs : Array α) (i : Nat) : (SetTable.eraseAt xs i).toList = xs.toList.eraseIdx i := by
  unfold SetTable.eraseAt
  simp [List.eraseIdx_eq_take_drop_succ]
  rw [List.take_of_length_le (by rw [List.length_drop, Array.length_toList]; exact Nat.le_refl _)]
theorem drop_ok {t : SetTable} {n i : Nat} (hf : t.fits n = true) (hi : i < n) (r : Ris t.place.toList) : (t.drop i).fits (n - 1) = true ∧ Ris (t.drop i).place.toList ∧ (t.drop i).led = t.led := by
  have hf' := hf
  unfold SetTable.fits at hf'
  rw [Bool.and_eq_true, beq_iff_eq, decide_eq_true_eq] at hf'
  obtain ⟨h1, h2⟩ := hf'
  unfold SetTable.fill at h2
  have hp : t.place[i]? = some (t.place[i]'(by omega)) := Array.getElem?_eq_getElem (by omega)
  generalize t.place[i]'(by omega) = j at hp
  unfold SetTable.drop
  rw [hp]
  dsimp only
  have sz1 : (SetTable.eraseAt t.place i).size = n - 1 := by
    rw [← Array.length_toList, erase_list, List.length_eraseIdx_of_lt (by rw [Array.length_toList]; omega), Array.length_toList, h1]
  have sz2 : (SetTable.insertAt t.dummies (SetTable.below t.dummies j) j).size = t.dummies.size + 1 := by
    rw [← Array.length_toList, SetTable.toList_insertAt, List.length_append, List.length_cons, List.length_take, List.length_drop, Array.length_toList]
    have := (Nat.le_total (SetTable.below t.dummies j) t.dummies.size)
    rcases this with q | q
    · rw [Nat.min_eq_left q]; omega
    · rw [Nat.min_eq_right q]; omega
  refine ⟨?_, ?_, rfl⟩
  · unfold SetTable.fits SetTable.fill
    rw [Bool.and_eq_true, beq_iff_eq, decide_eq_true_eq]
    refine ⟨sz1, ?_⟩
    show (SetTable.eraseAt t.place i).size + (SetTable.insertAt t.dummies (SetTable.below t.dummies j) j).size ≤ t.mask
    rw [sz1, sz2]
    omega
  · show Ris (SetTable.eraseAt t.place i).toList
    rw [erase_list]
    exact List.Pairwise.sublist (List.eraseIdx_sublist ..) r
theorem setR_discard {k : Int} {tk : Tok} {S : Int → Bool} {n : Nat} {Q : Bool → Shared → Prop} (R : SetR w s.heap a S n)
    (hQ : ∀ h' n', Heap.SameBut a s.heap h' → n' ≤ n → (S k = false → n' = n) → SetR w h' a (fun j => S j && !decide (j = k)) n' → Q (S k) { s with heap := h' }) :
    wpAny (model P w) A (setDiscardHashed a (.int k tk) ((intKind P w).hash k)) Q E s := by
  obtain ⟨o, es, ep, t, ho, hex, hd, g, nd, hm, hb, hf, hn, hr, hl⟩ := R
  have hkey : (intKind P w).is k (.int k tk) = true := intKind_is P w k tk
  have hsc : (Value.int k tk).scannable = true := rfl
  have hel : ElemsOf (intKind P w) es.toList := good_elems g
  unfold setDiscardHashed setFind setFindIn
  refine wpAny_bind ?_
  refine wpAny_bind (wpAny_setState_of ho hd hf ?_)
  dsimp only
  rw [byScan_of hsc hb hel]
  simp only [↓reduceIte]
  refine wpAny_bind (wpAny_rule ?_)
  refine wpAny_bind (wpAny_setScan_of hkey ho hd hf hel ?_)
  cases hfi : List.findIdx? (fun e => (intKind P w).is k e.2) es.toList with
  | none =>
    have hnk : k ∉ es.toList.map L2.keyOf := fun z => by
      obtain ⟨e, he, q⟩ := (good_mem (P := P) (w := w) g k).1 z
      have c := List.findIdx?_eq_none_iff.mp hfi e he
      rw [q] at c
      cases c
    have hSk : S k = false := by
      cases q : S k with
      | false => rfl
      | true => exact absurd ((hm k).1 q) hnk
    refine wpAny_pure (wpAny_pure ?_)
    have q := hQ s.heap n (Heap.SameBut.refl a s.heap) (Nat.le_refl _) (fun _ => rfl) ⟨o, es, ep, t, ho, hex, hd, g, nd, fun i => by
      rw [Bool.and_eq_true, hm i, Bool.not_eq_true', decide_eq_false_iff_not]
      exact ⟨fun z => z.1, fun z => ⟨z, fun e => hnk (e ▸ z)⟩⟩, hb, hf, hn, hr, hl⟩
    rw [hSk] at q
    exact q
  | some j =>
    obtain ⟨hj, pj, _⟩ := List.findIdx?_eq_some_iff_getElem.mp hfi
    have hSk : S k = true := (hm k).2 ((good_mem (P := P) (w := w) g k).2 ⟨es.toList[j], List.getElem_mem hj, pj⟩)
    have kj : L2.keyOf es.toList[j] = k := (good_is (P := P) (w := w) (g _ (List.getElem_mem hj)) k).1 pj
    have hj' : j < es.size := by rw [← Array.length_toList]; exact hj
    refine wpAny_pure ?_
    dsimp only
    rw [Nat.zero_add]
    refine wpAny_bind (wpAny_setState_of ho hd hf ?_)
    dsimp only
    obtain ⟨d1, d2, d3⟩ := drop_ok hf hj' hr
    have el := erase_list es j
    have pm : (es.toList[j] :: es.toList.eraseIdx j).Perm es.toList := erase_perm es.toList j _ (List.getElem?_eq_getElem hj)
    have sz : (SetTable.eraseAt es j).size = es.size - 1 := by
      rw [← Array.length_toList, el, List.length_eraseIdx_of_lt hj, Array.length_toList]
    have hz : (SetTable.eraseAt es j).size < scanBound := by omega
    refine wpAny_bind (wpAny_storeSet_of ho hd ?_ (fits_of_scanBound hz))
    have ho1 := store_at (es' := SetTable.eraseAt es j) (t' := t.drop j) ho hd
    refine wpAny_bind (wpAny_point (wpAny_pure ?_))
    have pk : (k :: (es.toList.eraseIdx j).map L2.keyOf).Perm (es.toList.map L2.keyOf) := by
      have := pm.map L2.keyOf
      rw [List.map_cons, kj] at this
      exact this
    have nd2 := List.nodup_cons.mp (pk.nodup_iff.mpr nd)
    have q := hQ _ (es.size - 1) (Heap.SameBut.update s.heap a (Obj.putSet (SetTable.eraseAt es j) (t.drop j))) (by omega) (fun z => by rw [hSk] at z; cases z) ⟨_, SetTable.eraseAt es j, _, t.drop j, ho1, hex, rfl, fun e he => g e (by rw [el] at he; exact (List.eraseIdx_sublist ..).subset he), by rw [el]; exact nd2.2, fun i => by
      rw [el, Bool.and_eq_true, hm i, Bool.not_eq_true', decide_eq_false_iff_not, ← pk.mem_iff, List.mem_cons]
      constructor
      · rintro ⟨z, ne⟩
        exact z.resolve_left ne
      · intro z
        exact ⟨.inr z, fun e => nd2.1 (e ▸ z)⟩, hz, by rw [sz]; exact d1, sz, d2, hl.imp id fun z => by rw [d3]; exact z⟩
    rw [hSk] at q
    exact q
end
end Tw

set_option Elab.async false
set_option linter.all false
set_option maxRecDepth 100000
set_option maxHeartbeats 4000000
namespace Tw
open PySem PySem.Spec PyProof.Rows L2
theorem above_ok : (List.range 501).all (fun x => decide (x < SetTable.sizeAbove x) && (List.range 7).any fun e => SetTable.sizeAbove x == 8 * 2 ^ e) = true := by decide +kernel
theorem above_good {x : Nat} (h : x ≤ 500) : x < SetTable.sizeAbove x ∧ goodM (SetTable.sizeAbove x) = true ∧ SetTable.sizeAbove x ≤ 512 := by
  have a := List.all_eq_true.mp above_ok x (List.mem_range.mpr (by omega))
  rw [Bool.and_eq_true, decide_eq_true_eq] at a
  obtain ⟨e, he, q⟩ := List.any_eq_true.mp a.2
  have q := beq_iff_eq.mp q
  have e7 := List.mem_range.mp he
  refine ⟨a.1, ?_, ?_⟩
  · rw [q]
    exact List.all_eq_true.mp good_all e he
  · rw [q]
    have : e = 0 ∨ e = 1 ∨ e = 2 ∨ e = 3 ∨ e = 4 ∨ e = 5 ∨ e = 6 := by omega
    rcases this with rfl | rfl | rfl | rfl | rfl | rfl | rfl <;> decide
theorem good8 : goodM 8 = true := by decide +kernel
section
variable {P : Program} {w : World} {A : Around} {E : Value → Shared → Prop} {s : Shared} {a r : Addr} {S : Int → Bool} {n : Nat}
/-- an empty set r with room for n -/
def Empty (w : World) (h : Heap) (r : Addr) (n : Nat) : Prop := ∃ o ep t M, h.get? r = some o ∧ o.ExactSet ∧ o.data = .set #[] ep t ∧ t.place = #[] ∧ t.dummies = #[] ∧ t.mask = M - 1 ∧ goodM M = true ∧ n < M ∧ (w.params.followText "set-order" = true ∨ t.led = true)
theorem order_perm {es : Array (Int × Value)} {order : Array Nat} (h : order.toList.Perm (List.range es.size)) : (order.filterMap (es[·]?)).toList.Perm es.toList := by
  rw [Array.toList_filterMap]
  have := h.filterMap (es[·]?)
  rw [filterMap_getElem?_range] at this
  exact this
theorem room_for {o : Obj} {led0 : Bool} {ep : Nat} (hr : s.heap.get? r = some o) (hx : o.ExactSet) (hd : o.data = .set #[] ep (.fresh 0 0 led0)) (hl : w.params.followText "set-order" = true ∨ led0 = true) (hn : n ≤ 250) {Q : Unit → Shared → Prop}
    (hQ : ∀ h', Heap.SameBut r s.heap h' → Empty w h' r n → Q () { s with heap := h' }) : wpAny (model P w) A (setRoomFor r n) Q E s := by
  unfold setRoomFor
  refine wpAny_bind (wpAny_setState_of hr hd (by rfl) ?_)
  dsimp only
  have rf : (SetTable.fresh 0 0 led0).roomFor n = if n * 5 ≥ 21 then some (n * 2) else none := by
    unfold SetTable.roomFor SetTable.fresh SetTable.fill
    show (if (0 + 0 + n) * 5 ≥ 7 * 3 then some ((0 + n) * 2) else none) = _
    rw [Nat.zero_add]
  rw [rf]
  by_cases c : n * 5 ≥ 21
  · rw [if_pos c]
    dsimp only
    obtain ⟨g1, g2, g3⟩ := above_good (x := n * 2) (by omega)
    obtain ⟨t, order, e, ed, em, ep', el, ef, eo⟩ := laid_ok g2 (hs := (#[] : Array Int)) (by show 0 < _; omega) 0 ((SetTable.fresh 0 0 led0).movedTo (SetTable.sizeAbove (n * 2) - 1)) led0 true
    unfold setRelay
    refine wpAny_bind (wpAny_setState_of hr hd (by rfl) ?_)
    dsimp only
    refine wp_if_neg (by have := sizeLine_eq; omega) ?_
    have rl : (SetTable.fresh 0 0 led0).relaid ((#[] : Array (Int × Value)).map (·.1)) (n * 2) = some (t, order) := by
      rw [Array.map_empty]
      exact e
    rw [rl]
    have e0 : (order.filterMap ((#[] : Array (Int × Value))[·]?)) = #[] := by
      have := order_perm (es := #[]) (order := order) eo
      have : (order.filterMap ((#[] : Array (Int × Value))[·]?)).toList = [] := List.Perm.eq_nil this
      exact Array.toList_eq_nil_iff.mp this
    refine wpAny_bind ?_
    show wpAny _ _ (if ((order.filterMap ((#[] : Array (Int × Value))[·]?)).size != (#[] : Array (Int × Value)).size) = true then _ else pure (order.filterMap ((#[] : Array (Int × Value))[·]?), t)) _ _ _
    rw [e0]
    refine wp_if_neg (by decide) (wpAny_pure ?_)
    dsimp only
    refine wpAny_storeSet_of hr hd ?_ (by have := sizeLine_eq; show 0 ≤ _; omega)
    have ho := store_at (es' := (#[] : Array (Int × Value))) (t' := t) hr hd
    have tp : t.place = #[] := by
      unfold SetTable.fits at ef
      rw [Bool.and_eq_true, beq_iff_eq] at ef
      exact Array.eq_empty_of_size_eq_zero ef.1
    exact hQ _ (Heap.SameBut.update s.heap r _) ⟨_, _, t, _, ho, hx, rfl, tp, ed, em, g2, by omega, hl.imp id fun z => by rw [el]; exact z⟩
  · rw [if_neg c]
    exact wpAny_pure (hQ s.heap (Heap.SameBut.refl r s.heap) ⟨o, ep, _, 8, hr, hx, hd, rfl, rfl, rfl, good8, by omega, hl⟩)
/-- all of a set put into an empty one with room -/
theorem merge_into {each : Sem Unit} (hr : ∃ o led0 ep, s.heap.get? r = some o ∧ o.ExactSet ∧ o.data = .set #[] ep (.fresh 0 0 led0) ∧ (w.params.followText "set-order" = true ∨ led0 = true)) (R : SetR w s.heap a S n) (hn : n ≤ 250) (hne : a ≠ r) {Q : Unit → Shared → Prop}
    (hQ : ∀ h', Heap.SameBut r s.heap h' → SetR w h' r S n → Q () { s with heap := h' }) : wpAny (model P w) A (setMerge r a each) Q E s := by
  obtain ⟨o2, led0, ep2, ho2, hx2, hd2, hl2⟩ := hr
  obtain ⟨o, es, ep, t, ho, hex, hd, g, nd, hm, hb, hf, hsz, hr, hl⟩ := R
  unfold setMerge
  refine wp_if_neg (by rw [beq_iff_eq]; exact Ne.symm hne) ?_
  refine wpAny_bind (wpAny_setState_of ho hd hf ?_)
  dsimp only
  refine wpAny_ite_split (fun c => ?_) fun c => ?_
  · have e0 : es = #[] := Array.isEmpty_iff.mp c
    subst e0
    refine wpAny_pure (hQ s.heap (Heap.SameBut.refl r s.heap) ⟨o2, #[], ep2, _, ho2, hx2, hd2, fun e he => by simp at he, by simp, fun k => ?_, by decide, by rfl, hsz, List.Pairwise.nil, hl2⟩)
    rw [hm k]
  · refine wpAny_bind (room_for ho2 hx2 hd2 hl2 (by rw [hsz]; exact hn) fun h' sb emp => ?_)
    obtain ⟨o3, ep3, t3, M, ho3, hx3, hd3, tp, td, tm, gM, nM, hl3⟩ := emp
    have f3 : t3.fits (#[] : Array (Int × Value)).size = true := by
      unfold SetTable.fits SetTable.fill
      rw [tp, td]
      rfl
    have fill3 : t3.fill = 0 := by unfold SetTable.fill; rw [tp, td]; rfl
    refine wpAny_bind (wpAny_setState_of ho3 hd3 f3 ?_)
    dsimp only
    have done : ∀ (es' : Array (Int × Value)) (t' : SetTable) h2, Heap.SameBut r h' h2 → (∃ o4 ep4, h2.get? r = some o4 ∧ o4.ExactSet ∧ o4.data = .set es' ep4 t') → es'.toList.Perm es.toList → t'.fits es'.size = true → Ris t'.place.toList → (w.params.followText "set-order" = true ∨ t'.led = true) → Q () { s with heap := h2 } := fun es' t' h2 sb2 ⟨o4, ep4, h4, x4, d4⟩ p q1 q2 q3 => by
      have sz : es'.size = es.size := by rw [← Array.length_toList, p.length_eq, Array.length_toList]
      refine hQ h2 (sb.trans sb2) ⟨o4, es', ep4, t', h4, x4, d4, fun e he => g e (p.mem_iff.mp he), (p.map L2.keyOf).nodup_iff.mpr nd, fun k => (hm k).trans (p.map L2.keyOf).mem_iff.symm, by omega, q1, by omega, q2, q3⟩
    have rd : t3.road t = if (t3.mask == t.mask && t.dummies.isEmpty) = true then .slotForSlot else .clean := by
      unfold SetTable.road
      rw [fill3]
      rfl
    rw [rd]
    by_cases c2 : (t3.mask == t.mask && t.dummies.isEmpty) = true
    · rw [if_pos c2]
      dsimp only
      refine wpAny_storeSet_of ho3 hd3 ?_ (fits_of_scanBound hb)
      have ho4 := store_at (es' := es) (t' := { t with finger := t3.finger, led := t3.led && t.led, moves := t3.moves, plain := t3.plain && t.plain }) ho3 hd3
      refine done es _ _ (Heap.SameBut.update h' r _) ⟨_, _, ho4, hx3, rfl⟩ (List.Perm.refl _) ?_ hr ?_
      · exact hf
      · rcases hl3 with z | z
        · exact .inl z
        · rcases hl with y | y
          · exact .inl y
          · refine .inr ?_
            show (t3.led && t.led) = true
            rw [z, y]
            rfl
    · rw [if_neg c2]
      dsimp only
      obtain ⟨t4, order, e4, e5, e6, e7, e8, e9, e10⟩ := laid_ok gM (hs := es.map (·.1)) (by rw [Array.size_map]; exact nM) t3.finger t3.moves (t3.led && t.led) (t3.plain && t.plain)
      rw [tm, e4]
      rw [Array.size_map] at e9 e10
      have p := order_perm e10
      have sz : (order.filterMap (es[·]?)).size = es.size := by rw [← Array.length_toList, p.length_eq, Array.length_toList]
      refine wpAny_bind ?_
      show wpAny _ _ (if ((order.filterMap (es[·]?)).size != es.size) = true then _ else pure (order.filterMap (es[·]?), t4)) _ _ _
      refine wp_if_neg (by rw [sz]; simp) (wpAny_pure ?_)
      dsimp only
      refine wpAny_storeSet_of ho3 hd3 ?_ (by rw [sz]; exact fits_of_scanBound hb)
      have ho4 := store_at (es' := order.filterMap (es[·]?)) (t' := t4) ho3 hd3
      refine done _ _ _ (Heap.SameBut.update h' r _) ⟨_, _, ho4, hx3, rfl⟩ p (by rw [sz]; exact e9) e7 ?_
      rcases hl3 with z | z
      · exact .inl z
      · rcases hl with y | y
        · exact .inl y
        · exact .inr (by rw [e8, z, y]; rfl)
/-- a member flipped: out where it was in, in where it was out -/
theorem setR_flip {k : Int} {tk : Tok} {Q : Unit → Shared → Prop} (R : SetR w s.heap a S n) (room : n + 1 < scanBound)
    (hQ : ∀ h' n', Heap.SameBut a s.heap h' → n' ≤ n + 1 → SetR w h' a (fun j => S j ^^ decide (j = k)) n' → Q () { s with heap := h' }) :
    wpAny (model P w) A (holding [Value.int k tk] (do if !(← setDiscardHashed a (.int k tk) ((intKind P w).hash k)) then let _ ← setAddHashed a (.int k tk) ((intKind P w).hash k))) Q E s := by
  refine wpAny_holding ?_
  refine wpAny_bind (setR_discard R fun h' n' sb hn' hn2 R' => ?_)
  cases c : S k with
  | true =>
    refine wp_if_neg (by decide) (wpAny_pure ?_)
    refine hQ h' n' sb (by omega) (R'.congr fun j => ?_)
    by_cases d : j = k
    · rw [d, c, decide_eq_true rfl]; rfl
    · rw [decide_eq_false d]; cases S j <;> rfl
  | false =>
    refine wp_if_pos (by decide) ?_
    have e := hn2 c
    subst e
    refine wpAny_bind (setR_add_hashed (s := { s with heap := h' }) R' room fun h2 sb2 R2 => wpAny_pure ?_)
    refine hQ h2 _ (sb.trans sb2) ?_ (R2.congr fun j => ?_)
    · split <;> omega
    · by_cases d : j = k
      · rw [d, c, decide_eq_true rfl]; rfl
      · rw [decide_eq_false d]; cases S j <;> rfl
end
end Tw

set_option Elab.async false
set_option linter.all false
set_option maxRecDepth 100000
set_option maxHeartbeats 4000000
namespace Tw
open PySem PySem.Spec PyProof.Rows L2
section
variable {P : Program} {w : World} {A : Around} {E : Value → Shared → Prop} {s : Shared} {a r : Addr} {S T : Int → Bool} {n m : Nat}
theorem flip_loop {id : String} {o : Obj} {es : Array (Int × Value)} {ep : Nat} {t : SetTable} (ho : s.heap.get? a = some o) (hd : o.data = .set es ep t) (hf : t.fits es.size = true) (hne : a ≠ r)
    {ys : Array (Int × Value)} (g : ∀ e ∈ ys.toList, GoodE e) (nd : (ys.toList.map L2.keyOf).Nodup) (R2 : SetR w s.heap r T m) (room : m + ys.size + 1 < scanBound) {Q : PUnit → Shared → Prop}
    (hQ : ∀ h' m', Heap.SameBut r s.heap h' → m' ≤ m + ys.size → SetR w h' r (fun j => T j ^^ decide (j ∈ ys.toList.map L2.keyOf)) m' → Q PUnit.unit { s with heap := h' }) :
    wpAny (model P w) A (forIn ys PUnit.unit fun x __s => match x with
      | (h, x) => do
        (fun h x => holding [x] do
          let __do_lift ← setDiscardHashed r x h
          if (!__do_lift) = true then do
              let _ ← setAddHashed r x h
              pure ()
            else pure ()) h x
        Builtin.Frozenset.unchanged id a ep
        pure (ForInStep.yield PUnit.unit)) Q E s := by
  refine PySem.MeetsSeq2.wpAny_forIn_array _ (fun rest b s' => ∃ done h' m', ys.toList = done ++ rest ∧ s' = { s with heap := h' } ∧ Heap.SameBut r s.heap h' ∧ m' ≤ m + done.length ∧ SetR w h' r (fun j => T j ^^ decide (j ∈ done.map L2.keyOf)) m') _ ?_ ?_ ys _ ⟨[], s.heap, m, rfl, rfl, Heap.SameBut.refl r s.heap, Nat.le_refl _, R2.congr fun j => by simp⟩
  · rintro ⟨h, v⟩ rest b s' ⟨done, h', m', ey, rfl, sb, hm', R'⟩
    have hl : done.length + rest.length + 1 = ys.size := by
      rw [← Array.length_toList, ey, List.length_append, List.length_cons]
      omega
    obtain ⟨k, tk, e1, e2⟩ := g (h, v) (by rw [ey]; exact List.mem_append_right _ (List.mem_cons_self ..))
    have e1 : v = Value.int k tk := e1
    have e2 : h = hashInt k := e2
    subst e1 e2
    have knd : k ∉ done.map L2.keyOf := fun q => by
      rw [ey, List.map_append, List.map_cons] at nd
      exact (List.nodup_append.mp nd).2.2 k q k (List.mem_cons_self ..) rfl
    refine wpAny_bind (setR_flip (s := { s with heap := h' }) R' (by omega) fun h2 m2 sb2 hm2 R2' => ?_)
    have ga : h2.get? a = some o := (sb2.2 a hne).trans ((sb.2 a hne).trans ho)
    refine wpAny_bind ?_
    unfold Builtin.Frozenset.unchanged
    refine wpAny_bind (wpAny_setEpoch_of (s := { s with heap := h2 }) ga hd hf ?_)
    refine wp_if_neg (by simp) (wpAny_pure (wpAny_pure ?_))
    refine ⟨done ++ [(hashInt k, Value.int k tk)], h2, m2, by rw [ey, List.append_assoc]; rfl, rfl, sb.trans sb2, by rw [List.length_append, List.length_singleton]; omega, R2'.congr fun j => ?_⟩
    rw [List.map_append, List.map_cons, List.map_nil]
    have ek : L2.keyOf (hashInt k, Value.int k tk) = k := rfl
    rw [ek]
    by_cases c : j = k
    · subst c
      rw [decide_eq_false knd, decide_eq_true (List.mem_append_right _ (List.mem_singleton.mpr rfl)), decide_eq_true rfl]
      cases T j <;> rfl
    · rw [decide_eq_false c, Bool.xor_false]
      congr 1
      refine decide_eq_decide.mpr ⟨fun q => ?_, fun q => List.mem_append_left _ q⟩
      rcases List.mem_append.mp q with q | q
      · exact q
      · exact absurd (List.mem_singleton.mp q) c
  · rintro b s' ⟨done, h', m', ey, rfl, sb, hm', R'⟩
    rw [List.append_nil] at ey
    rw [ey] at hQ
    have : done.length = ys.size := by rw [← Array.length_toList, ey]
    exact hQ h' m' sb (by omega) R'
theorem flip_all {id : String} (R : SetR w s.heap a S n) (R2 : SetR w s.heap r T m) (hne : a ≠ r) (room : n + m + 1 < scanBound) {Q : Unit → Shared → Prop}
    (hQ : ∀ h' d m', Heap.SameBut r s.heap h' → m' ≤ m + n → SetR w h' r (fun j => T j ^^ S j) m' → Q () { s with heap := h', drawn := d }) :
    wpAny (model P w) A (Builtin.Frozenset.symmetricDifferenceUpdate id r (.ref a)) Q E s := by
  obtain ⟨o, es, ep, t, ho, hex, hd, g, nd, hm, hb, hf, hsz, hr, hl⟩ := (show _ from R)
  obtain ⟨o2, es2, ep2, t2, ho2, hex2, hd2, g2, nd2, hm2, hb2, hf2, hsz2, hr2, hl2⟩ := (show _ from R2)
  have tyA : s.TypeIs (.ref a) "set" := ⟨o, ho, hex.1⟩
  have nums : ∀ es : Array (Int × Value), (∀ e ∈ es.toList, GoodE e) → Nums2 es := fun es g e he => by
    obtain ⟨k, tk, q, _⟩ := g e he
    exact ⟨k, tk, q⟩
  unfold Builtin.Frozenset.symmetricDifferenceUpdate
  refine wp_if_neg (by intro z; exact hne (by simpa using z)) ?_
  dsimp only
  refine wpAny_bind (wpAny_typeOf tyA ?_)
  refine wp_if_neg (by decide) ?_
  refine wpAny_bind ?_
  unfold Builtin.Frozenset.isAnySet
  refine wpAny_bind (wpAny_isInstance (b := true) tyA sub_set_self ?_)
  refine wpAny_pure ?_
  refine wp_if_pos rfl ?_
  refine wpAny_bind (wpAny_pure ?_)
  refine wpAny_bind (wpAny_pure ?_)
  refine wpAny_bind (wpAny_setEpoch_of ho hd hf ?_)
  refine wpAny_holding ?_
  have fin : ∀ (ys : Array (Int × Value)) (s1 : Shared), ys.toList.Perm es.toList → s1.heap.get? a = some o → SetR w s1.heap r T m → (∀ h' m', Heap.SameBut r s1.heap h' → m' ≤ m + n → SetR w h' r (fun j => T j ^^ S j) m' → Q () { s1 with heap := h' }) →
      wpAny (model P w) A (do
        let _ ← forIn ys PUnit.unit fun x __s => match x with
          | (h, x) => do
            (fun h x => holding [x] do
              let __do_lift ← setDiscardHashed r x h
              if (!__do_lift) = true then do
                  let _ ← setAddHashed r x h
                  pure ()
                else pure ()) h x
            Builtin.Frozenset.unchanged id a ep
            pure (ForInStep.yield PUnit.unit)
        pure ()) Q E s1 := fun ys s1 p h1 h2 h3 => by
    have sz : ys.size = n := by rw [← Array.length_toList, p.length_eq, Array.length_toList, hsz]
    refine wpAny_bind (flip_loop h1 hd hf hne (fun e he => g e (p.mem_iff.mp he)) ((p.map L2.keyOf).nodup_iff.mpr nd) h2 (by omega) fun h' m' sb hm' R' => wpAny_pure ?_)
    refine h3 h' m' sb (by omega) (R'.congr fun j => ?_)
    congr 1
    cases c : S j with
    | true => exact (decide_eq_true ((p.map L2.keyOf).mem_iff.mpr ((hm j).mp c))).symm
    | false => exact (decide_eq_false fun q => by rw [(hm j).mpr ((p.map L2.keyOf).mem_iff.mp q)] at c; cases c).symm
  refine wpAny_bind (walk_unseen (f := r) ⟨o, ho, hex.1, hd⟩ hf hl (nums es g) ho2 hex2.1 hd2 hf2 (fits_of_scanBound hb2) (nums es2 g2) (fun ys d p => ?_) fun t3 q1 q2 q3 q4 => ?_)
  · exact fin ys { s with drawn := d } p ho R2 fun h' m' sb hm' R' => hQ h' d m' sb hm' R'
  · have ho3 := store_at (es' := es2) (t' := t3) ho2 hd2
    have sb := Heap.SameBut.update s.heap r (Obj.putSet es2 t3)
    refine fin es { s with heap := s.heap.update r (Obj.putSet es2 t3) } (List.Perm.refl _) ((sb.2 a hne).trans ho) ⟨_, es2, _, t3, ho3, hex2, rfl, g2, nd2, hm2, hb2, ?_, hsz2, by rw [q1]; exact hr2, ?_⟩ fun h' m' sb2 hm' R' => hQ h' s.drawn m' (sb.trans sb2) hm' R'
    · unfold SetTable.fits SetTable.fill at hf2 ⊢
      rw [q1, q2, q3]
      exact hf2
    · rcases hl2 with z | z
      · exact .inl z
      · cases bt : w.params.followText "set-order" with
        | true => exact .inl rfl
        | false => exact .inr (q4 z bt)
end
end Tw

set_option Elab.async false
set_option linter.all false
set_option maxRecDepth 100000
set_option maxHeartbeats 4000000
namespace Tw
open PySem PySem.Spec PyProof.Rows L2
theorem xor_run (args : Args) : Builtin.«frozenset.__xor__» args = (do
    let (self, other) ← Builtin.Frozenset.slot1 "__xor__" args
    if !(← Builtin.Frozenset.isAnySet self <&&> Builtin.Frozenset.isAnySet other) then
      rule s!"frozenset.{"__xor__"}.declined"
      return ← PySem.ret .notImplemented
    let la ← Builtin.Frozenset.addrOf self
    let v ← (do
      let result ← Builtin.Frozenset.newFrom s!"frozenset.{"__xor__"}" (← Builtin.Frozenset.baseOf la) other
      holding [result] (Builtin.Frozenset.symmetricDifferenceUpdate s!"frozenset.{"__xor__"}" (← Builtin.Frozenset.addrOf result) (.ref la))
      return result)
    PySem.ret v) := rfl
theorem entry_xor : entryFor table "set.__xor__" = some Builtin.«frozenset.__xor__» :=
  entryFor_alias (id' := "frozenset.__xor__") (by kernel_rfl) rfl (by decide +kernel) (by kernel_rfl)
section
variable {P : Program} {w : World} {A : Around} {E : Value → Shared → Prop} {s : Shared} {a b : Addr} {S T : Int → Bool} {n m : Nat}
theorem new_from {id : String} (R : SetR w s.heap b T m) (hm : m ≤ 250) {Q : Value → Shared → Prop}
    (hQ : ∀ h', (∀ c o, s.heap.get? c = some o → h'.get? c = some o) → SetR w h' s.heap.objs.size T m → Q (.ref s.heap.objs.size) { s with heap := h' }) :
    wpAny (model P w) A (Builtin.Frozenset.newFrom id (.type "set") (.ref b)) Q E s := by
  obtain ⟨o, es, ep, t, ho, hex, hd, g, nd, hmm, hb, hf, hsz, hr, hl⟩ := (show _ from R)
  unfold Builtin.Frozenset.newFrom newSet
  refine wpAny_bind ?_
  refine wpAny_bind (wpAny_byText ?_)
  dsimp only
  refine wpAny_newObj_type ?_
  have frs := setR_fresh (h := s.heap) w
  refine wpAny_bind (wpAny_pure ?_)
  refine wpAny_bind (wpAny_holding ?_)
  have lt : b < s.heap.objs.size := Heap.lt_size ho
  have hne : b ≠ s.heap.objs.size := Nat.ne_of_lt lt
  have there : (s.heap.push (bareSet w)).get? s.heap.objs.size = some (bareSet w) := Heap.get?_push_size _ rfl
  have R2 : SetR w (s.heap.push (bareSet w)) b T m := R.at fun o e => Heap.get?_push_of_some _ e
  have ob := Heap.get?_push_of_some (bareSet w) ho
  have tyB : Shared.TypeIs { s with heap := s.heap.push (bareSet w) } (.ref b) "set" := ⟨o, ob, hex.1⟩
  unfold Builtin.Frozenset.updateFrom
  refine wpAny_bind ?_
  unfold Builtin.Frozenset.isAnySet
  refine wpAny_bind (wpAny_isInstance (b := true) tyB sub_set_self ?_)
  refine wpAny_pure ?_
  refine wp_if_pos rfl ?_
  refine wpAny_bind (wpAny_pure ?_)
  unfold Builtin.Frozenset.merge
  refine wpAny_bind (wpAny_setEpoch_of (s := { s with heap := s.heap.push (bareSet w) }) ob hd hf ?_)
  refine merge_into (s := { s with heap := s.heap.push (bareSet w) }) ⟨bareSet w, _, 0, there, ⟨rfl, rfl, rfl⟩, rfl, ?_⟩ R2 hm hne fun h' sb R3 => ?_
  · show _ ∨ (!w.params.followText "set-order") = true
    cases w.params.followText "set-order"
    · exact .inr rfl
    · exact .inl rfl
  · refine wpAny_pure (hQ h' (fun c o2 e => ?_) R3)
    have lc : c ≠ s.heap.objs.size := Nat.ne_of_lt (Heap.lt_size e)
    exact (sb.2 c lc).trans (Heap.get?_push_of_some _ e)
/-- a ^ b of two sets of numbers -/
theorem xor_sets (R : SetR w s.heap a S n) (R2 : SetR w s.heap b T m) (hn : n ≤ 250) (hm : m ≤ 250) {Q : Value → Shared → Prop}
    (hQ : ∀ h' d k, (∀ c o, s.heap.get? c = some o → h'.get? c = some o) → SetR w h' s.heap.objs.size (fun j => T j ^^ S j) k → Q (.ref s.heap.objs.size) { s with heap := h', drawn := d }) :
    wpAny (model P w) A (binaryOp .BitXor (.ref a) (.ref b)) Q E s := by
  have tyA : s.TypeIs (.ref a) "set" := by
    obtain ⟨o, es, ep, t, ho, hex, _⟩ := R
    exact ⟨o, ho, hex.1⟩
  have tyB : s.TypeIs (.ref b) "set" := by
    obtain ⟨o, es, ep, t, ho, hex, _⟩ := R2
    exact ⟨o, ho, hex.1⟩
  refine wpAny_binaryOp_same (id := "set.__xor__") tyA tyB F.fills_set_xor F.slot_set_xor ?_
  refine wpAny_call_entry F.slot_set_xor tyA entry_xor ?_ (F.args_set_xor_2 _ _)
  rw [xor_run]
  refine wpAny_bind (m := Builtin.Frozenset.slot1 "__xor__" _) (wpAny_of_eq (a := (.ref a, .ref b)) (by rfl) ?_)
  dsimp only
  refine wpAny_bind ?_
  unfold Builtin.Frozenset.isAnySet
  refine wpAny_bind (wpAny_bind (wpAny_isInstance (b := true) tyA sub_set_self (wpAny_pure ?_)))
  show wpAny _ _ (isInstance (Value.ref b) (Value.type "set") <||> isInstance (Value.ref b) (Value.type "frozenset")) _ _ _
  refine wpAny_bind (wpAny_isInstance (b := true) tyB sub_set_self (wpAny_pure ?_))
  refine wp_if_neg (by decide) ?_
  refine wpAny_bind (wpAny_pure ?_)
  refine wpAny_bind ?_
  refine wpAny_bind ?_
  unfold Builtin.Frozenset.baseOf
  refine wpAny_bind (wpAny_isInstance (b := true) tyA sub_set_self (wpAny_pure ?_))
  refine wpAny_bind (new_from R2 hm fun h' keep R3 => ?_)
  refine wpAny_bind (wpAny_pure ?_)
  have lt : a < s.heap.objs.size := R.lt
  have Ra : SetR w h' a S n := R.at fun o e => keep a o e
  refine wpAny_bind (wpAny_holding (flip_all (s := { s with heap := h' }) Ra R3 (Nat.ne_of_lt lt) (by unfold scanBound; omega) fun h2 d m' sb _ R4 => wpAny_pure ?_))
  show wpAny _ _ (PySem.ret (Value.ref s.heap.objs.size)) _ _ _
  refine wpAny_pure ⟨_, rfl, by simp, hQ h2 d m' (fun c o e => ?_) R4⟩
  have lc : c ≠ s.heap.objs.size := Nat.ne_of_lt (Heap.lt_size e)
  exact (sb.2 c lc).trans (keep c o e)
end
end Tw

set_option Elab.async false
set_option linter.all false
set_option maxRecDepth 100000
set_option maxHeartbeats 4000000
namespace Tw
open PySem PySem.Spec PyProof.Rows L2
open Evl (Ex)
section
variable {P : Program} {w : World} {A : Around} {E : Value → Shared → Prop} {s : Shared}
/-- set(xs): the set whose order is known of, its members those of xs -/
theorem set_of_tuple {l : Addr} {items : Array Value} (ns : List Int) {Q : Value → Shared → Prop} (hh : A.handled = none) (hl : s.heap.IsTuple l items) (hi : IntsAre items.toList ns) (hb : ns.length + 1 < scanBound)
    (fin : ∀ (h' : Heap) (tk c : Nat), SetR w h' s.heap.objs.size (fun j => decide (j ∈ ns)) c → c ≤ ns.length → (∀ b o, s.heap.get? b = some o → h'.get? b = some o) → Q (.ref s.heap.objs.size) { s with heap := h', toks := tk }) :
    wpAny (model P w) A (call (.type "set") [.ref l]) Q E s := by
  have many : items.size = ns.length := (Array.length_toList (xs := items)).symm.trans (IntsAre.length hi)
  obtain ⟨_, _, mro⟩ := F.called_set.mro
  have k1 := F.called_set.made
  have k2 := F.called_set.sub
  have k3 := F.called_set.notType
  have k4 := F.called_set.canCreate
  have k5 := F.typeCall_set_1 (.ref l)
  refine wpAny_call (codeAny_of_tree (show wpAny _ _ (callAny (.type "set") _) _ _ _ from wpAny_pure ⟨Code.quiet_builtin _ (by decide +kernel), codeAny_builtin F.entry_type_call ?_⟩))
  rw [Around.under_plain (weight_type_call_type "set" [.ref l] []) rfl]
  repeat (any_goals (first | assumption | wp_step))
  refine codeAny_mono (code_set_led1 (.ref l) (E := E) (Q₁ := fun v t => v = .ref s.heap.objs.size ∧ t = { s with heap := s.heap.push (bareSet w) }) ⟨rfl, rfl⟩) fun r t hr => ?_
  match r, hr with
  | .error _, hr => exact hr
  | .ok (.ret v), hr =>
    obtain ⟨rfl, rfl⟩ := hr
    have there : (s.heap.push (bareSet w)).get? s.heap.objs.size = some (bareSet w) := Heap.get?_push_size _ rfl
    have ty : Shared.TypeIs { s with heap := s.heap.push (bareSet w) } (.ref s.heap.objs.size) "set" := ⟨_, there, rfl⟩
    have k6 := F.called_set.init.lookup
    have k7 := F.called_set.init.bind (.ref s.heap.objs.size)
    repeat (any_goals (first | assumption | wp_step))
    have run : codeAny (model P w) A.in1 (.call (.builtin "set.__init__") ⟨[.ref s.heap.objs.size, .ref l], []⟩) (wants (fun r t => r = .none ∧ ∃ h' tk c, t = { s with heap := h', toks := tk } ∧
        SetR w h' s.heap.objs.size (fun j => decide (j ∈ ns)) c ∧ c ≤ ns.length ∧ ∀ b o, s.heap.get? b = some o → h'.get? b = some o) E) { s with heap := s.heap.push (bareSet w) } := by
      refine codeAny_call_builtin F.called_set.init.plain F.entry_set_init (check_set_init_1 ty ?_)
      obtain ⟨⟨cl, di, da, sl⟩, o1, o2, nl, o3⟩ := hl
      replace o2 : cl = .type "tuple" := o2
      replace o3 : da = .seq items nl := o3
      subst o2 o3
      have o4 : (s.heap.push (bareSet w)).get? l = some { cls := .type "tuple", dict := di, data := .seq items nl, slots := sl } := Heap.get?_push_of_some _ o1
      have o5 : (s.heap.push (bareSet w)).IsTuple l items := ⟨_, o4, rfl, nl, rfl⟩
      have j1 := F.sub_tuple_set
      have j2 := F.sub_tuple_frozenset
      have j3 : (Value.type "tuple" == Value.type "dict") = false := by decide
      unfold Builtin.«set.__init__» noKeywords Builtin.Frozenset.updateFrom
      generalize hPI : pyIter = PI
      wp_walk
      subst hPI
      refine wpAny_pyIter_tuple o5 (wpAny_bind (wpAny_runValue ?_))
      have low : l < s.heap.objs.size := Heap.lt_size o1
      have sz : (s.heap.push (bareSet w)).objs.size = s.heap.objs.size + 1 := Heap.size_push ..
      have ne1 : l ≠ (s.heap.push (bareSet w)).objs.size := by rw [sz]; exact Nat.ne_of_lt (Nat.lt_succ_of_lt low)
      have ne2 : s.heap.objs.size ∉ [(s.heap.push (bareSet w)).objs.size, l] := by
        rw [sz]
        simp only [List.mem_cons, List.not_mem_nil, or_false, not_or]
        exact ⟨Nat.ne_of_lt (Nat.lt_succ_self _), Nat.ne_of_gt low⟩
      have val : ∀ (i : Nat) (v : Value), items[i]? = some v → ∃ k t, ns[i]? = some k ∧ v = .int k t := fun i v hv => by
        have hlt : i < ns.length := many ▸ (Array.getElem?_eq_some_iff.mp hv).1
        obtain ⟨t, e⟩ := PyProof.Rows.IntsAre.int_at hi i v (by rw [Array.getElem?_toList]; exact hv)
        rw [List.getD_eq_getElem?_getD, List.getElem?_eq_getElem hlt] at e
        exact ⟨ns[i], t, List.getElem?_eq_getElem hlt, e⟩
      have h3 : A.in1.in1.in1.handled = none := by simp [hh]
      refine set_update_ints ((Walks.tuple h3 _ l ne1 items).toS) s.heap.objs.size ne2 ns many hb val (items.size - 0) 0 _ (by omega) (Nat.zero_le _)
        ⟨⟨_, Heap.get?_push_size _ rfl, rfl, rfl⟩, o5.push _⟩ ⟨0, Nat.le_refl 0, ?h0⟩ fun t c' mv hc' hS => ?_
      case h0 => exact setR_new_at (Heap.get?_push_of_some _ there)
      obtain ⟨h', g2, d', tk', os'⟩ := t
      obtain rfl : g2 = s.gens := mv.gens
      obtain rfl : d' = s.drawn := mv.drawn
      obtain rfl : os' = s.os := mv.os
      show wpAny _ _ _ _ _ _
      refine wpAny_pure ?_
      show wpAny _ _ (PySem.ret Value.none) _ _ _
      refine wpAny_pure ⟨rfl, h', tk', c', rfl, hS, many ▸ hc', fun b o e => ?_⟩
      have lt := Heap.lt_size e
      exact mv.heap b o (by rw [sz]; simp only [List.mem_cons, List.not_mem_nil, or_false, not_or]; exact ⟨Nat.ne_of_lt lt, Nat.ne_of_lt (Nat.lt_succ_of_lt lt)⟩) (Heap.get?_push_of_some _ (Heap.get?_push_of_some _ e))
    refine codeAny_mono run fun r2 t2 hr2 => ?_
    match r2, hr2 with
    | .error _, hr2 => exact hr2
    | .ok (.ret _), hr2 =>
      obtain ⟨rfl, h', tk, c', rfl, hS, hc', hk⟩ := hr2
      repeat (any_goals (first | assumption | wp_step))
      exact fin _ _ _ hS hc' hk
    | .ok .next, hr2 => exact hr2.elim
    | .ok .brk, hr2 => exact hr2.elim
    | .ok .cont, hr2 => exact hr2.elim
  | .ok .next, hr => exact hr.elim
  | .ok .brk, hr => exact hr.elim
  | .ok .cont, hr => exact hr.elim
end
def xorI (ns ms : List Int) : List Int := usort (ns.filter (fun x => !decide (x ∈ ms)) ++ ms.filter fun x => !decide (x ∈ ns))
theorem mem_xorI {ns ms : List Int} {x : Int} : x ∈ xorI ns ms ↔ (decide (x ∈ ms) ^^ decide (x ∈ ns)) = true := by
  unfold xorI
  rw [mem_usort, List.mem_append, List.mem_filter, List.mem_filter]
  by_cases a : x ∈ ns <;> by_cases b : x ∈ ms <;> simp [a, b]
theorem pinN {X : Cx} {pins : List (Addr × Obj)} {σ : L2.St} {H : Hp} {s : Shared} {o : Obj} {h' : Heap} {a : Addr} {t' : Nat} (I : Inv X pins σ H s) (k : ∀ b u, s.heap.get? b = some u → h'.get? b = some u) (ha : s.heap.objs.size ≤ a) (ho : h'.get? a = some o) (hc : ∀ v, o.data ≠ .cell v) :
    Inv X ((a, o) :: pins) σ H { s with heap := h', toks := t' } := by
  have I1 := I.kept (t' := t') k
  refine I1.pins_of fun p hp => ?_
  rcases List.mem_cons.mp hp with e | e
  · subst e
    exact ⟨ho, I.hok.fresh ha, Nat.ne_of_gt (Nat.lt_of_lt_of_le I.lt ha), I.nofs ha, hc⟩
  · exact I1.pin p (List.mem_append_right _ e)
theorem drawnI {X : Cx} {pins : List (Addr × Obj)} {σ : L2.St} {H : Hp} {s : Shared} {d : Drawn} (I : Inv X pins σ H s) : Inv X pins σ H { s with drawn := d } :=
  ⟨I.ok, I.os, I.bare, I.base, I.loc, I.cell, I.free, I.freeC, I.pin, I.hok, I.len⟩
section
variable {X : Cx} {a b : Expr} {ta tb : TE} {bb : Bool} {fa fb : FE PyData}
def tSortXor (K : PySem.W.Frag) (ta tb : TE) : TE := fun σ H Q => ta σ H fun x H1 => ∃ (l : Addr) (ns : List Int), x = .ref l ∧ SqT K H1 l (ns.map V.int) ∧ ns.length ≤ 250 ∧ tb σ H1 fun y H2 => ∃ (l2 : Addr) (ms : List Int), y = .ref l2 ∧ SqL K H2 l2 (ms.map V.int) ∧ ms.length ≤ 250 ∧ ∀ p, H2 p = none → Q (.ref p) (upd H2 p (.lst ((xorI ns ms).map V.int)))
theorem pe_sortXor {p p2 p3 q q2 bp pos : Pos} (hc : X.calm = true) (hg : Gl X "sorted") (hm : X.mg "sorted" = none) (hg2 : Gl X "set") (hm2 : X.mg "set" = none) (ha : PE X a ta) (hb : PE X b tb)
    (na : starEach [a] X.env = (false, eval a X.env) :: starEach [] X.env := by rfl) (nb : starEach [b] X.env = (false, eval b X.env) :: starEach [] X.env := by rfl) :
    PE X (.Call (.Name "sorted" p) [.BinOp (.Call (.Name "set" p2) [a] [] q) .BitXor (.Call (.Name "set" p3) [b] [] q2) bp] [] pos) (tSortXor X.K ta tb) := ⟨fun pins s σ H Q I h => by
  refine Call_ (ld_blt I hg hm boot_sorted (PyProof.Rows.callWith_builtin1 (PyProof.Rows.args_cons ?_ rfl) rfl rfl))
  refine wpAny_BinOp ?_
  refine Call_ (ld_blt I hg2 hm2 boot_set (PyProof.Rows.callWith_type1 (PyProof.Rows.args_cons (thn (ha.run pins s σ H _ I h) fun v s1 hz => PyProof.Rows.args_nil ?_) na) na rfl))
  obtain ⟨x, H1, I1, r1, l, ns, rfl, hq, hl, k⟩ := hz
  cases r1
  obtain ⟨its, r, pl, _⟩ := I1.tuple hq
  refine set_of_tuple ns (I1.ok.hd hc) (show s1.heap.IsTuple l its.toArray from pl) (by simpa using RZ.intsAre_vals r) (by unfold scanBound; omega) fun h' tk c R hc' keep => ?_
  obtain ⟨op, es, ep, t, hop, hex, hdp, rest⟩ := (show _ from R)
  have I2 : Inv X ((s1.heap.objs.size, op) :: pins) σ H1 { s1 with heap := h', toks := tk } := pinN I1 keep (Nat.le_refl _) hop (fun v z => by rw [hdp] at z; cases z)
  refine Call_ (ld_blt I2 hg2 hm2 boot_set (PyProof.Rows.callWith_type1 (PyProof.Rows.args_cons (thn (hb.run _ _ σ H1 _ I2 k) fun v2 s2 hz2 => PyProof.Rows.args_nil ?_) nb) nb rfl))
  obtain ⟨y, H2, I3, r2, l2, ms, rfl, hq2, hl2, k2⟩ := hz2
  cases r2
  obtain ⟨its2, r3, pl2, _⟩ := I3.list hq2
  have gp := (I3.pin (s1.heap.objs.size, op) (List.mem_append_right _ (List.mem_cons_self ..))).1
  refine set_of_list ms (I3.ok.hd hc) pl2.isList (by simpa using RZ.intsAre_vals r3) (by unfold scanBound; omega) fun h2 tk2 c2 R2 hc2 keep2 => ?_
  have Rp : SetR X.w h2 s1.heap.objs.size (fun j => decide (j ∈ ns)) c := R.at fun o e => by
    rw [hop] at e
    cases e
    exact keep2 _ _ gp
  refine xor_sets (s := { s2 with heap := h2, toks := tk2 }) Rp R2 (by omega) (by omega) fun h3 d3 c3 keep3 R3 => ?_
  refine PyProof.Rows.args_nil ?_
  have I4 : Inv X ((s1.heap.objs.size, op) :: pins) σ H2 { s2 with heap := h2, toks := tk2 } := I3.kept keep2
  have I5 : Inv X ((s1.heap.objs.size, op) :: pins) σ H2 { ({ s2 with heap := h2, toks := tk2 } : Shared) with heap := h3, drawn := d3 } := drawnI (I4.kept (t' := tk2) keep3)
  have I6 : Inv X pins σ H2 { ({ s2 with heap := h2, toks := tk2 } : Shared) with heap := h3, drawn := d3 } := I5.pins_of fun p hp => I5.pin p (List.mem_append_right _ (List.mem_cons_of_mem _ hp))
  refine sorted_of_set R3 (I6.ok.hd hc) fun t p out c' ns' kp g o hp hgp hi up hm' hl' => ?_
  have eu : ns' = xorI ns ms := up_one up (usort_up _) fun x => by
    rw [hm' x]
    exact mem_xorI.symm
  subst eu
  have room : ((xorI ns ms).map V.int).length ≤ sizeLine := by
    rw [List.length_map, hl', sizeLine_eq]
    have : SetR X.w h3 h2.objs.size (fun j => decide (j ∈ ms) ^^ decide (j ∈ ns)) c3 := R3
    obtain ⟨_, es3, _, _, _, _, _, _, _, _, hb3, _, hsz3, _⟩ := this
    have : scanBound = 4096 := rfl
    omega
  have fresh : H2 p = none := I6.hok.fresh hp
  have J : Inv X pins σ (upd H2 p (.lst ((xorI ns ms).map V.int))) { ({ ({ s2 with heap := h2, toks := tk2 } : Shared) with heap := h3, drawn := d3 } : Shared) with heap := t.heap, gens := t.gens, drawn := t.drawn, toks := t.toks } :=
    I6.call (ch := []) (Un.laid kp hp fresh) (I6.hok.laid kp hp ⟨room, out.toList, c', vals_of_ints hi, hgp⟩) (by rw [g]; exact I6.bare) (fun _ z => nomatch z)
  have e : t = { ({ ({ s2 with heap := h2, toks := tk2 } : Shared) with heap := h3, drawn := d3 } : Shared) with heap := t.heap, gens := t.gens, drawn := t.drawn, toks := t.toks } := by
    cases t
    cases s2
    cases o
    rfl
  rw [e]
  exact ⟨.ref p, _, J, rfl, k2 p fresh⟩⟩
def sxD : PyData → PyData → Option PyData
  | .tuple ds, .list es => (numsOf ds).bind fun ns => (numsOf es).bind fun ms => if ns.length ≤ 250 ∧ ms.length ≤ 250 then some (.list ((xorI ns ms).map .int)) else none
  | _, _ => none
theorem e_sortXor {p p2 p3 q q2 bp pos : Pos} (hc : X.calm = true) (hg : Gl X "sorted") (hm : X.mg "sorted" = none) (hg2 : Gl X "set") (hm2 : X.mg "set" = none) (ha : PE X a (tE X.K bb fa)) (hb : PE X b (tE X.K bb fb))
    (na : starEach [a] X.env = (false, eval a X.env) :: starEach [] X.env := by rfl) (nb : starEach [b] X.env = (false, eval b X.env) :: starEach [] X.env := by rfl) :
    PE X (.Call (.Name "sorted" p) [.BinOp (.Call (.Name "set" p2) [a] [] q) .BitXor (.Call (.Name "set" p3) [b] [] q2) bp] [] pos) (tE X.K bb (fBin sxD fa fb)) :=
  PE.weak (pe_sortXor hc hg hm hg2 hm2 ha hb na nb) fun σ H Q ⟨G, ρ, d, ρ', E, ef, k⟩ => by
    obtain ⟨x, ρ1, h1, h2⟩ := thnE_of ef
    obtain ⟨y, ρ2, h3, h4⟩ := thnE_of h2
    obtain ⟨h5, rfl⟩ := liftO_of h4
    unfold sxD at h5
    split at h5
    case h_2 => cases h5
    rename_i ds es
    obtain ⟨ns, e1, h6⟩ := Option.bind_eq_some_iff.mp h5
    obtain ⟨ms, e2, h7⟩ := Option.bind_eq_some_iff.mp h6
    obtain ⟨⟨l1, l2⟩, rfl⟩ := ite_p h7
    refine ⟨G, ρ, _, ρ1, E, h1, fun v G1 H1 t1 o1 E1 d1 => ?_⟩
    obtain ⟨a1, xs, rfl, hx, dx⟩ := dt_tup d1
    have ex := nums_da dx e1
    subst ex
    refine ⟨a1, ns, rfl, Evl.ex_t E1.ex hx, l1, ?_⟩
    refine ⟨G1, ρ1, _, ρ', E1, h3, fun u G2 H2 t2 o2 E2 d2 => ?_⟩
    obtain ⟨b1, ys, rfl, hy, dy⟩ := dt_list d2
    have ey := nums_da dy e2
    subst ey
    refine ⟨b1, ms, rfl, (hy.mono E2.ex).sq, l2, fun p hp => ?_⟩
    have t : Tr nobody G2 H2 (upd G2 p (.lst ((xorI ns ms).map V.int))) (upd H2 p (.lst ((xorI ns ms).map V.int))) := Tr.new hp E2.ex
    exact k _ _ _ ((t1.seq o1 t2).trans t fun _ _ _ q => q.elim) (fun l q => o1 l (o2 l q)) (E2.tr t (ex_upd E2.ex)) (.ll (RL.of upd_same) (Da.ints (xorI ns ms)))
end
end Tw

set_option Elab.async false
set_option linter.all false
set_option maxRecDepth 100000
set_option maxHeartbeats 2000000
namespace Tw
open PySem PySem.Spec PyProof.Rows L2
open Evl (Ex)
/-! ### a place of a list of one's own, its place by whatever changes other things: xs[f(..)] -/
def fIxOwn (i : Nat) (fb : FE PyData) : FE PyData := fun ρ => match ρ[i]? with
  | some (.m (.l _)) => (fb ρ).bind fun p => match p.2[i]? with
    | some (.m (.l ms)) => (match p.1 with
      | .int j => atI ms j
      | _ => none).map fun d => (d, p.2)
    | _ => none
  | _ => none
theorem e_ixOwn {X : Cx} {a b : Expr} {pos : Pos} {fb : FE PyData} (i : Nat) (ha : PE X a (tVar i)) (hb : PE X b (tE X.K true fb)) (hs : PlainIx b) :
    PE X (.Subscript a b pos) (tE X.K true (fIxOwn i fb)) := PE.weak (pe_ix ix_seqB ha hb hs) fun σ H Q ⟨G, ρ, d, ρ', E, ef, k⟩ => by
  unfold fIxOwn at ef
  split at ef
  case h_2 => cases ef
  rename_i ms hi
  obtain ⟨⟨y, ρ1⟩, h1, h2⟩ := Option.bind_eq_some_iff.mp ef
  dsimp only at h2
  split at h2
  case h_2 => cases h2
  rename_i ms1 hk
  obtain ⟨z, h3, h4⟩ := Option.map_eq_some_iff.mp h2
  cases h4
  obtain ⟨l, xs, e1, e2, e3, e4⟩ := E.muL hi
  refine ⟨.ref l, e1, G, ρ, y, ρ', E, h1, fun u G1 H1 t1 o1 E1 d1 => ?_⟩
  obtain ⟨l1, xs1, f1, f2, f3, f4⟩ := E1.muL hk
  rw [e1] at f1
  cases f1
  split at h3
  case h_2 => cases h3
  obtain ⟨v, hv, dv⟩ := atI_da f4 h3
  refine .inl (.inl ⟨l, xs1, _, v, rfl, dt_int d1, .inl (Rd.of f3), hv, k v G1 H1 t1 o1 E1 dv⟩)
end Tw

set_option Elab.async false
set_option linter.all false
set_option maxRecDepth 100000
set_option maxHeartbeats 4000000
open PySem PySem.Spec PyProof.Rows L2
namespace Tw
section
variable {X : Cx} {K : PySem.W.Frag}
/-- a tuple some times -/
def rRepP (K : PySem.W.Frag) : R2 := fun x y H Q => ∃ l k xs, x = .ref l ∧ y = .int k ∧ SqT K H l xs ∧ xs ≠ [] ∧ 2 ≤ k ∧ k ≤ 1000 ∧ xs.length ≤ 1000 ∧ NewT H Q (List.replicate k.toNat xs).flatten
theorem op_repP : OpR X (binaryOp .Mult) (rRepP X.K) := by
  intro pins s σ H x y v u Q I rx ry h
  obtain ⟨l, k, xs, rfl, rfl, hT, hne, h1, h2, hz, q⟩ := h
  cases rx
  obtain ⟨t, rfl⟩ := ry
  obtain ⟨its, r, ⟨⟨cls, dd, data, sl⟩, ho, hc, n, hd⟩, hs⟩ := I.tuple hT
  simp only at hc hd
  subst hc hd
  have hle : its.length = xs.length := r.length.symm
  have hn : its ≠ [] := fun e => hne (by
    rw [e] at hle
    exact List.eq_nil_of_length_eq_zero hle.symm)
  have hi : its.toArray.isEmpty = false := by
    cases its with
    | nil => exact absurd rfl hn
    | cons a b => rfl
  have hsz0 : its.toArray.size = xs.length := by rw [List.size_toArray, hle]
  have hm : ((its.toArray.size : Nat) : Int) * k ≤ 1000000 := by
    rw [hsz0]
    have a1 : ((xs.length : Nat) : Int) * k ≤ 1000 * k := Int.mul_le_mul_of_nonneg_right (by omega) (by omega)
    omega
  have flen : (List.replicate k.toNat its).flatten.length ≤ sizeLine := by
    rw [PyProof.Rows.lm_len_rep_flat, hle, sizeLine_eq]
    have a1 : k.toNat * xs.length ≤ 1000 * 1000 := Nat.mul_le_mul (by omega) hz
    omega
  have c0 : (decide (k < -(2 ^ 63)) || decide (k ≥ 2 ^ 63)) = false := by
    rw [decide_eq_false (by omega), decide_eq_false (by omega)] <;> rfl
  have c1 : (its.toArray.isEmpty || k == 1) = false := by
    rw [hi, Bool.false_or]
    exact beq_eq_false_iff_ne.mpr (by omega)
  have c2 : (decide (k ≤ 0) || its.toArray.isEmpty) = false := by
    rw [hi, Bool.or_false]
    exact decide_eq_false (by omega)
  have c4 : Builtin.Tuple.tupleTooMany (((its.toArray.size : Nat) : Int) * k) = false := by
    unfold Builtin.Tuple.tupleTooMany
    rw [sizeLine_eq]
    exact decide_eq_false (by omega)
  refine wpAny_binaryOp_repeat_ref (T := "tuple") (U := "int") (by decide) ⟨_, ho, rfl⟩ (fun s' => typeIs_int s' k t) noFill_tuple_mul F.fills_int_mul F.slot_int_rmul repeat_tuple F.slot_int_index.lookup
    (call_meets F.slot_int_rmul (typeIs_int s k t) F.entry_int_rmul (F.args_int_rmul_2 _ _) (int_rmul_tuple k t l its.toArray n dd sl)
      ⟨ho, rfl, ⟨_, ho, rfl⟩, call_meets F.slot_tuple_mul ⟨_, ho, rfl⟩ F.entry_tuple_mul (F.args_tuple_mul_2 _ _) (tuple_mulW l its.toArray n dd sl k t c0 c1 c2 (by omega) c4 (by rw [size_rep, List.size_toArray]; exact flen)) ⟨ho, ?_⟩⟩)
  rw [size_rep]
  refine newT I ?_ (r.rep k.toNat) q
  rw [PyProof.Rows.lm_len_rep_flat, sizeLine_eq]
  have a1 : k.toNat * xs.length ≤ 1000 * 1000 := Nat.mul_le_mul (by omega) hz
  omega
def repT : PyData → PyData → Option PyData
  | .tuple ds, .int k => if ds ≠ [] ∧ 2 ≤ k ∧ k ≤ 1000 ∧ ds.length ≤ 1000 then some (.tuple (List.replicate k.toNat ds).flatten) else none
  | _, _ => none
theorem d_repT : OpD K (rRepP K) repT := fun G H x y d e z Q ex hd he hz k => by
  unfold repT at hz
  split at hz
  · next ds i =>
    obtain ⟨⟨h0, h1, h2, h3⟩, rfl⟩ := ite_p hz
    obtain ⟨a, xs, rfl, hx, dx⟩ := dt_tup hd
    refine ⟨a, _, xs, rfl, dt_int he, Evl.ex_t ex hx, fun e0 => ?_, h1, h2, by rw [dx.len]; exact h3, fun p o hp ho => ?_⟩
    · subst e0
      cases dx
      exact h0 rfl
    · have t : Tr nobody G H (upd G p (.frz o (.tup (List.replicate i.toNat xs).flatten))) (upd H p (.frz o (.tup (List.replicate i.toNat xs).flatten))) := Tr.new hp ex
      exact k _ _ _ t (ex_upd ex) (.tt (PTu.new ho) ((dx.rep _).mono t.g))
  · cases hz
/-- the call of a function that takes nothing -/
theorem call_G0 {k : Nat} {f : Addr} {fd : FuncData} {ps : List Str} {sp : Sp} {x : Str} {p pos : Pos} (F : FnG X.prog X.w X.K X.mg X.base k f fd ps sp) (hh : Here k X) (hg : Gl X x) (hm : X.mg x = some (.ref f)) (hk : PySem.W.keepIn X.K (.ref f) = true) (hb : Binds X.K fd ps [])
    (hdb : (x == ("__debug__" : Str)) = false := by decide) : PE X (.Call (.Name x p) [] [] pos) (fun σ H Q => sp [] H Q E0) := ⟨fun pins s σ H Q I q => by
  refine wpAny_Call_Name_kw (ld_glob I hg hm ?_ hdb)
  refine PySem.W.callWith_K0 I.kIn hk ?_
  have hl := F.len _ _ _ _ q
  have bd := hb s [] I.kIn hl
  refine wpAny_call (codeAny_mono (F.run X.A hh.g hh.r X.stack s H ⟨[], []⟩ [] [] Q I.env0 bd .nil q) fun rr s2 hq => ?_)
  match rr, hq with
  | .ok (.ret _), hq => exact I.after hq
  | .ok .next, hq => exact False.elim hq
  | .ok .brk, hq => exact False.elim hq
  | .ok .cont, hq => exact False.elim hq
  | .error _, hq => exact False.elim hq⟩
theorem e_callP0 {k : Nat} {f : Addr} {fd : FuncData} {ps : List Str} {x : Str} {p pos : Pos} {bb : Bool} {g : List PyData → Option PyData} (F : FnG X.prog X.w X.K X.mg X.base k f fd ps (spP X.K 0 g)) (hh : Here k X) (hg : Gl X x) (hm : X.mg x = some (.ref f)) (hk : PySem.W.keepIn X.K (.ref f) = true) (hb : Binds X.K fd ps [])
    (hdb : (x == ("__debug__" : Str)) = false := by decide) : PE X (.Call (.Name x p) [] [] pos) (tE X.K bb (fCall (lenIs 0 g) fNil)) := PE.weak (call_G0 F hh hg hm hk hb hdb) fun σ H Q ⟨G, ρ, d, ρ', E, ef, kk⟩ => by
  obtain ⟨x1, ρ1, h1, h2⟩ := thnE_of ef
  obtain ⟨h5, rfl⟩ := liftO_of h2
  obtain ⟨rfl, rfl⟩ := ret_of h1
  exact ⟨G, [], d, E.ex, .nil, rfl, h5, fun v G' H' t x3 dt => kk v G' H' (Tr.trans .refl t fun _ _ _ q => q.elim) (fun _ q => q) (E.tr t x3) dt⟩
end
end Tw

set_option Elab.async false
set_option linter.all false
set_option maxRecDepth 100000
set_option maxHeartbeats 4000000
open PySem PySem.Spec PyProof.Rows L2
namespace Tw
/-! dict(a list of pairs) -/
def pairE : PyData → Option (Key × PyData)
  | .tuple [k, x] => (keyOf k).map fun q => (q, x)
  | _ => none
def pairsE : List PyData → Option (List (Key × PyData))
  | [] => some []
  | d :: ds => (pairE d).bind fun p => (pairsE ds).map (p :: ·)
def putAll (es : List (PyData × PyData)) (ps : List (Key × PyData)) : List (PyData × PyData) := ps.foldl (fun es p => putE es p.1 p.2) es
def dictD : List PyData → Option PyData
  | [.list ds] => (pairsE ds).map fun ps => .dict (putAll [] ps)
  | _ => none
section
variable {X : Cx} {K : PySem.W.Frag}
def rDictP (K : PySem.W.Frag) : List V → Hp → VK → Prop := fun xs H Q => ∃ (a : Addr) (ps : List Addr) (kvs : List (Key × V)), xs = [.ref a] ∧ SqL K H a (ps.map V.ref) ∧ Paired (fun p kv => SqT K H p [kV kv.1, kv.2]) ps kvs ∧ ∀ p, H p = none → Q (.ref p) (upd H p (.dK (mergeK [] kvs)))
theorem call_dictT (hc : X.calm = true) : CallR X (.type "dict") (rDictP X.K) := call_dictP hc
theorem pairs_da {G H : Hp} (ex : Evl.Ex G H) : ∀ {xs : List V} {ds : List PyData} {ps : List (Key × PyData)}, Da K G xs ds → pairsE ds = some ps →
    ∃ (as : List Addr) (kvs : List (Key × V)), xs = as.map V.ref ∧ Paired (fun p kv => SqT K H p [kV kv.1, kv.2]) as kvs ∧ kvs.map (·.1) = ps.map (·.1) ∧ Da K G (kvs.map (·.2)) (ps.map (·.2))
  | _, _, _, .nil, e => by
    cases e
    exact ⟨[], [], rfl, .nil, rfl, .nil⟩
  | _, _, _, .cons (d := d) (ds := ds) h t, e => by
    obtain ⟨p, e1, e2⟩ := Option.bind_eq_some_iff.mp e
    obtain ⟨qs, e3, rfl⟩ := Option.map_eq_some_iff.mp e2
    obtain ⟨as, kvs, rfl, h1, h2, h3⟩ := pairs_da ex t e3
    unfold pairE at e1
    split at e1
    · next k x =>
      obtain ⟨q, e4, rfl⟩ := Option.map_eq_some_iff.mp e1
      obtain ⟨a, ys, rfl, hy, dy⟩ := dt_tupP h
      obtain ⟨v, vs, rfl, dv, dvs⟩ : ∃ v vs, ys = v :: vs ∧ Dt K G v k ∧ Da K G vs [x] := by
        cases dy with
        | cons a b => exact ⟨_, _, rfl, a, b⟩
      obtain ⟨u, rfl, du⟩ := da_one dvs
      have ev := keyOf_dt dv e4
      subst ev
      refine ⟨a :: as, (q, u) :: kvs, rfl, .cons (hy.mono ex).sq h1, ?_, ?_⟩
      · rw [List.map_cons, List.map_cons, h2]
      · exact .cons du h3
    · cases e1
theorem merge_da {G : Hp} : ∀ {kvs : List (Key × V)} {ps : List (Key × PyData)} {acc : List (Key × V)} {ds : List PyData}, kvs.map (·.1) = ps.map (·.1) → Da K G (kvs.map (·.2)) (ps.map (·.2)) → Da K G (acc.map (·.2)) ds →
    ∃ ds', Da K G ((mergeK acc kvs).map (·.2)) ds' ∧ putAll (zipE acc ds) ps = zipE (mergeK acc kvs) ds'
  | [], [], acc, ds, _, _, h => ⟨ds, h, rfl⟩
  | [], _ :: _, _, _, e, _, _ => nomatch e
  | _ :: _, [], _, _, e, _, _ => nomatch e
  | (k, v) :: kvs, (k', d) :: ps, acc, ds, e, h, a => by
    rw [List.map_cons, List.map_cons] at e h
    obtain ⟨e1, e2⟩ := List.cons.inj e
    have e1 : k = k' := e1
    subst e1
    cases h with
    | cons hv ht =>
      have m := ek_put (k := k) hv a
      generalize hE : putE (zipE acc ds) k d = E at m
      cases m with
      | k da =>
        obtain ⟨ds2, h1, h2⟩ := merge_da e2 ht da
        refine ⟨ds2, h1, ?_⟩
        show putAll (putE (zipE acc ds) k d) ps = _
        rw [hE]
        exact h2
theorem d_dict : CallD K (rDictP K) dictD := fun G H xs ds z Q ex hd hz k => by
  unfold dictD at hz
  split at hz
  · next L =>
    obtain ⟨ps, e1, rfl⟩ := Option.map_eq_some_iff.mp hz
    obtain ⟨v, rfl, h⟩ := da_one hd
    obtain ⟨a, ys, rfl, hy, dy⟩ := dt_list h
    obtain ⟨as, kvs, rfl, h1, h2, h3⟩ := pairs_da ex dy e1
    refine ⟨a, as, kvs, rfl, (hy.mono ex).sq, h1, fun p hp => ?_⟩
    obtain ⟨ds', h4, h5⟩ := merge_da (acc := []) (ds := []) h2 h3 .nil
    have t : Tr nobody G H (upd G p (.dK (mergeK [] kvs))) (upd H p (.dK (mergeK [] kvs))) := Tr.new hp ex
    refine k _ _ _ t (ex_upd ex) ?_
    have h5 : putAll [] ps = zipE (mergeK [] kvs) ds' := h5
    rw [h5]
    exact .dd (.inl upd_same) (h4.mono t.g)
  · cases hz
end
end Tw

set_option Elab.async false
set_option linter.all false
set_option maxRecDepth 100000
set_option maxHeartbeats 4000000
open PySem PySem.Spec PyProof.Rows L2
namespace Tw
open Evl (Ex)
/-! ### [.. for k in d ..], d a dict held as data: d is locked meanwhile -/
def fKeys (i : Nat) : FE (List PyData) := fun ρ => match ρ[i]? with
  | some (.d (.dict es)) => some (es.map (·.1), ρ)
  | _ => none
section
variable {K : PySem.W.Frag} {G : Hp} {D : Addr} {od : Obj} {kvs : List (Key × V)}
mutual
theorem Dt.lkD (hD : G D = some (.dK kvs)) : ∀ {v : V} {d : PyData}, Dt K G v d → Dt K (upd G D (.frz od (.dK kvs))) v d
  | _, _, .nn => .nn
  | _, _, .bb b => .bb b
  | _, _, .ii i => .ii i
  | _, _, .ss x => .ss x
  | _, _, .ll h t => .ll (by
      rcases h with (h | ⟨o, h⟩) | h
      · exact .inl (.inl (by rw [upd_ne fun z => by rw [z, hD] at h; cases h]; exact h))
      · exact .inl (.inr ⟨o, by rw [upd_ne fun z => by rw [z, hD] at h; cases h]; exact h⟩)
      · exact .inr h) (Da.lkD hD t)
  | _, _, .tt h t => .tt (by
      rcases h with ⟨o, h1, h⟩ | h
      · exact .inl ⟨o, h1, by rw [upd_ne fun z => by rw [z, hD] at h; cases h]; exact h⟩
      · exact .inr h) (Da.lkD hD t)
  | _, _, .dd (a := a) h t => .dd (by
      by_cases c : a = D
      · subst c
        rcases h with h | ⟨o, h⟩
        · rw [hD] at h; cases h; exact .inr ⟨od, upd_same⟩
        · rw [hD] at h; cases h
      · rcases h with h | ⟨o, h⟩
        · exact .inl (by rw [upd_ne c]; exact h)
        · exact .inr ⟨o, by rw [upd_ne c]; exact h⟩) (Da.lkD hD t)
theorem Da.lkD (hD : G D = some (.dK kvs)) : ∀ {vs : List V} {ds : List PyData}, Da K G vs ds → Da K (upd G D (.frz od (.dK kvs))) vs ds
  | _, _, .nil => .nil
  | _, _, .cons h t => .cons (Dt.lkD hD h) (Da.lkD hD t)
end
theorem keyD_dt (k : Key) : Dt K G (kV k) (keyD k) := by
  cases k with
  | inl i => exact .ii i
  | inr x => exact .ss x
theorem keys_walk (hD : G D = some (.frz od (.dK kvs))) : WalkD false K G (Itk D od kvs) (kvs.map fun p => keyD p.1) where
  go := fun i H hi ex => ⟨ex _ _ hD, by rw [List.length_map] at hi; exact hi⟩
  stop := fun H ex => ⟨ex _ _ hD, by rw [List.length_map]; exact Nat.le_refl _⟩
  yld := fun i H x H' d hd ex q G2 e1 e2 => by
    obtain ⟨rfl, k, v, hk, rfl⟩ := q
    rw [List.getElem?_map, hk] at hd
    cases hd
    exact ⟨G2, .refl, e2, keyD_dt k⟩
theorem zip_fst {ds : List PyData} (h : kvs.length = ds.length) : (zipE kvs ds).map (·.1) = kvs.map fun p => keyD p.1 := by
  unfold zipE
  exact List.map_fst_zip (by rw [List.length_map]; omega)
end
section
variable {X : Cx} {elt tg iter : Expr} {ifs : List Expr} {pos : Pos} {bb : Bool} {ft : FG} {tt : FE Bool} {fe : FE PyData}
theorem l_lcK {scope : Scope} {own : List (Str × Nat)} (i n : Nat) (hc : X.calm = true) (hN : X.N.Nodup) (hv : PE X iter (tVar i)) (ok : BlkOk X.N X.env.scope scope own)
    (hg : ∀ (s : Shared) (H : Hp) (C : Addr) (cl : List (Str × Addr)) (fp : List Addr), PG (X.blk s H scope (compEnvC scope cl C X.env) fp) tg (tGw false X.K (compl n (own.map (·.2))) ft))
    (ht : ∀ (s : Shared) (H : Hp) (C : Addr) (cl : List (Str × Addr)) (fp : List Addr), PTs (X.blk s H scope (compEnvC scope cl C X.env) fp) ifs (tT X.K bb tt))
    (he : ∀ (s : Shared) (H : Hp) (C : Addr) (cl : List (Str × Addr)) (fp : List Addr), PE (X.blk s H scope (compEnvC scope cl C X.env) fp) elt (tE X.K bb fe)) (hn : X.N.length = n := by rfl) (hs : ∀ x, foldedSetIterable iter X.env x = pure x := by intro _; rfl) :
    PE X (.ListComp elt [⟨tg, iter, ifs, 0⟩] scope pos) (tF X.K bb (fLc (fKeys i) ft tt fe (own.map (·.2)))) := by
  have base := pe_lc hc hN (pi_keys (tg := tg) hv) ok hg ht he hs (pos := pos)
  have lock := pe_lock base
  refine ⟨fun pins s σ H Q I hq => ?_⟩
  obtain ⟨G, ρ, ys, ρ', E, ef, k⟩ := hq
  obtain ⟨⟨ks, ρ1⟩, e1, e2⟩ := Option.bind_eq_some_iff.mp ef
  have hl : σ.length = n := I.len.trans hn
  unfold fKeys at e1
  split at e1
  case h_2 => cases e1
  rename_i es hi
  cases e1
  dsimp only at e2
  by_cases hz : sizeOk (es.map (·.1)).length = true
  case neg => rw [if_neg hz] at e2; cases e2
  rw [if_pos hz] at e2
  have e3 := e2
  obtain ⟨⟨ys', ρe⟩, e4, e5⟩ := Option.map_eq_some_iff.mp e3
  cases e5
  obtain ⟨v, hs1, dv⟩ := E.dat i _ hi
  obtain ⟨a, kvs, ds, rfl, hr, da, rfl⟩ := dt_dict dv
  have hlen : kvs.length = ds.length := by have := da.len; rwa [List.length_map] at this
  rw [zip_fst hlen] at hz e4
  rcases hr with hr | ⟨o, hr⟩
  · have hH : H a = some (.dK kvs) := E.ex a _ hr
    refine lock.run pins s σ H Q I ⟨a, .dK kvs, hH, trivial, fun od => ?_⟩
    have gD : upd G a (.frz od (.dK kvs)) a = some (.frz od (.dK kvs)) := upd_same
    have fr : ∀ l, G l = none → l ≠ a := fun l q z => by rw [z, hr] at q; cases q
    have EL : EnvOk X.K (upd G a (.frz od (.dK kvs))) (upd H a (.frz od (.dK kvs))) σ ρ := {
      ex := fun x u q => by
        by_cases c : x = a
        · rw [c] at q ⊢
          rw [upd_same] at q ⊢
          exact q
        · rw [upd_ne c] at q ⊢
          exact E.ex x u q
      len := E.len
      dat := fun j d q => by
        obtain ⟨w, w1, w2⟩ := E.dat j d q
        exact ⟨w, w1, w2.lkD hr⟩
      mu := fun j d q => by
        obtain ⟨l, xs, w1, w2, w3, w4⟩ := E.mu j d q
        have nl := fr l w2
        refine ⟨l, xs, w1, by rw [upd_ne nl]; exact w2, by rw [upd_ne nl]; exact w3, ?_⟩
        cases w4 with
        | l h => exact .l (h.lkD hr)
        | k h => exact .k (h.lkD hr)
      ne := E.ne }
    refine lc_walk (wk := false) (ρ := ρ) (ρ1 := ρ) (G := upd G a (.frz od (.dK kvs))) hl hz e4 (fun R hR => ?_) fun p xs G' H' hp gp hx dx t oo E' => ?_
    · exact ⟨.ref a, hs1, a, od, rfl, .inl ⟨kvs, upd_same, hR _ _ _ .refl (fun _ q => q) EL (keys_walk gD)⟩⟩
    · have nw : ¬ ows bb σ ρ a := fun q => by
        obtain ⟨j, d, q1, q2⟩ := q.2
        obtain ⟨l, xs', w1, w2, w3, w4⟩ := E.mu j d q1
        rw [q2] at w1
        cases w1
        exact fr _ w2 rfl
      have D2 : H' a = some (.frz od (.dK kvs)) := t.h a _ upd_same nw
      have G2 : G' a = some (.frz od (.dK kvs)) := t.g a _ gD
      have np : p ≠ a := fun z => by rw [z, upd_same] at hp; cases hp
      refine ⟨D2, k p xs (unD G' a kvs) (upd H' a (.dK kvs)) (by rw [upd_ne np] at hp; exact hp) (by rw [unD_ne np]; exact gp) (by rw [upd_ne np]; exact hx) (dx.unD G2) ?_ oo ?_⟩
      · exact {
          g := fun x u q => by
            by_cases c : x = a
            · rw [c] at q ⊢
              rw [unD_same, ← hr]
              exact q
            · rw [unD_ne c]
              exact t.g x u (by rw [upd_ne c]; exact q)
          h := fun x u q nq => by
            by_cases c : x = a
            · rw [c] at q ⊢
              rw [upd_same, ← hH]
              exact q
            · rw [upd_ne c]
              exact t.h x u (by rw [upd_ne c]; exact q) nq
          n := fun x u q qg nq => by
            have c := fr x qg
            rw [unD_ne c]
            exact t.n x u (by rw [upd_ne c]; exact q) (by rw [upd_ne c]; exact qg) nq
          k := fun x u q => by
            by_cases c : x = a
            · rw [c]
              exact ⟨_, upd_same⟩
            · obtain ⟨u', w⟩ := t.k x u (by rw [upd_ne c]; exact q)
              exact ⟨u', by rw [upd_ne c]; exact w⟩ }
      · exact {
          ex := fun x u q => by
            by_cases c : x = a
            · rw [c] at q ⊢
              rw [unD_same] at q
              rw [upd_same]
              exact q
            · rw [unD_ne c] at q
              rw [upd_ne c]
              exact E'.ex x u q
          len := E'.len
          dat := fun j d q => by
            obtain ⟨w, w1, w2⟩ := E'.dat j d q
            exact ⟨w, w1, w2.unD G2⟩
          mu := fun j d q => by
            obtain ⟨l, xs', w1, w2, w3, w4⟩ := E'.mu j d q
            have n1 : l ≠ a := fun z => by rw [z, G2] at w2; cases w2
            refine ⟨l, xs', w1, by rw [unD_ne n1]; exact w2, by rw [upd_ne n1]; exact w3, ?_⟩
            cases w4 with
            | l h => exact .l (h.unD G2)
            | k h => exact .k (h.unD G2)
          ne := E'.ne }
  · have hH : H a = some (.frz o (.dK kvs)) := E.ex a _ hr
    refine base.run pins s σ H Q I ?_
    refine lc_walk (wk := false) (ρ := ρ) (ρ1 := ρ) (G := G) hl hz e4 (fun R hR => ?_) fun p xs G' H' hp gp hx dx t oo E' => k p xs G' H' hp gp hx dx t oo E'
    exact ⟨.ref a, hs1, a, o, rfl, .inl ⟨kvs, hH, hR _ _ _ .refl (fun _ q => q) E (keys_walk hr)⟩⟩
end
end Tw

set_option Elab.async false
set_option linter.all false
set_option maxRecDepth 100000
set_option maxHeartbeats 4000000
open PySem PySem.Spec PyProof.Rows L2
namespace Tw
open Evl (Ex)
/-! ### zip of two lists and a tuple -/
def Itz3 (K : PySem.W.Frag) (a b c : Addr) : It :=
  ⟨fun i H => ∃ (xs ys zs : List V) (x y z : V), SqL K H a xs ∧ SqL K H b ys ∧ SqT K H c zs ∧ xs[i]? = some x ∧ ys[i]? = some y ∧ zs[i]? = some z,
    fun i H v H' => ∃ T x y z, v = .ref T ∧ H T = none ∧ H' = upd H T (.tup [x, y, z]) ∧ (∀ xs, SqL K H a xs → xs[i]? = some x) ∧ (∀ ys, SqL K H b ys → ys[i]? = some y) ∧ ∀ zs, SqT K H c zs → zs[i]? = some z,
    fun i H => ∃ xs ys zs : List V, SqL K H a xs ∧ SqL K H b ys ∧ SqT K H c zs ∧ i = min (min xs.length ys.length) zs.length⟩
def z3Fp (z TI TO i1 i2 i3 : Addr) : List Addr := [z, TI, TO, i1, i2, i3]
def z3Tn (a b c z TI TO i1 i2 i3 : Addr) : Nat → Heap → Prop := fun i h => IsZip h z TI TO .none ∧ IsTupOf3 h TI (.ref i1) (.ref i2) (.ref i3) ∧ (∃ x y u, IsTupOf3 h TO x y u) ∧ h.IsListIter i1 a i ∧ h.IsListIter i2 b i ∧ h.IsTupleIter i3 c i
/-- the cells of a zip of three lie apart -/
structure Apart3 (z TI TO i1 i2 i3 a b c : Addr) : Prop where
  S : ZipSep3 z TI TO i1 i2 i3 [i1, a] [i2, b] [i3, c]
  a1 : a ≠ i1
  b2 : b ≠ i2
  c3 : c ≠ i3
def z3_goes {P : Program} {w : World} {A : Around} {elts : List Expr} {kk : Nat} {tpos : Pos} {a b c z TI TO i1 i2 i3 : Addr} (hh : A.handled = none) (D : Apart3 z TI TO i1 i2 i3 a b c) (xs ys zs : Array Value) :=
  GoesN.zip3 (prog := P) (w := w) (A := A) (elts := elts) (x1 := kk) (pos := tpos) D.S (Draws.list (prog := P) (w := w) (A := A.in1) hh i1 a D.a1 xs) (Draws.list (prog := P) (w := w) (A := A.in1) hh i2 b D.b2 ys) (Draws.tuple (prog := P) (w := w) (A := A.in1) hh i3 c D.c3 zs)
theorem turn_zip3 {P : Program} {w : World} {K : PySem.W.Frag} {elts : List Expr} {kk : Nat} {tpos : Pos} {a b c z TI TO i1 i2 i3 : Addr} (D : Apart3 z TI TO i1 i2 i3 a b c) :
    Turn P w K (.Tuple elts kk tpos) (Itz3 K a b c) (z3Fp z TI TO i1 i2 i3) z (z3Tn a b c z TI TO i1 i2 i3) where
  mem := List.mem_cons_self ..
  obj := fun i h ⟨s1, s2, ⟨x, y, u, s3⟩, ⟨o1, s4, _, d1⟩, ⟨o2, s5, _, d2⟩, ⟨o3, s6, _, d3⟩⟩ c hc => by
    unfold z3Fp at hc
    simp only [List.mem_cons, List.not_mem_nil, or_false] at hc
    rcases hc with rfl | rfl | rfl | rfl | rfl | rfl
    · exact ⟨_, s1, fun v e => nomatch e⟩
    · exact ⟨_, s2, fun v e => nomatch e⟩
    · exact ⟨_, s3, fun v e => nomatch e⟩
    · exact ⟨o1, s4, fun v e => by rw [d1] at e; cases e⟩
    · exact ⟨o2, s5, fun v e => by rw [d2] at e; cases e⟩
    · exact ⟨o3, s6, fun v e => by rw [d3] at e; cases e⟩
  keep := fun i h h' ⟨s1, s2, ⟨x, y, u, s3⟩, s4, s5, s6⟩ k =>
    ⟨k z (by simp [z3Fp]) _ s1, k TI (by simp [z3Fp]) _ s2, ⟨x, y, u, k TO (by simp [z3Fp]) _ s3⟩, s4.at fun o e => k i1 (by simp [z3Fp]) o e, s5.at fun o e => k i2 (by simp [z3Fp]) o e, s6.at fun o e => k i3 (by simp [z3Fp]) o e⟩
  item := by
    intro X hP hw hK hc i pins s σ H E I hf ⟨s1, s2, s3, s4, s5, s6⟩ ⟨xs, ys, zs, x, y, u, qx, qy, qz, ex, ey, ez⟩
    subst hP hw hK
    obtain ⟨us, ru, pu, _⟩ := I.list qx
    obtain ⟨ws, rw', pw, _⟩ := I.list qy
    obtain ⟨ts, rt, pt, _⟩ := I.tuple qz
    obtain ⟨u1, hu, relu⟩ := ru.get ex
    obtain ⟨v1, hv, relv⟩ := rw'.get ey
    obtain ⟨t1, ht1, relt⟩ := rt.get ez
    have lu : i < us.length := (List.getElem?_eq_some_iff.mp hu).1
    have lw : i < ws.length := (List.getElem?_eq_some_iff.mp hv).1
    have lt : i < ts.length := (List.getElem?_eq_some_iff.mp ht1).1
    refine (z3_goes (P := X.prog) (w := X.w) (elts := elts) (kk := kk) (tpos := tpos) (I.ok.hd hc) D us.toArray ws.toArray ts.toArray).goes i s (fun u s2 => ∃ x H', Inv X pins σ H' s2 ∧ RelV x u ∧ (Itz3 X.K a b c).yld i H x H' ∧ z3Tn a b c z TI TO i1 i2 i3 (i + 1) s2.heap ∧ ∀ b ∈ z3Fp z TI TO i1 i2 i3, H' b = none) E
      (by simp only [List.size_toArray]; omega) ⟨s1, s2, s3, ⟨s4, pu.isList⟩, ⟨s5, pw.isList⟩, s6, pt⟩ fun vv h' tk ⟨T, p, q, r, e, hn, hp, hq, hr, hT⟩ ⟨t1', t2', t3', t4', t5', t6'⟩ fr ht => ?_
    subst e
    have ep : p = u1 := by
      have hp' : us[i]? = some p := by simpa using hp
      rw [hu] at hp'
      exact (Option.some.inj hp').symm
    have eq : q = v1 := by
      have hq' : ws[i]? = some q := by simpa using hq
      rw [hv] at hq'
      exact (Option.some.inj hq').symm
    have er : r = t1 := by
      have hr' : ts[i]? = some r := by simpa using hr
      rw [ht1] at hr'
      exact (Option.some.inj hr').symm
    subst ep eq er
    have new : ObjOk X.prog X.w (upd H T (.tup [x, y, u])) h' T (.tup [x, y, u]) := ⟨by show 3 ≤ sizeLine; decide, [p, q, r], .cons relu (.cons relv (.cons relt .nil)), hT⟩
    have I1 : Inv X pins σ (upd H T (.tup [x, y, u])) { s with heap := h', toks := tk } :=
      I.turnedNew (t' := tk) (ch := z3Fp z TI TO i1 i2 i3) (fun c o hb e => fr c o (fun m => hb (by simp only [z3Fp, List.mem_cons, List.not_mem_nil, or_false] at m ⊢; rcases m with m | m | m | m | m <;> simp [m])) e) hf hn new
    refine ⟨.ref T, _, I1, rfl, ⟨T, x, y, u, rfl, I.hok.fresh hn, rfl, fun l hl => by rw [I.list_inj hl qx]; exact ex, fun l hl => by rw [I.list_inj hl qy]; exact ey, fun l hl => by rw [I.tuple_inj hl qz]; exact ez⟩, ⟨t1', t2', t3', t4'.1, t5'.1, t6'.1⟩, fun c hcm => ?_⟩
    have hlt : c < s.heap.objs.size := by
      obtain ⟨x3, y3, u3, s3⟩ := s3
      obtain ⟨_, e4, _⟩ := s4
      obtain ⟨_, e5, _⟩ := s5
      obtain ⟨_, e6, _⟩ := s6
      simp only [z3Fp, List.mem_cons, List.not_mem_nil, or_false] at hcm
      rcases hcm with rfl | rfl | rfl | rfl | rfl | rfl
      · exact Heap.lt_size s1
      · exact Heap.lt_size s2
      · exact Heap.lt_size s3
      · exact Heap.lt_size e4
      · exact Heap.lt_size e5
      · exact Heap.lt_size e6
    rw [upd_ne (Nat.ne_of_lt (Nat.lt_of_lt_of_le hlt hn))]
    exact (hf c hcm).1
  done := by
    intro X hP hw hK hc i pins s σ H E I hf ⟨s1, s2, s3, s4, s5, s6⟩ ⟨xs, ys, zs, qx, qy, qz, ei⟩
    subst hP hw hK
    obtain ⟨us, ru, pu, _⟩ := I.list qx
    obtain ⟨ws, rw', pw, _⟩ := I.list qy
    obtain ⟨ts, rt, pt, _⟩ := I.tuple qz
    have l1 := ru.length
    have l2 := rw'.length
    have l3 := rt.length
    have en : i = min (min us.toArray.size ws.toArray.size) ts.toArray.size := by simp only [List.size_toArray]; omega
    subst en
    exact (z3_goes (P := X.prog) (w := X.w) (elts := elts) (kk := kk) (tpos := tpos) (I.ok.hd hc) D us.toArray ws.toArray ts.toArray).stops s (fun s1 => Inv X pins σ H s1) E ⟨s1, s2, s3, ⟨s4, pu.isList⟩, ⟨s5, pw.isList⟩, s6, pt⟩ fun h' tk fr ht =>
      I.turnedL (t' := tk) (ch := z3Fp z TI TO i1 i2 i3) (fun c o hb e => fr c o (fun m => hb (by simp only [z3Fp, List.mem_cons, List.not_mem_nil, or_false] at m ⊢; rcases m with m | m | m | m | m <;> simp [m])) e) hf
  self := fun A i s Q E st h => wpAny_pyIter_zip st.1 h
def iZip3 (K : PySem.W.Frag) (ta : TA) : TI := fun σ H R => ta σ H fun vs H1 => ∃ a b c xs ys zs, vs = [.ref a, .ref b, .ref c] ∧ SqL K H1 a xs ∧ SqL K H1 b ys ∧ SqT K H1 c zs ∧ R (Itz3 K a b c) H1
theorem vals3 {x y z : V} {us : List Value} (h : Vals [x, y, z] us) : ∃ u v w, us = [u, v, w] ∧ RelV x u ∧ RelV y v ∧ RelV z w := by
  cases h with
  | cons h1 t =>
    obtain ⟨v, w, rfl, h2, h3⟩ := vals2 t
    exact ⟨_, v, w, rfl, h1, h2, h3⟩
theorem pi_zip3 {X : Cx} {e e2 e3 : Expr} {ta : TA} {p pos tpos : Pos} {elts : List Expr} {kk : Nat} (hg : Gl X "zip") (hm : X.mg "zip" = none) (ha : PA X [e, e2, e3] ta)
    (hs : starEach [e, e2, e3] X.env = (false, eval e X.env) :: starEach [e2, e3] X.env := by rfl) (hpl : (backTo pos (starEach [e2, e3] X.env)).any (·.1) = false := by rfl) :
    PI X (.Tuple elts kk tpos) (.Call (.Name "zip" p) [e, e2, e3] [] pos) (iZip3 X.K ta) := by
  refine ⟨fun pins s σ H R I h => ?_⟩
  refine Call_ (ld_blt I hg hm PyProof.Rows.boot_zip (PyProof.Rows.callWith_type1 (thn (ha.run pos pins s σ H _ I h) fun us s1 ⟨vs, H1, I1, r1, q1⟩ => ?_) hs hpl))
  obtain ⟨a, b, c, xs, ys, zs, ex, qx, qy, qz, q⟩ := q1
  subst ex
  obtain ⟨ua, ub, uc, rfl, ra, rb, rc⟩ := vals3 r1
  cases ra
  cases rb
  cases rc
  obtain ⟨us, ru, pu, _⟩ := I1.list qx
  obtain ⟨ws, rw', pw, _⟩ := I1.list qy
  obtain ⟨ts, rt, pt, _⟩ := I1.tuple qz
  have fresh : ∀ c ∈ z3Fp (s1.heap.objs.size + 5) (s1.heap.objs.size + 3) (s1.heap.objs.size + 4) s1.heap.objs.size (s1.heap.objs.size + 1) (s1.heap.objs.size + 2), FpOk X pins H1 c := fun c hc => by
    have le : s1.heap.objs.size ≤ c := by
      simp only [z3Fp, List.mem_cons, List.not_mem_nil, or_false] at hc
      rcases hc with rfl | rfl | rfl | rfl | rfl | rfl
      · exact Nat.le_add_right _ _
      · exact Nat.le_add_right _ _
      · exact Nat.le_add_right _ _
      · exact Nat.le_refl _
      · exact Nat.le_add_right _ _
      · exact Nat.le_add_right _ _
    exact I1.fpOk le (I1.hok.fresh le)
  have pc : s1.heap.IsTuple c ts.toArray := pt
  have la : a < s1.heap.objs.size := pu.lt
  have lb : b < s1.heap.objs.size := pw.lt
  have lc : c < s1.heap.objs.size := by
    obtain ⟨oc, ec, _⟩ := id pc
    exact Heap.lt_size ec
  have D : Apart3 (s1.heap.objs.size + 5) (s1.heap.objs.size + 3) (s1.heap.objs.size + 4) s1.heap.objs.size (s1.heap.objs.size + 1) (s1.heap.objs.size + 2) a b c :=
    ⟨zip_sep3 (fp1 := [a]) (fp2 := [b]) (fp3 := [c]) (fun x hx => by rw [List.mem_singleton.mp hx]; exact la) (fun x hx => by rw [List.mem_singleton.mp hx]; exact lb) (fun x hx => by rw [List.mem_singleton.mp hx]; exact lc), Nat.ne_of_lt la, Nat.ne_of_lt (Nat.lt_of_lt_of_le lb (Nat.le_add_right _ _)), Nat.ne_of_lt (Nat.lt_of_lt_of_le lc (Nat.le_add_right _ _))⟩
  refine zip_begins3 (begins_list a us.toArray) (begins_list b ws.toArray) (begins_tuple c ts.toArray) pu.isList pw.isList pc fun h' z1 z2 z3 z4 z5 z6 z7 k => wpAny_pyIter_zip z1 ?_
  have I2 : Inv X pins σ H1 { s1 with heap := h' } := I1.kept (t' := s1.toks) k
  exact ⟨s1.heap.objs.size + 5, z3Fp (s1.heap.objs.size + 5) (s1.heap.objs.size + 3) (s1.heap.objs.size + 4) s1.heap.objs.size (s1.heap.objs.size + 1) (s1.heap.objs.size + 2), _, _, H1, rfl, I2, turn_zip3 D, ⟨z1, z2, ⟨_, _, _, z3⟩, ⟨_, z4, rfl, rfl⟩, ⟨_, z5, rfl, rfl⟩, ⟨_, z6, rfl, rfl⟩⟩, fresh, q⟩
/-- triples -/
def trs (xs ys zs : List PyData) : List PyData := (xs.zip (ys.zip zs)).map fun p => .tuple [p.1, p.2.1, p.2.2]
def zip3N : List PyData → Option (List PyData)
  | [.list ds, .list es, .tuple fs] => some (trs ds es fs)
  | _ => none
def fZip3 (r : FE (List PyData)) : FE (List PyData) := thnE r fun xs => liftO (zip3N xs)
theorem trs_len (xs ys zs : List PyData) : (trs xs ys zs).length = min (min xs.length ys.length) zs.length := by
  unfold trs
  rw [List.length_map, List.length_zip, List.length_zip]
  omega
theorem trs_get {xs ys zs : List PyData} {i : Nat} {d : PyData} (h : (trs xs ys zs)[i]? = some d) : ∃ a b c, xs[i]? = some a ∧ ys[i]? = some b ∧ zs[i]? = some c ∧ d = .tuple [a, b, c] := by
  unfold trs at h
  rw [List.getElem?_map] at h
  cases q : (xs.zip (ys.zip zs))[i]? with
  | none => rw [q] at h; cases h
  | some z =>
    rw [q] at h
    cases h
    obtain ⟨h1, h2⟩ := List.getElem?_zip_eq_some.mp q
    obtain ⟨h3, h4⟩ := List.getElem?_zip_eq_some.mp h2
    exact ⟨_, _, _, h1, h3, h4, rfl⟩
theorem triple_yld {K : PySem.W.Frag} {G G2 H : Hp} {T : Addr} {x y z : V} {d e f : PyData} (hT : H T = none) (e1 : Ex G G2) (e2 : Ex G2 H) (hx : Dt K G x d) (hy : Dt K G y e) (hz : Dt K G z f) :
    ∃ G3, Tr nobody G2 H G3 (upd H T (.tup [x, y, z])) ∧ Ex G3 (upd H T (.tup [x, y, z])) ∧ Dx true K G3 (.ref T) (.tuple [d, e, f]) := by
  have t : Tr nobody G2 H (upd G2 T (.tup [x, y, z])) (upd H T (.tup [x, y, z])) := Tr.new hT e2
  exact ⟨_, t, ex_upd e2, .inr ⟨T, _, _, rfl, SqT.of upd_same, rfl, .cons ((hx.mono e1).mono t.g) (.cons ((hy.mono e1).mono t.g) (.cons ((hz.mono e1).mono t.g) .nil))⟩⟩
theorem da_three {K : PySem.W.Frag} {G : Hp} {vs : List V} {d e f : PyData} (h : Da K G vs [d, e, f]) : ∃ x y z, vs = [x, y, z] ∧ Dt K G x d ∧ Dt K G y e ∧ Dt K G z f := by
  cases h with
  | cons h1 t =>
    obtain ⟨y, z, rfl, h2, h3⟩ := da_two t
    exact ⟨_, y, z, rfl, h1, h2, h3⟩
section
variable {X : Cx} {bb : Bool} {e e2 e3 : Expr} {p pos tpos : Pos}
theorem i_zip3 {elts : List Expr} {kk : Nat} {ra : FE (List PyData)} (hg : Gl X "zip") (hm : X.mg "zip" = none) (ha : PA X [e, e2, e3] (tA X.K bb ra))
    (hs : starEach [e, e2, e3] X.env = (false, eval e X.env) :: starEach [e2, e3] X.env := by rfl) (hpl : (backTo pos (starEach [e2, e3] X.env)).any (·.1) = false := by rfl) :
    PI X (.Tuple elts kk tpos) (.Call (.Name "zip" p) [e, e2, e3] [] pos) (tIw true X.K bb (fZip3 ra)) := PI.weak (pi_zip3 hg hm ha hs hpl) fun σ H R ⟨G, ρ, ds, ρ', E, ef, k⟩ => by
  obtain ⟨x, ρ1, h1, h2⟩ := thnE_of ef
  obtain ⟨h3, rfl⟩ := liftO_of h2
  refine ⟨G, ρ, x, ρ', E, h1, fun v G1 H1 t1 o1 E1 d1 => ?_⟩
  unfold zip3N at h3
  split at h3
  case h_2 => cases h3
  rename_i ds2 es2 fs2
  cases h3
  obtain ⟨v, u, w, rfl, dv, du, dw⟩ := da_three d1
  obtain ⟨a, xs, rfl, hx, dx⟩ := dt_list dv
  obtain ⟨b, ys, rfl, hy, dy⟩ := dt_list du
  obtain ⟨c, zs, rfl, hz, dz⟩ := dt_tup dw
  refine ⟨a, b, c, xs, ys, zs, rfl, (hx.mono E1.ex).sq, (hy.mono E1.ex).sq, Evl.ex_t E1.ex hz, k _ G1 H1 t1 o1 E1 ?_⟩
  have hl : (trs ds2 es2 fs2).length = min (min xs.length ys.length) zs.length := by rw [trs_len, dx.len, dy.len, dz.len]
  refine ⟨fun i H hi ex => ⟨xs, ys, zs, xs[i]'(by omega), ys[i]'(by omega), zs[i]'(by omega), (hx.mono ex).sq, (hy.mono ex).sq, Evl.ex_t ex hz, List.getElem?_eq_getElem _, List.getElem?_eq_getElem _, List.getElem?_eq_getElem _⟩,
    fun H ex => ⟨xs, ys, zs, (hx.mono ex).sq, (hy.mono ex).sq, Evl.ex_t ex hz, hl⟩, fun i H y H' d hd ex q G2 e1 e2 => ?_⟩
  obtain ⟨T, z, z2, z3, rfl, hT, rfl, q, q2, q3⟩ := q
  obtain ⟨da, db, dc, k1, k2, k3, rfl⟩ := trs_get hd
  obtain ⟨w, h4, h5⟩ := dx.get k1
  obtain ⟨w2, h6, h7⟩ := dy.get k2
  obtain ⟨w3, h8, h9⟩ := dz.get k3
  have r1 := q xs ((hx.mono ex).sq)
  have r2 := q2 ys ((hy.mono ex).sq)
  have r3 := q3 zs (Evl.ex_t ex hz)
  rw [h4] at r1
  rw [h6] at r2
  rw [h8] at r3
  cases r1
  cases r2
  cases r3
  exact triple_yld hT e1 e2 h5 h7 h9
end
end Tw

set_option Elab.async false
set_option linter.all false
set_option maxRecDepth 100000
set_option maxHeartbeats 4000000
namespace Tw
open PySem PySem.Spec PyProof.Rows L2
open Evl (Ex)
/-! ### zip of a list and a tuple -/
def ItzL (K : PySem.W.Frag) (a b : Addr) : It :=
  ⟨fun i H => ∃ (xs ys : List V) (x y : V), SqL K H a xs ∧ SqT K H b ys ∧ xs[i]? = some x ∧ ys[i]? = some y,
    fun i H v H' => ∃ T x y, v = .ref T ∧ H T = none ∧ H' = upd H T (.tup [x, y]) ∧ (∀ xs, SqL K H a xs → xs[i]? = some x) ∧ ∀ ys, SqT K H b ys → ys[i]? = some y,
    fun i H => ∃ xs ys : List V, SqL K H a xs ∧ SqT K H b ys ∧ i = min xs.length ys.length⟩
def zlFp (z TI TO i1 i2 : Addr) : List Addr := [z, TI, TO, i1, i2]
def zlTn (a b z TI TO i1 i2 : Addr) : Nat → Heap → Prop := fun i h => IsZip h z TI TO .none ∧ IsTupOf2 h TI (.ref i1) (.ref i2) ∧ (∃ x y, IsTupOf2 h TO x y) ∧ h.IsListIter i1 a i ∧ h.IsTupleIter i2 b i
theorem zl_sep {z TI TO i1 i2 a b : Addr} (D : ZipApart z TI TO i1 i2 a b) : ZipSep2 z TI TO i1 i2 [i1, a] [i2, b] where
  TIz := D.TIz
  TOz := D.TOz
  TITO := D.TITO
  TIi1 := D.TIi1
  mem1 := List.mem_cons_self ..
  zf1 := by simp only [List.mem_cons, List.not_mem_nil, or_false, not_or]; exact ⟨D.i1z.symm, D.l1z.symm⟩
  Tf1 := by simp only [List.mem_cons, List.not_mem_nil, or_false, not_or]; exact ⟨D.TOi1, D.l1TO.symm⟩
  TIi2 := D.TIi2
  mem2 := List.mem_cons_self ..
  zf2 := by simp only [List.mem_cons, List.not_mem_nil, or_false, not_or]; exact ⟨D.i2z.symm, D.l2z.symm⟩
  Tf2 := by simp only [List.mem_cons, List.not_mem_nil, or_false, not_or]; exact ⟨D.TOi2, D.l2TO.symm⟩
  sep1_2 := by simp only [List.mem_cons, List.not_mem_nil, or_false, not_or]; exact ⟨D.i12, D.l2i1.symm⟩
  sep2_1 := by simp only [List.mem_cons, List.not_mem_nil, or_false, not_or]; exact ⟨D.i12.symm, D.l1i2.symm⟩
def zl_goes {P : Program} {w : World} {A : Around} {elts : List Expr} {kk : Nat} {tpos : Pos} {a b z TI TO i1 i2 : Addr} (hh : A.handled = none) (D : ZipApart z TI TO i1 i2 a b) (xs ys : Array Value) :=
  GoesN.zip2 (prog := P) (w := w) (A := A) (elts := elts) (x1 := kk) (pos := tpos) (zl_sep D) (Draws.list (prog := P) (w := w) (A := A.in1) hh i1 a D.l1i1 xs) (Draws.tuple (prog := P) (w := w) (A := A.in1) hh i2 b D.l2i2 ys)
theorem turn_zipL {P : Program} {w : World} {K : PySem.W.Frag} {elts : List Expr} {kk : Nat} {tpos : Pos} {a b z TI TO i1 i2 : Addr} (D : ZipApart z TI TO i1 i2 a b) :
    Turn P w K (.Tuple elts kk tpos) (ItzL K a b) (zlFp z TI TO i1 i2) z (zlTn a b z TI TO i1 i2) where
  mem := List.mem_cons_self ..
  obj := fun i h ⟨s1, s2, ⟨x, y, s3⟩, ⟨o1, s4, _, d1⟩, ⟨o2, s5, _, d2⟩⟩ c hc => by
    unfold zlFp at hc
    simp only [List.mem_cons, List.not_mem_nil, or_false] at hc
    rcases hc with rfl | rfl | rfl | rfl | rfl
    · exact ⟨_, s1, fun v e => nomatch e⟩
    · exact ⟨_, s2, fun v e => nomatch e⟩
    · exact ⟨_, s3, fun v e => nomatch e⟩
    · exact ⟨o1, s4, fun v e => by rw [d1] at e; cases e⟩
    · exact ⟨o2, s5, fun v e => by rw [d2] at e; cases e⟩
  keep := fun i h h' ⟨s1, s2, ⟨x, y, s3⟩, s4, s5⟩ k =>
    ⟨k z (by simp [zlFp]) _ s1, k TI (by simp [zlFp]) _ s2, ⟨x, y, k TO (by simp [zlFp]) _ s3⟩, s4.at fun o e => k i1 (by simp [zlFp]) o e, s5.at fun o e => k i2 (by simp [zlFp]) o e⟩
  item := by
    intro X hP hw hK hc i pins s σ H E I hf ⟨s1, s2, s3, s4, s5⟩ ⟨xs, ys, x, y, qx, qy, ex, ey⟩
    subst hP hw hK
    obtain ⟨us, ru, pu, _⟩ := I.list qx
    obtain ⟨ws, rw', pw, _⟩ := I.tuple qy
    obtain ⟨u, hu, relu⟩ := ru.get ex
    obtain ⟨v, hv, relv⟩ := rw'.get ey
    have lu : i < us.length := (List.getElem?_eq_some_iff.mp hu).1
    have lw : i < ws.length := (List.getElem?_eq_some_iff.mp hv).1
    refine (zl_goes (P := X.prog) (w := X.w) (elts := elts) (kk := kk) (tpos := tpos) (I.ok.hd hc) D us.toArray ws.toArray).goes i s (fun u s2 => ∃ x H', Inv X pins σ H' s2 ∧ RelV x u ∧ (ItzL X.K a b).yld i H x H' ∧ zlTn a b z TI TO i1 i2 (i + 1) s2.heap ∧ ∀ b ∈ zlFp z TI TO i1 i2, H' b = none) E
      (by simp only [List.size_toArray]; omega) ⟨s1, s2, s3, ⟨s4, pu.isList⟩, s5, pw⟩ fun vv h' tk ⟨T, p, q, e, hn, hp, hq, hT⟩ ⟨t1, t2, t3, t4, t5⟩ fr ht => ?_
    subst e
    have ep : p = u := by
      have hp' : us[i]? = some p := by simpa using hp
      rw [hu] at hp'
      exact (Option.some.inj hp').symm
    have eq : q = v := by
      have hq' : ws[i]? = some q := by simpa using hq
      rw [hv] at hq'
      exact (Option.some.inj hq').symm
    subst ep eq
    have new : ObjOk X.prog X.w (upd H T (.tup [x, y])) h' T (.tup [x, y]) := ⟨by show 2 ≤ sizeLine; decide, [p, q], .cons relu (.cons relv .nil), hT⟩
    have I1 : Inv X pins σ (upd H T (.tup [x, y])) { s with heap := h', toks := tk } :=
      I.turnedNew (t' := tk) (ch := zlFp z TI TO i1 i2) (fun c o hb e => fr c o (fun m => hb (by simp only [zlFp, List.mem_cons, List.not_mem_nil, or_false] at m ⊢; rcases m with m | m | m | m <;> simp [m])) e) hf hn new
    refine ⟨.ref T, _, I1, rfl, ⟨T, x, y, rfl, I.hok.fresh hn, rfl, fun l hl => by rw [I.list_inj hl qx]; exact ex, fun l hl => by rw [I.tuple_inj hl qy]; exact ey⟩, ⟨t1, t2, t3, t4.1, t5.1⟩, fun c hcm => ?_⟩
    have hlt : c < s.heap.objs.size := by
      obtain ⟨x3, y3, s3⟩ := s3
      obtain ⟨_, e4, _⟩ := s4
      obtain ⟨_, e5, _⟩ := s5
      simp only [zlFp, List.mem_cons, List.not_mem_nil, or_false] at hcm
      rcases hcm with rfl | rfl | rfl | rfl | rfl
      · exact Heap.lt_size s1
      · exact Heap.lt_size s2
      · exact Heap.lt_size s3
      · exact Heap.lt_size e4
      · exact Heap.lt_size e5
    rw [upd_ne (Nat.ne_of_lt (Nat.lt_of_lt_of_le hlt hn))]
    exact (hf c hcm).1
  done := by
    intro X hP hw hK hc i pins s σ H E I hf ⟨s1, s2, s3, s4, s5⟩ ⟨xs, ys, qx, qy, ei⟩
    subst hP hw hK
    obtain ⟨us, ru, pu, _⟩ := I.list qx
    obtain ⟨ws, rw', pw, _⟩ := I.tuple qy
    have l1 := ru.length
    have l2 := rw'.length
    have en : i = min us.toArray.size ws.toArray.size := by simp only [List.size_toArray]; omega
    subst en
    exact (zl_goes (P := X.prog) (w := X.w) (elts := elts) (kk := kk) (tpos := tpos) (I.ok.hd hc) D us.toArray ws.toArray).stops s (fun s1 => Inv X pins σ H s1) E ⟨s1, s2, s3, ⟨s4, pu.isList⟩, s5, pw⟩ fun h' tk fr ht =>
      I.turnedL (t' := tk) (ch := zlFp z TI TO i1 i2) (fun c o hb e => fr c o (fun m => hb (by simp only [zlFp, List.mem_cons, List.not_mem_nil, or_false] at m ⊢; rcases m with m | m | m | m <;> simp [m])) e) hf
  self := fun A i s Q E st h => wpAny_pyIter_zip st.1 h
def iZipL (K : PySem.W.Frag) (ta : TA) : TI := fun σ H R => ta σ H fun vs H1 => ∃ a b xs ys, vs = [.ref a, .ref b] ∧ SqL K H1 a xs ∧ SqT K H1 b ys ∧ R (ItzL K a b) H1
theorem pi_zipL {X : Cx} {e e2 : Expr} {ta : TA} {p pos tpos : Pos} {elts : List Expr} {kk : Nat} (hg : Gl X "zip") (hm : X.mg "zip" = none) (ha : PA X [e, e2] ta)
    (hs : starEach [e, e2] X.env = (false, eval e X.env) :: starEach [e2] X.env := by rfl) (hpl : (backTo pos (starEach [e2] X.env)).any (·.1) = false := by rfl) :
    PI X (.Tuple elts kk tpos) (.Call (.Name "zip" p) [e, e2] [] pos) (iZipL X.K ta) := by
  refine ⟨fun pins s σ H R I h => ?_⟩
  refine Call_ (ld_blt I hg hm PyProof.Rows.boot_zip (PyProof.Rows.callWith_type1 (thn (ha.run pos pins s σ H _ I h) fun us s1 ⟨vs, H1, I1, r1, q1⟩ => ?_) hs hpl))
  obtain ⟨a, b, xs, ys, ex, qx, qy, q⟩ := q1
  subst ex
  obtain ⟨ua, ub, rfl, ra, rb⟩ := vals2 r1
  cases ra
  cases rb
  obtain ⟨us, ru, pu, _⟩ := I1.list qx
  obtain ⟨ws, rw', pw, _⟩ := I1.tuple qy
  have fresh : ∀ c ∈ zlFp (s1.heap.objs.size + 4) (s1.heap.objs.size + 2) (s1.heap.objs.size + 3) s1.heap.objs.size (s1.heap.objs.size + 1), FpOk X pins H1 c := fun c hc => by
    have le : s1.heap.objs.size ≤ c := by
      simp only [zlFp, List.mem_cons, List.not_mem_nil, or_false] at hc
      rcases hc with rfl | rfl | rfl | rfl | rfl
      · exact Nat.le_add_right _ _
      · exact Nat.le_add_right _ _
      · exact Nat.le_add_right _ _
      · exact Nat.le_refl _
      · exact Nat.le_add_right _ _
    exact I1.fpOk le (I1.hok.fresh le)
  have pa : s1.heap.IsTuple b ws.toArray := pw
  refine zip_begins2 (begins_list a us.toArray) (begins_tuple b ws.toArray) pu.isList pa fun h' z1 z2 z3 z4 z5 z6 k => wpAny_pyIter_zip z1 ?_
  have I2 : Inv X pins σ H1 { s1 with heap := h' } := I1.kept (t' := s1.toks) k
  obtain ⟨oa, ea, _⟩ := pa
  refine ⟨s1.heap.objs.size + 4, zlFp (s1.heap.objs.size + 4) (s1.heap.objs.size + 2) (s1.heap.objs.size + 3) s1.heap.objs.size (s1.heap.objs.size + 1), _, _, H1, rfl, I2, turn_zipL (PySem.W.ktu_apart s1.heap.objs.size a b pu.lt (Heap.lt_size ea)), ⟨z1, z2, ⟨_, _, z3⟩, ⟨_, z4, rfl, rfl⟩, ⟨_, z5, rfl, rfl⟩⟩, fresh, q⟩
def zipLN : List PyData → Option (List PyData)
  | [.list ds, .tuple es] => some (prs ds es)
  | _ => none
def fZipL (r : FE (List PyData)) : FE (List PyData) := thnE r fun xs => liftO (zipLN xs)
section
variable {X : Cx} {bb : Bool} {e e2 : Expr} {p pos tpos : Pos}
theorem i_zipL {elts : List Expr} {kk : Nat} {ra : FE (List PyData)} (hg : Gl X "zip") (hm : X.mg "zip" = none) (ha : PA X [e, e2] (tA X.K bb ra))
    (hs : starEach [e, e2] X.env = (false, eval e X.env) :: starEach [e2] X.env := by rfl) (hpl : (backTo pos (starEach [e2] X.env)).any (·.1) = false := by rfl) :
    PI X (.Tuple elts kk tpos) (.Call (.Name "zip" p) [e, e2] [] pos) (tIw true X.K bb (fZipL ra)) := PI.weak (pi_zipL hg hm ha hs hpl) fun σ H R ⟨G, ρ, ds, ρ', E, ef, k⟩ => by
  obtain ⟨x, ρ1, h1, h2⟩ := thnE_of ef
  obtain ⟨h3, rfl⟩ := liftO_of h2
  refine ⟨G, ρ, x, ρ', E, h1, fun v G1 H1 t1 o1 E1 d1 => ?_⟩
  unfold zipLN at h3
  split at h3
  case h_2 => cases h3
  rename_i ds2 es2
  cases h3
  obtain ⟨v, u, rfl, dv, du⟩ := da_two d1
  obtain ⟨a, xs, rfl, hx, dx⟩ := dt_list dv
  obtain ⟨b, ys, rfl, hy, dy⟩ := dt_tup du
  refine ⟨a, b, xs, ys, rfl, (hx.mono E1.ex).sq, Evl.ex_t E1.ex hy, k _ G1 H1 t1 o1 E1 ?_⟩
  have hl : (prs ds2 es2).length = min xs.length ys.length := by rw [prs_len, dx.len, dy.len]
  refine ⟨fun i H hi ex => ⟨xs, ys, xs[i]'(by omega), ys[i]'(by omega), (hx.mono ex).sq, Evl.ex_t ex hy, List.getElem?_eq_getElem _, List.getElem?_eq_getElem _⟩,
    fun H ex => ⟨xs, ys, (hx.mono ex).sq, Evl.ex_t ex hy, hl⟩, fun i H y H' d hd ex q G2 e1 e2 => ?_⟩
  obtain ⟨T, z, z2, rfl, hT, rfl, q, q2⟩ := q
  obtain ⟨da, db, k1, k2, rfl⟩ := prs_get hd
  obtain ⟨w, h4, h5⟩ := dx.get k1
  obtain ⟨w2, h6, h7⟩ := dy.get k2
  have r1 := q xs ((hx.mono ex).sq)
  have r2 := q2 ys (Evl.ex_t ex hy)
  rw [h4] at r1
  rw [h6] at r2
  cases r1
  cases r2
  exact pair_yld hT e1 e2 h5 h7
end
end Tw

set_option Elab.async false
set_option linter.all false
set_option maxRecDepth 100000
set_option maxHeartbeats 2000000
namespace Tw
open PySem PySem.Spec PyProof.Rows L2
open Evl (Ex)
/-! ### texts cut, texts turned about -/
section
variable {X : Cx} {e : Expr} {pos : Pos} {bb : Bool} {f : FE PyData} {K : PySem.W.Frag}
theorem dt_text {G : Hp} {v : V} {z : Str} (h : Dt K G v (.str z)) : v = .str z := by
  cases h
  rfl
def slS (x : PyData) (lo hi : Option Int) : Option PyData := match x with
  | .str z => if z.length ≤ sizeLine then some (.str (cutS z lo hi)) else none
  | _ => none
def fSlS (f : FE PyData) (lo hi : FE (Option Int)) : FE PyData := thnE f fun x => thnE lo fun l => thnE hi fun h => liftO (slS x l h)
theorem e_slS {lo hi : Option Expr} {flo fhi : FE (Option Int)} {p2 : Pos} (he : PE X e (tE X.K bb f)) (hl : PO X lo (tO X.K bb flo)) (hh : PO X hi (tO X.K bb fhi)) :
    PE X (.Subscript e (.Slice lo hi none p2) pos) (tE X.K bb (fSlS f flo fhi)) := PE.weak (pe_slice sl_str he hl hh) fun σ H Q ⟨G, ρ, d, ρ', E, ef, k⟩ => by
  obtain ⟨x, ρ1, h1, h2⟩ := thnE_of ef
  obtain ⟨l, ρ2, h3, h4⟩ := thnE_of h2
  obtain ⟨u, ρ3, h5, h6⟩ := thnE_of h4
  obtain ⟨h7, rfl⟩ := liftO_of h6
  refine ⟨G, ρ, x, ρ1, E, h1, fun v G1 H1 t1 o1 E1 d1 => ⟨G1, ρ1, l, ρ2, E1, h3, fun G2 H2 t2 o2 E2 => ⟨G2, ρ2, u, ρ', E2, h5, fun G3 H3 t3 o3 E3 => ?_⟩⟩⟩
  have t := (t1.seq o1 t2).seq (fun l q => o1 l (o2 l q)) t3
  have o : ∀ l, own σ ρ' l → own σ ρ l := fun l q => o1 l (o2 l (o3 l q))
  unfold slS at h7
  split at h7
  case h_2 => cases h7
  obtain ⟨hz, rfl⟩ := ite_p h7
  exact ⟨_, dt_text d1, hz, k _ G3 H3 t o E3 (.ss _)⟩
def revS (z : Str) : Str := { cps := (List.filterMap (fun i => z.cps[i]?) (Builtin.Str.strSliceIndices none none (-1) z.length)).toArray }
def tRevS (te : TE) : TE := fun σ H Q => te σ H fun x H1 => ∃ z, x = .str z ∧ (revS z).length ≤ sizeLine ∧ Q (.str (revS z)) H1
theorem pe_revS {te : TE} {k : Nat} {p1 p2 p3 : Pos} (he : PE X e te) : PE X (.Subscript e (.Slice none none (some (.UnaryOp .USub (.Constant (.int 1) k p1) p2)) p3) pos) (tRevS te) := ⟨fun pins s σ H Q I h => by
  refine Subscript_ (thn (he.run pins s σ H _ I h) fun v s1 hz => ?_)
  obtain ⟨x, H1, I1, r1, z, ex, hlen, q⟩ := hz
  subst ex
  obtain ⟨tz, rfl⟩ := r1
  have st1 : PO X (some (.UnaryOp .USub (.Constant (.int 1) k p1) p2)) (tPart (tUn (rU fun i => .int (-i)) (tC (.int 1)))) := po_some (pe_un un_neg pe_int)
  refine wpAny_Slice (thn (po_none.run pins s1 σ H1 (fun o H2 => o = none ∧ H2 = H1) I1 ⟨rfl, rfl⟩) fun vl s2 hz => ?_)
  obtain ⟨_, _, I2, pl, rfl, rfl⟩ := hz
  refine thn (po_none.run pins s2 σ _ (fun o H3 => o = none ∧ H3 = _) I2 ⟨rfl, rfl⟩) fun vu s3 hz => ?_
  obtain ⟨_, _, I3, pu, rfl, rfl⟩ := hz
  refine thn (st1.run pins s3 σ _ (fun o H4 => o = some (-1) ∧ H4 = _) I3 ⟨1, rfl, -1, rfl, rfl, rfl⟩) fun vs s4 hz => ?_
  obtain ⟨_, _, I4, ps, rfl, rfl⟩ := hz
  have I5 : Inv X pins σ _ { s4 with heap := s4.heap.push { cls := .type "slice", data := .fields #[vl, vu, vs] } } := I4.kept (t' := s4.toks) fun b ob q => Heap.get?_push_of_some _ q
  show wpAny (model X.prog X.w) X.A (subscriptTail e (.Slice none none (some (.UnaryOp .USub (.Constant (.int 1) k p1) p2)) p3) (.str z tz) (.ref s4.heap.objs.size)) (EP X pins σ Q) X.xe { s4 with heap := s4.heap.push { cls := .type "slice", data := .fields #[vl, vu, vs] } }
  cases pl
  cases pu
  cases ps with
  | int i u =>
    refine tail_any (ops := [.str z tz, .ref s4.heap.objs.size]) (typeIs_str _ z tz) (F.slot_str_getitem.lookup) ?_ (by with_unfolding_all rfl)
    refine wpAny_getItem_str_slice (l := none) (u := none) (st := some (-1, u)) (Heap.IsSliceOf.new ..) rfl ?_
    show (sliceMade z tz none none (some (-1, u))).post _ _
    unfold sliceMade
    rw [if_neg (by rw [show ((Option.map (fun x : Int × Tok => x.fst) (some (-1, u))).getD 1 == 1) = false from rfl, Bool.false_and]; exact Bool.false_ne_true)]
    exact ⟨hlen, .str (revS z), _, Inv.tok I5 (s4.toks + 1), ⟨s4.toks, rfl⟩, q⟩⟩
def revT : PyData → Option PyData
  | .str z => if (revS z).length ≤ sizeLine then some (.str (revS z)) else none
  | _ => none
theorem e_revS {k : Nat} {p1 p2 p3 : Pos} (he : PE X e (tE X.K bb f)) : PE X (.Subscript e (.Slice none none (some (.UnaryOp .USub (.Constant (.int 1) k p1) p2)) p3) pos) (tE X.K bb (fUn revT f)) :=
  PE.weak (pe_revS he) fun σ H Q ⟨G, ρ, d, ρ', E, ef, k⟩ => by
    obtain ⟨x, ρ1, h1, h2⟩ := thnE_of ef
    obtain ⟨h5, rfl⟩ := liftO_of h2
    refine ⟨G, ρ, x, ρ', E, h1, fun v G1 H1 t1 o1 E1 d1 => ?_⟩
    unfold revT at h5
    split at h5
    case h_2 => cases h5
    obtain ⟨hz, rfl⟩ := ite_p h5
    exact ⟨_, dt_text d1, hz, k _ G1 H1 t1 o1 E1 (.ss _)⟩
end
end Tw

set_option Elab.async false
set_option linter.all false
set_option maxRecDepth 100000
set_option maxHeartbeats 2000000
namespace Tw
open PySem PySem.Spec PyProof.Rows L2
open Evl (Ex)
/-! ### stores at places of a list of one's own, several at once: a[i], a[j] = x, y -/
section
variable {X : Cx} {e : Expr} {es : List Expr} {pos : Pos} {bb : Bool} {K : PySem.W.Frag} {P : List Nat}
/-- as tG, where a list of one's own may change -/
def tGh (K : PySem.W.Frag) (P : List Nat) (f : FG) : TG := fun v σ H Q => ∃ (G : Hp) (ρ : Rho) (d : PyData) (ρ' : Rho), EnvOk K G H σ ρ ∧ Dt K G v d ∧ f d ρ = some ρ' ∧ ∀ G1 H1, Stp P G H σ ρ G1 H1 σ ρ' → EnvOk K G1 H1 σ ρ' → Q σ H1
def tGhs (K : PySem.W.Frag) (P : List Nat) (fs : List FG) : TGs := fun vs σ H Q => ∃ (G : Hp) (ρ : Rho) (ds : List PyData) (ρ' : Rho), EnvOk K G H σ ρ ∧ Da K G vs ds ∧ gSeq fs ds ρ = some ρ' ∧ ∀ G1 H1, Stp P G H σ ρ G1 H1 σ ρ' → EnvOk K G1 H1 σ ρ' → Q σ H1
theorem ghs_nil : PGs X [] (tGhs X.K P []) := PGs.weak pgs_nil fun v σ H Q ⟨G, ρ, ds, ρ', E, dv, ef, k⟩ => by
  cases dv with
  | nil =>
    cases ef
    exact ⟨rfl, k G H ⟨.refl, fun _ q => .inl q, fun _ _ => rfl⟩ E⟩
  | cons h t => cases ef
theorem ghs_cons {f : FG} {fs : List FG} (h1 : PG X e (tGh X.K P f)) (h2 : PGs X es (tGhs X.K P fs)) (hs : (assignEach (e :: es) X.env).map (·.2) = assign e X.env :: (assignEach es X.env).map (·.2) := by rfl) :
    PGs X (e :: es) (tGhs X.K P (f :: fs)) := PGs.weak (pgs_cons h1 h2 hs) fun v σ H Q ⟨G, ρ, ds, ρ', E, dv, ef, k⟩ => by
  cases dv with
  | nil => cases ef
  | cons h t =>
    obtain ⟨ρ1, q1, q2⟩ := Option.bind_eq_some_iff.mp ef
    exact ⟨_, _, rfl, G, ρ, _, ρ1, E, h, q1, fun G1 H1 s1 E1 => ⟨G1, ρ1, _, ρ', E1, t.mono s1.t.g, q2, fun G2 H2 s2 E2 => k G2 H2 (s1.trans s2) E2⟩⟩
theorem gh_tp {k : Nat} {fs : List FG} (hc : X.calm = true) (h : PGs X es (tGhs X.K P fs)) (hn : (assignEach es X.env).length = fs.length := by rfl) (hst : (assignEach es X.env).findIdx? (·.1) = none := by rfl) :
    PG X (.Tuple es k pos) (tGh X.K P (gTp fs)) := PG.weak (pg_tup (n := fs.length) hc h hn hst) fun v σ H Q ⟨G, ρ, d, ρ', E, dv, ef, k⟩ => by
  unfold gTp at ef
  split at ef
  case h_2 => cases ef
  obtain ⟨a, xs, rfl, hx, dx⟩ := dt_tup dv
  exact ⟨a, xs, rfl, Evl.ex_t E.ex hx, by rw [dx.len]; exact gSeq_len ef, G, ρ, _, ρ', E, dx, ef, k⟩
/-- at a place of list n -/
def gIx (n : Nat) (fi : FE PyData) : FG := fun d ρ => match ρ[n]? with
  | some (.m (.l _)) => (fi ρ).bind fun q => match q.2[n]? with
    | some (.m (.l ms)) => (plI ms.length q.1).map fun j => q.2.set n (.m (.l (ms.set j d)))
    | _ => none
  | _ => none
theorem gh_ix {fi : FE PyData} (i : Nat) {tg : Expr} (ht : PG X tg (gSub (tVar i) (tE X.K true fi) rSet2)) : PG X tg (tGh X.K P (gIx i fi)) := PG.weak ht fun v σ H Q ⟨G, ρ, d, ρ', E, dv, ef, k⟩ => by
  unfold gIx at ef
  split at ef
  case h_2 => cases ef
  rename_i ms0 hi0
  obtain ⟨⟨dk, ρ2⟩, q3, q4⟩ := Option.bind_eq_some_iff.mp ef
  dsimp only at q4
  split at q4
  case h_2 => cases q4
  rename_i ms hi
  obtain ⟨j, hj, rfl⟩ := Option.map_eq_some_iff.mp q4
  obtain ⟨l, xs0, hσ, _, _, _⟩ := E.muL hi0
  refine ⟨.ref l, hσ, G, ρ, _, ρ2, E, q3, fun w G2 H2 t2 o2 E2 d2 => ?_⟩
  obtain ⟨l2, xs, hσ2, hG, hH, dx⟩ := E2.muL hi
  rw [hσ] at hσ2
  cases hσ2
  have own2 : own σ ρ2 l := ⟨i, ms, hi, hσ⟩
  have s12 : Stp P G H σ ρ G2 H2 σ ρ2 := .of t2 o2
  have fin : Q σ (upd H2 l (.lst (xs.set j v))) := by
    have t3 : Tr (fun a => a = l) G2 H2 G2 (upd H2 l (.lst (xs.set j v))) := tr_cell hG hH
    refine k G2 _ (s12.trans ⟨t3.wide fun a _ _ q => by rw [q]; exact own2, fun l' q => .inl (own_setM hi q), fun _ _ => rfl⟩) ?_
    exact env_setM E2 hi hσ t3 (ex_cell E2.ex hG) hG upd_same (.l (Da.set j (dv.mono t2.g) dx))
  unfold plI at hj
  split at hj
  · exact .inl ⟨l, xs, _, j, rfl, dt_int d2, hH, by rw [dx.len]; exact hj, fin⟩
  · obtain ⟨h3, rfl⟩ := ite_p hj
    exact .inr ⟨l, xs, _, rfl, dt_bool d2, hH, by rw [dx.len]; exact h3, fin⟩
  · cases hj
def fAsgH (fe : FE PyData) (g : FG) : FS := fun ρ => (fe ρ).bind fun p => (g p.1 p.2).map .nx
theorem s_asgH {fe : FE PyData} {g : FG} {tg : Expr} (he : PE X e (tE X.K bb fe)) (hg : PG X tg (tGh X.K P g)) (hs : swapsWithSole [tg] e pos.line X.env = pure false := by rfl) (hw : swappedStores [tg] e X.env = pure none := by rfl)
    (h1 : (assignEach [tg] X.env).map (·.2) = [assign tg X.env] := by rfl) : PS X (.Assign [tg] e pos) (tS X.K P (fAsgH fe g)) := PS.weak (ps_asg he hg hs hw h1) fun D σ H ⟨G, ρ, o, E, ef, k⟩ => by
  obtain ⟨⟨d, ρ1⟩, q1, q2⟩ := Option.bind_eq_some_iff.mp ef
  obtain ⟨ρ2, q3, rfl⟩ := Option.map_eq_some_iff.mp q2
  exact ⟨G, ρ, d, ρ1, E, q1, fun v G1 H1 t1 o1 E1 d1 => ⟨G1, ρ1, d, ρ2, E1, d1, q3, fun G2 H2 s2 E2 => k σ G2 H2 ((Stp.of t1 o1).trans s2) E2⟩⟩
end
end Tw

set_option Elab.async false
set_option linter.all false
set_option maxRecDepth 100000
set_option maxHeartbeats 4000000
namespace Tw
open PySem PySem.Spec PyProof.Rows
open PySem.SeqAt PySem.AutoSeq1
/-! ### a pair whose first is a dict, in a row of pairs whose first is a text -/
theorem rc_eq_sd {A : Around} {s : Shared} {l : Addr} (x : Str) (u : Tok) (hl : IsD s l) (hu : A.units < cLine) : RcAt A s (.str x u) (.ref l) false := fun prog w E Q h => by
  obtain ⟨dd, es, n, sl, ho⟩ := hl.ex
  exact rc_eq_decline_or (k := false) rfl ⟨_, ho, rfl⟩ (by decide) F.sub_dict_str F.slot_str_eq F.slot_dict_eq_refl
    (fun _ hq => call_meets F.slot_str_eq rfl F.entry_str_eq (F.args_str_eq_2 _ _) (kd_eq_s l dd es n sl x u) ⟨ho, hq⟩)
    (fun _ hq => call_meets F.slot_dict_eq_refl ⟨_, ho, rfl⟩ F.entry_dict_eq (F.args_dict_eq_2 _ _) (dk_eq_s l dd es n sl x u) ⟨ho, hq⟩)
    (fun _ hq => wpAny_of_eq (rfl : isSame (.str x u) (.ref l) = pure false) hq) (.inr hu) h
theorem eq_sd {A : Around} {s : Shared} {l : Addr} (x : Str) (u : Tok) (hl : IsD s l) (hu : A.units < cLine) : EqAt A s (.str x u) (.ref l) false := fun prog w E Q hq => by
  unfold eqBool
  exact wpAny_holding (wpAny_ite_split (fun z => absurd (eq_of_beq z) (fun z => nomatch z)) fun _ => wpAny_bind (rc_eq_sd x u hl hu prog w E _ (wpAny_truthy_bool hq)))
def hdF (b : Bool) : Nat → Bool
  | 0 => false
  | _ => b
theorem eq_pairsD {A : Around} {s : Shared} {p q : List Addr} {k : Str} {r d2 : PyData} {es : List (PyData × PyData)} (hr : r.plain = true) (hd : d2.plain = true) (hu : A.units + 1 + r.depth < cLine) : ∀ (vl wl : List Value), ReadsAll s.heap vl [.str k, r] p → ReadsAll s.heap wl [.dict es, d2] q → ∀ j (h1 : j < vl.length) (h2 : j < wl.length), EqAt A s vl[j] wl[j] (hdF (PyData.eqv r d2) j)
  | _, _, .cons r1 (.cons r2 .nil), .cons q1 (.cons q2 .nil), 0, _, _ => by
    cases r1 with
    | str =>
      cases q1 with
      | dict g1 g2 g3 g4 g5 => exact eq_sd _ _ (IsD.of g1 g2 g3) (by omega)
  | _, _, .cons r1 (.cons r2 .nil), .cons q1 (.cons q2 .nil), 1, _, _ => eqAt_plain r d2 A s _ _ _ _ r2 q2 hr hd (by have := Nat.min_le_left r.depth d2.depth; omega)
  | _, _, .cons r1 (.cons r2 .nil), .cons q1 (.cons q2 .nil), j + 2, h1, _ => absurd h1 (by simp)
theorem eq_pairD {A : Around} {s : Shared} {a b : Value} {p q : List Addr} {k : Str} {r d2 : PyData} {es : List (PyData × PyData)} (ra : Reads s.heap a (.tuple [.str k, r]) p) (rb : Reads s.heap b (.tuple [.dict es, d2]) q) (hr : r.plain = true) (hd : d2.plain = true) (hu : A.units + 2 + r.depth < cLine) : EqAt A s a b false := by
  have pa : (PyData.tuple [.str k, r]).plain = true := by
    show (true && (r.plain && true)) = true
    rw [hr]
    rfl
  cases ra with
  | @tuple l o vs n xs as1 h1 h2 h3 h4 =>
    cases rb with
    | @tuple m o2 ws n2 ys bs1 k1 k2 k3 k4 =>
      have hl : s.heap.IsTuple l vs := ⟨_, h1, h2, _, h3⟩
      have hm : s.heap.IsTuple m ws := ⟨_, k1, k2, _, k3⟩
      have n1 : vs.size = 2 := by simpa using ReadsAll.length _ _ _ h4
      have n2' : ws.size = 2 := by simpa using ReadsAll.length _ _ _ k4
      refine EqAt.of_refs (fun z => ?_) ?_
      · subst z
        have := plain_unique (.tuple [.str k, r]) (.tuple [.dict es, d2]) _ _ _ pa (.tuple h1 h2 h3 h4) (.tuple k1 k2 k3 k4)
        injection this with this
        injection this with this _
        cases this
      · have f := RcAt.tuples (A := A) (e := hdF (PyData.eqv r d2)) hl hm (by omega) fun j j1 j2 => by
            have := eq_pairsD (A := A.in1) hr hd (by rw [un_in]; omega) vs.toList ws.toList h4 k4 j (by simpa using j1) (by simpa using j2)
            simpa using this
        rw [n1, n2'] at f
        exact f
end Tw
namespace Tw
open PySem PySem.Spec PyProof.Rows L2
open Evl (Ex)
section
variable {X : Cx} {K : PySem.W.Frag} {bb : Bool}
def pairS : PyData → Bool
  | .tuple [.str _, r] => r.plain && decide (r.depth ≤ 30)
  | _ => false
def inqB : PyData → List PyData → Bool
  | .tuple [.dict _, d2], ys => d2.plain && ys.all pairS
  | _, _ => false
def rInQ (K : PySem.W.Frag) : R2 := fun x y H Q => ∃ d ys, Dt K H x d ∧ Dt K H y (.tuple ys) ∧ inqB d ys = true ∧ Q (.bl false) H
theorem reads_mem {h : Heap} : ∀ {us : List Value} {ys : List PyData} {q : List Addr}, ReadsAll h us ys q → ∀ y ∈ us, ∃ d, d ∈ ys ∧ ∃ q', Reads h y d q'
  | _, _, _, .nil, y, hy => nomatch hy
  | _, _, _, .cons r rs, y, hy => by
    rcases List.mem_cons.mp hy with rfl | hy
    · exact ⟨_, List.mem_cons_self .., _, r⟩
    · obtain ⟨d, h1, h2⟩ := reads_mem rs y hy
      exact ⟨d, List.mem_cons_of_mem _ h1, h2⟩
theorem op_inQ (hu : X.A.units + 64 < cLine) : OpR X (compareOp .In) (rInQ X.K) := by
  intro pins s σ H x y v u Q I rx ry ⟨d, ys, hd, he, hl, q⟩
  obtain ⟨as, r1⟩ := hd.reads I rx
  obtain ⟨bs, r2⟩ := he.reads I ry
  unfold inqB at hl
  split at hl
  case h_2 => cases hl
  obtain ⟨l1, l2⟩ := Bool.and_eq_true_iff.mp hl
  cases r2 with
  | @tuple l o us n _ as1 h1 h2 h3 h4 =>
    refine SeqAt.in_tupleAt (items := us) (fun _ => false) ⟨_, h1, h2, _, h3⟩ (fun y hy => ?_) ?_
    · obtain ⟨dy, m1, q', m2⟩ := reads_mem h4 y (by simpa using hy)
      have ps := List.all_eq_true.mp l2 dy m1
      unfold pairS at ps
      split at ps
      case h_2 => cases ps
      obtain ⟨p1, p2⟩ := Bool.and_eq_true_iff.mp ps
      have p2 := of_decide_eq_true p2
      exact eq_pairD m2 r1 p1 l1 (by rw [un_in]; omega)
    · rw [Array.any_eq_false.mpr fun _ _ => Bool.false_ne_true]
      exact ⟨.bl _, H, I, rfl, q⟩
def inQ : PyData → PyData → Option PyData
  | d, .tuple ys => if inqB d ys = true then some (.bool false) else none
  | _, _ => none
theorem d_inQ : OpD K (rInQ K) inQ := fun G H x y d e z Q ex hd he hz k => by
  unfold inQ at hz
  split at hz
  case h_2 => cases hz
  obtain ⟨h3, rfl⟩ := ite_p hz
  exact ⟨d, _, hd.mono ex, he.mono ex, h3, k _ G H .refl ex (.bb _)⟩
def inH (d e : PyData) : Option PyData := (inG false d e).or (inQ d e)
theorem op_inH (hu : X.A.units + 64 < cLine) : OpR X (compareOp .In) (fun x y H Q => (rIn X.K false x y H Q ∨ rInP X.K false x y H Q) ∨ rInQ X.K x y H Q) := (op_inG hu).or (op_inQ hu)
theorem d_inH : OpD K (fun x y H Q => (rIn K false x y H Q ∨ rInP K false x y H Q) ∨ rInQ K x y H Q) inH := (d_inG false).or d_inQ
end
end Tw

set_option Elab.async false
set_option linter.all false
set_option maxRecDepth 100000
set_option maxHeartbeats 2000000
namespace Tw
open PySem PySem.Spec PyProof.Rows L2
open Evl (Ex)
/-! ### a list of one's own and a new one, put together: xs + [..] -/
def fOwnAdd (i : Nat) (fb : FE PyData) : FE (List PyData) := fun ρ => match ρ[i]? with
  | some (.m (.l _)) => (fb ρ).bind fun p => match p.2[i]? with
    | some (.m (.l ms)) => (match p.1 with
      | .list es => if sizeOk (ms.length + es.length) = true then some (ms ++ es) else none
      | _ => none).map fun d => (d, p.2)
    | _ => none
  | _ => none
theorem l_ownAdd {X : Cx} {a b : Expr} {pos : Pos} {fb : FE PyData} (i : Nat) (ha : PE X a (tVar i)) (hb : PE X b (tE X.K true fb)) :
    PE X (.BinOp a .Add b pos) (tF X.K true (fOwnAdd i fb)) := PE.weak (pe_op op_catR ha hb) fun σ H Q ⟨G, ρ, ds, ρ', E, ef, k⟩ => by
  unfold fOwnAdd at ef
  split at ef
  case h_2 => cases ef
  rename_i ms hi
  obtain ⟨⟨y, ρ1⟩, h1, h2⟩ := Option.bind_eq_some_iff.mp ef
  dsimp only at h2
  split at h2
  case h_2 => cases h2
  rename_i ms1 hk
  obtain ⟨z, h3, h4⟩ := Option.map_eq_some_iff.mp h2
  cases h4
  obtain ⟨l, xs, e1, e2, e3, e4⟩ := E.muL hi
  refine ⟨.ref l, e1, G, ρ, y, ρ', E, h1, fun u G1 H1 t1 o1 E1 d1 => ?_⟩
  obtain ⟨l1, xs1, f1, f2, f3, f4⟩ := E1.muL hk
  rw [e1] at f1
  cases f1
  split at h3
  case h_2 => cases h3
  obtain ⟨hs, rfl⟩ := ite_p h3
  obtain ⟨c, ys, rfl, hy, dy⟩ := dt_list d1
  refine ⟨l, c, xs1, ys, rfl, rfl, RL.of f3, hy.mono E1.ex, by rw [f4.len, dy.len]; exact sizeOk_le hs, fun p hp => ?_⟩
  have t3 : Tr nobody G1 H1 G1 (upd H1 p (.lst (xs1 ++ ys))) := tr_mk0 hp
  exact k p _ G1 _ (tr_back t1 hp) (E1.gn hp) upd_same (f4.app dy) (t1.trans t3 fun _ _ _ q => q.elim) o1 (E1.tr t3 (ex_new E1.ex hp))
/-! ### str of a number -/
def strI : List PyData → Option PyData
  | [.int i] => if i.natAbs.log2 < 1920 then some (.str (toString i)) else none
  | _ => none
def rStrI : List V → Hp → VK → Prop := fun xs H Q => ∃ i : Int, xs = [.int i] ∧ i.natAbs.log2 < 1920 ∧ Q (.str (toString i)) H
theorem call_strI {X : Cx} : CallR X (.type "str") rStrI := call_str_int
theorem d_strI {K : PySem.W.Frag} : CallD K rStrI strI := fun G H xs ds z Q ex hd hz k => by
  unfold strI at hz
  split at hz
  case h_2 => cases hz
  obtain ⟨hl, rfl⟩ := ite_p hz
  obtain ⟨v, rfl, h⟩ := da_one hd
  exact ⟨_, by rw [dt_int h], hl, k _ G H .refl ex (.ss _)⟩
end Tw

set_option Elab.async false
set_option linter.all false
set_option maxRecDepth 100000
set_option maxHeartbeats 2000000
namespace Tw
open PySem PySem.Spec PyProof.Rows L2
open Evl (Ex)
/-! ### a dict among texts -/
section
variable {X : Cx} {K : PySem.W.Frag} {bb : Bool}
def isTxt : PyData → Bool
  | .str _ => true
  | _ => false
def insB : PyData → List PyData → Bool
  | .dict _, ys => ys.all isTxt
  | _, _ => false
def rInS (K : PySem.W.Frag) (neg : Bool) : R2 := fun x y H Q => ∃ d ys, Dt K H x d ∧ Dt K H y (.tuple ys) ∧ insB d ys = true ∧ Q (.bl neg) H
theorem eq_ds {A : Around} {s : Shared} {a b : Value} {p q : List Addr} {d : PyData} {es : List (PyData × PyData)} (ra : Reads s.heap a d p) (hd : isTxt d = true) (rb : Reads s.heap b (.dict es) q) (hu : A.units < cLine) : SeqAt.EqAt A s a b false := by
  cases ra with
  | str x u =>
    cases rb with
    | dict g1 g2 g3 g4 g5 => exact eq_sd _ _ (IsD.of g1 g2 g3) hu
  | _ => cases hd
theorem op_notInS (hu : X.A.units + 64 < cLine) : OpR X (compareOp .NotIn) (rInS X.K true) := by
  intro pins s σ H x y v u Q I rx ry ⟨d, ys, hd, he, hl, q⟩
  obtain ⟨as, r1⟩ := hd.reads I rx
  obtain ⟨bs, r2⟩ := he.reads I ry
  unfold insB at hl
  split at hl
  case h_2 => cases hl
  cases r2 with
  | @tuple l o us n _ as1 h1 h2 h3 h4 =>
    refine SeqAt.notIn_tupleAt (items := us) (fun _ => false) ⟨_, h1, h2, _, h3⟩ (fun y hy => ?_) ?_
    · obtain ⟨dy, m1, q', m2⟩ := reads_mem h4 y (by simpa using hy)
      exact eq_ds m2 (List.all_eq_true.mp hl dy m1) r1 (by rw [un_in]; omega)
    · rw [Array.any_eq_false.mpr fun _ _ => Bool.false_ne_true]
      exact ⟨.bl _, H, I, rfl, q⟩
def inS (neg : Bool) : PyData → PyData → Option PyData
  | d, .tuple ys => if insB d ys = true then some (.bool neg) else none
  | _, _ => none
theorem d_inS (neg : Bool) : OpD K (rInS K neg) (inS neg) := fun G H x y d e z Q ex hd he hz k => by
  unfold inS at hz
  split at hz
  case h_2 => cases hz
  obtain ⟨h3, rfl⟩ := ite_p hz
  exact ⟨d, _, hd.mono ex, he.mono ex, h3, k _ G H .refl ex (.bb _)⟩
def ninT (d e : PyData) : Option PyData := (inG true d e).or (inS true d e)
theorem op_ninT (hu : X.A.units + 64 < cLine) : OpR X (compareOp .NotIn) (fun x y H Q => (rIn X.K true x y H Q ∨ rInP X.K true x y H Q) ∨ rInS X.K true x y H Q) := (op_notInG hu).or (op_notInS hu)
theorem d_ninT : OpD K (fun x y H Q => (rIn K true x y H Q ∨ rInP K true x y H Q) ∨ rInS K true x y H Q) ninT := (d_inG true).or (d_inS true)
/-! ### one new list or another: [..] if t else [..] -/
def fIfL (g : FE Bool) (fa fb : FE (List PyData)) : FE (List PyData) := thnE g fun c => if c = true then fa else fb
theorem l_if {a b c : Expr} {pos : Pos} {g : FE Bool} {fa fb : FE (List PyData)} (ht : PT X c (tT X.K bb g)) (ha : PE X a (tF X.K bb fa)) (hb : PE X b (tF X.K bb fb)) : PE X (.IfExp c a b pos) (tF X.K bb (fIfL g fa fb)) := PE.weak (pe_ifExp ht ha hb) fun σ H Q ⟨G, ρ, ds, ρ', E, ef, k⟩ => by
  obtain ⟨q, ρ1, h1, h2⟩ := thnE_of ef
  refine ⟨G, ρ, q, ρ1, E, h1, fun G1 H1 t1 o1 E1 => ?_⟩
  cases q with
  | true =>
    rw [if_pos rfl]
    exact ⟨G1, ρ1, ds, ρ', E1, h2, fun p xs G2 H2 z0 hG hp da t2 o2 E2 => k p xs G2 H2 (tr_back t1 z0) hG hp da (t1.seq o1 t2) (fun l q => o1 l (o2 l q)) E2⟩
  | false =>
    rw [if_neg Bool.false_ne_true]
    exact ⟨G1, ρ1, ds, ρ', E1, h2, fun p xs G2 H2 z0 hG hp da t2 o2 E2 => k p xs G2 H2 (tr_back t1 z0) hG hp da (t1.seq o1 t2) (fun l q => o1 l (o2 l q)) E2⟩
end
end Tw

set_option Elab.async false
set_option linter.all false
set_option maxRecDepth 100000
set_option maxHeartbeats 2000000
/-! ### reckoning a denotation at given slots, from the outside in -/
namespace Tw
open PySem PySem.Spec PyProof.Rows L2
section
variable {α β : Type} {ρ ρ1 ρ2 : Rho} {x : α} {d e : PyData} {ds es ms : List PyData} {i n : Nat}
def tk (o : Option (α × Rho)) (g : α → FE β) : Option (β × Rho) := o.bind fun p => g p.1 p.2
theorem r_thn {f : FE α} {g : α → FE β} : thnE f g ρ = tk (f ρ) g := rfl
theorem r_tk {g : α → FE β} : tk (some (x, ρ)) g = g x ρ := rfl
theorem r_tk0 {g : α → FE β} : tk none g = none := rfl
theorem r_ret : Tw.ret x ρ = some (x, ρ) := rfl
theorem r_lift : liftO (some x) ρ = some (x, ρ) := rfl
theorem r_lift0 : liftO (none : Option α) ρ = none := rfl
def vk (o : Option Sl) (ρ : Rho) : Option (PyData × Rho) := match o with
  | some (.d x) => some (x, ρ)
  | _ => none
theorem r_var : fVar i ρ = vk ρ[i]? ρ := rfl
theorem r_vk : vk (some (.d d)) ρ = some (d, ρ) := rfl
theorem r_bin {g : PyData → PyData → Option PyData} {fa fb : FE PyData} : fBin g fa fb ρ = tk (fa ρ) fun x => thnE fb fun y => liftO (g x y) := rfl
theorem r_un {g : PyData → Option PyData} {fa : FE PyData} : fUn g fa ρ = tk (fa ρ) fun x => liftO (g x) := rfl
theorem r_nil : fNil ρ = some ([], ρ) := rfl
theorem r_cons {f : FE PyData} {r : FE (List PyData)} : fCons f r ρ = tk (f ρ) fun x => thnE r fun xs => Tw.ret (x :: xs) := rfl
theorem r_tup {r : FE (List PyData)} : fTup r ρ = tk (r ρ) fun xs => liftO (if sizeOk xs.length then some (.tuple xs) else none) := rfl
theorem r_of {r : FE (List PyData)} : fOf r ρ = tk (r ρ) fun xs => Tw.ret (.list xs) := rfl
theorem r_call {g : List PyData → Option PyData} {r : FE (List PyData)} : fCall g r ρ = tk (r ρ) fun xs => liftO (g xs) := rfl
def kt (o : Option (PyData × Rho)) : Option (Bool × Rho) := tk o fun x => match x with
  | .bool b => Tw.ret b
  | _ => fun _ => none
theorem r_tst {f : FE PyData} : fTst f ρ = kt (f ρ) := rfl
theorem r_kt {b : Bool} : kt (some (.bool b, ρ)) = some (b, ρ) := rfl
def ik {γ : Type} (o : Option (Bool × Rho)) (f g : Rho → Option γ) : Option γ := o.bind fun p => if p.1 = true then f p.2 else g p.2
theorem r_ikT {γ : Type} {f g : Rho → Option γ} : ik (some (true, ρ)) f g = f ρ := rfl
theorem r_ikF {γ : Type} {f g : Rho → Option γ} : ik (some (false, ρ)) f g = g ρ := rfl
theorem r_ite {c : Bool} {γ : Type} {f g : Rho → Option γ} : (if c = true then f else g) ρ = ik (some (c, ρ)) f g := by cases c <;> rfl
theorem r_if {t : FE Bool} {f g : FS} : fIfS t f g ρ = ik (t ρ) f g := rfl
theorem tk_ite {t : Option (Bool × Rho)} {f g : FE α} : (tk t fun c => if c = true then f else g) = ik t f g := by
  unfold tk ik
  cases t with
  | none => rfl
  | some p => obtain ⟨c, r⟩ := p; cases c <;> rfl
theorem r_ife {t : FE Bool} {f g : FE PyData} : fIf t f g ρ = ik (t ρ) f g := tk_ite
theorem r_and {f g : FE Bool} : tdAnd f g ρ = ik (f ρ) g (Tw.ret false) := tk_ite
theorem r_or {f g : FE Bool} : tdOr f g ρ = ik (f ρ) (Tw.ret true) g := tk_ite
theorem r_not {f : FE Bool} : tdNot f ρ = tk (f ρ) fun c => Tw.ret (!c) := rfl
theorem r_vand {f g : FE PyData} : vAnd f g ρ = ik (kt (f ρ)) g (Tw.ret (.bool false)) := tk_ite
theorem r_vor {f g : FE PyData} : vOr f g ρ = ik (kt (f ρ)) (Tw.ret (.bool true)) g := tk_ite
theorem r_vnot {f : FE PyData} : vNot f ρ = tk (kt (f ρ)) fun c => Tw.ret (.bool (!c)) := rfl
def hk (y : PyData) (g' : PyData → PyData → Option PyData) (fc : FE PyData) (k : PyData) : FE PyData := match k with
  | .bool true => thnE fc fun z => liftO (g' y z)
  | .bool false => Tw.ret (.bool false)
  | _ => fun _ => none
theorem r_chain {g g' : PyData → PyData → Option PyData} {fa fb fc : FE PyData} : fChain g g' fa fb fc ρ = tk (fa ρ) fun x => thnE fb fun y => thnE (liftO (g x y)) (hk y g' fc) := rfl
theorem r_hkT {g' : PyData → PyData → Option PyData} {fc : FE PyData} : hk d g' fc (.bool true) ρ = tk (fc ρ) fun z => liftO (g' d z) := rfl
theorem r_hkF {g' : PyData → PyData → Option PyData} {fc : FE PyData} : hk d g' fc (.bool false) ρ = some (.bool false, ρ) := rfl
def ok (x : PyData) : FE (Option Int) := match x with
  | .int i => Tw.ret (some i)
  | _ => fun _ => none
theorem r_part {f : FE PyData} : fPart f ρ = tk (f ρ) ok := rfl
theorem r_ok {j : Int} : ok (.int j) ρ = some (some j, ρ) := rfl
theorem r_sl {f : FE PyData} {lo hi : FE (Option Int)} : fSl f lo hi ρ = tk (f ρ) fun x => thnE lo fun l => thnE hi fun h => liftO (slD x l h) := rfl
/-! rows -/
def sk (o : Option Out) (g : FS) : Option Out := o.bind fun o => match o with
  | .nx ρ' => g ρ'
  | o => some o
theorem r_seq {f g : FS} : fSeq f g ρ = sk (f ρ) g := rfl
theorem r_skN {g : FS} : sk (some (.nx ρ)) g = g ρ := rfl
theorem r_skR {g : FS} : sk (some (.rt d ρ)) g = some (.rt d ρ) := rfl
theorem r_skF {g : FS} : sk (some (.rf ds ρ)) g = some (.rf ds ρ) := rfl
theorem r_skB {g : FS} : sk (some (.bk ρ)) g = some (.bk ρ) := rfl
theorem r_skC {g : FS} : sk (some (.ct ρ)) g = some (.ct ρ) := rfl
theorem r_next : fNext ρ = some (.nx ρ) := rfl
def rk (o : Option (PyData × Rho)) : Option Out := o.map fun p => .rt p.1 p.2
theorem r_retS {f : FE PyData} : fRet f ρ = rk (f ρ) := rfl
theorem r_rk : rk (some (d, ρ)) = some (.rt d ρ) := rfl
def rfk (o : Option (List PyData × Rho)) : Option Out := o.map fun p => .rf p.1 p.2
theorem r_retF {f : FE (List PyData)} : fRetF f ρ = rfk (f ρ) := rfl
theorem r_rfk : rfk (some (ds, ρ)) = some (.rf ds ρ) := rfl
def dk (o : Option (PyData × Rho)) : Option Out := o.map fun p => .nx p.2
theorem r_drop {f : FE PyData} : fDrop f ρ = dk (f ρ) := rfl
theorem r_dk : dk (some (d, ρ)) = some (.nx ρ) := rfl
def gk2 (o : Option Rho) : Option Out := o.map .nx
def gk (o : Option (PyData × Rho)) (g : FG) : Option Out := o.bind fun p => (g p.1 p.2).map .nx
theorem r_asg {f : FE PyData} {g : FG} : fAsg f g ρ = gk (f ρ) g := rfl
theorem r_gk {g : FG} : gk (some (d, ρ)) g = gk2 (g d ρ) := rfl
theorem r_gk2 : gk2 (some ρ) = some (.nx ρ) := rfl
theorem r_nm (h : i < ρ.length) : gNm i d ρ = some (ρ.set i (.d d)) := if_pos h
theorem r_tp {fs : List FG} : gTp fs (.tuple ds) ρ = gSeq fs ds ρ := rfl
def qk (o : Option Rho) (fs : List FG) (ds : List PyData) : Option Rho := o.bind fun ρ1 => gSeq fs ds ρ1
theorem r_gs {f : FG} {fs : List FG} : gSeq (f :: fs) (d :: ds) ρ = qk (f d ρ) fs ds := rfl
theorem r_qk {fs : List FG} : qk (some ρ) fs ds = gSeq fs ds ρ := rfl
theorem r_gs0 : gSeq [] [] ρ = some ρ := rfl
/-! lists of one's own -/
def frk (o : Option Sl) (i : Nat) (ρ : Rho) : Option Rho := match o with
  | some (.m (.l ds)) => some (ρ.set i (.d (.list ds)))
  | some (.m (.k es)) => some (ρ.set i (.d (.dict es)))
  | _ => none
theorem r_froz : froz i ρ = frk ρ[i]? i ρ := rfl
theorem r_frk : frk (some (.m ms)) i ρ = some (ρ.set i (.d (.list ms))) := rfl
theorem r_frkK {es : List (PyData × PyData)} : frk (some (.m (.k es))) i ρ = some (ρ.set i (.d (.dict es))) := rfl
theorem r_ownK : fOwnK i ρ = if i < ρ.length then some (.nx (ρ.set i (.m (.k [])))) else none := rfl
theorem r_star {f : FE PyData} {g : FE (List PyData)} {ρ : Rho} : fStar f g ρ = tk (f ρ) fun d => thnE g fun xs => liftO (starN d xs) := rfl
theorem starL_ok {ds xs : List PyData} : starN (.list ds) xs = some (ds ++ xs) := rfl
theorem starT_ok {ds xs : List PyData} : starN (.tuple ds) xs = some (ds ++ xs) := rfl
theorem r_zipM {r : FE (List PyData)} {ρ : Rho} : fZipM r ρ = tk (r ρ) fun xs => liftO (zipMN xs) := rfl
theorem zipM_ok {ds es : List PyData} : zipMN [.tuple ds, .list es] = some (prs ds es) := rfl
theorem r_ixEd {es : List (PyData × PyData)} {j : Int} : ixE (.dict es) (.int j) = getE es (.inl j) := rfl
theorem r_ixEt {ds : List PyData} {x : PyData} : ixE (.tuple ds) x = ixD (.tuple ds) x := Option.or_none
theorem r_ixEl {ds : List PyData} {x : PyData} : ixE (.list ds) x = ixD (.list ds) x := Option.or_none
theorem r_inK {es : List (PyData × PyData)} {j : Int} : inK false (.int j) (.dict es) = some (.bool (hasE es (.inl j))) := rfl
theorem r_ninK {es : List (PyData × PyData)} {j : Int} : inK true (.int j) (.dict es) = some (.bool (!hasE es (.inl j))) := rfl
def pk2 (ρ : Rho) (o : Option (PyData × Rho)) : Option (PyData × Rho) := o.bind fun p => if atom p.1 = true then some (p.1, ρ) else none
def pk (o : Option Rho) (f : FE PyData) (ρ : Rho) : Option (PyData × Rho) := o.bind fun ρ1 => pk2 ρ (f ρ1)
theorem r_peek {f : FE PyData} : fPeek i f ρ = pk (froz i ρ) f ρ := rfl
theorem r_pk {f : FE PyData} : pk (some ρ1) f ρ = pk2 ρ (f ρ1) := rfl
theorem r_pkI {j : Int} : pk2 ρ (some (.int j, ρ1)) = some (.int j, ρ) := rfl
theorem r_pkB {j : Bool} : pk2 ρ (some (.bool j, ρ1)) = some (.bool j, ρ) := rfl
theorem r_pkS {j : Str} : pk2 ρ (some (.str j, ρ1)) = some (.str j, ρ) := rfl
theorem r_pkN : pk2 ρ (some (.none, ρ1)) = some (.none, ρ) := rfl
def bk2 (ρ : Rho) (o : Option (Bool × Rho)) : Option (Bool × Rho) := o.map fun p => (p.1, ρ)
def bk1 (o : Option Rho) (f : FE Bool) (ρ : Rho) : Option (Bool × Rho) := o.bind fun ρ1 => bk2 ρ (f ρ1)
theorem r_tpeek {f : FE Bool} : tPeek i f ρ = bk1 (froz i ρ) f ρ := rfl
theorem r_bk1 {f : FE Bool} : bk1 (some ρ1) f ρ = bk2 ρ (f ρ1) := rfl
theorem r_bk2 {c : Bool} : bk2 ρ (some (c, ρ1)) = some (c, ρ) := rfl
def fzk (o : Option Rho) (f : FS) : Option Out := o.bind f
theorem r_frz {f : FS} : fFrz i f ρ = fzk (froz i ρ) f := rfl
theorem r_fzk {f : FS} : fzk (some ρ) f = f ρ := rfl
def owk (o : Option (List PyData × Rho)) (i : Nat) : Option Out := o.bind fun p => if i < p.2.length then some (.nx (p.2.set i (.m p.1))) else none
theorem r_own {f : FE (List PyData)} : fOwn f i ρ = owk (f ρ) i := rfl
theorem r_owk (h : i < ρ.length) : owk (some (ds, ρ)) i = some (.nx (ρ.set i (.m ds))) := if_pos h
def mk4 (i : Nat) (ρ : Rho) (o : Option (PyData × List PyData)) : Option (PyData × Rho) := o.map fun p => (p.1, ρ.set i (.m p.2))
theorem r_mk4 : mk4 i ρ (some (d, ms)) = some (d, ρ.set i (.m ms)) := rfl
def mk3 (g : List PyData → List PyData → Option (PyData × List PyData)) (i : Nat) (ds : List PyData) (ρ : Rho) (o : Option Sl) : Option (PyData × Rho) := match o with
  | some (.m (.l ms)) => mk4 i ρ (g ms ds)
  | _ => none
theorem r_mk3 {g : List PyData → List PyData → Option (PyData × List PyData)} : mk3 g i ds ρ (some (.m ms)) = mk4 i ρ (g ms ds) := rfl
def cmk {γ : Type} (o : Option Sl) (x : Option γ) : Option γ := match o with
  | some (.m (.l _)) => x
  | _ => none
theorem r_cmk {γ : Type} {x : Option γ} : cmk (some (.m ms)) x = x := rfl
theorem r_met {g : GM} {ra : FE (List PyData)} : fMet i g ra ρ = cmk ρ[i]? (tk (ra ρ) fun ds ρ1 => mk3 g i ds ρ1 ρ1[i]?) := by
  unfold fMet cmk
  cases ρ[i]? with
  | none => rfl
  | some x => cases x <;> rfl
def mk2 (n : Nat) (g : List PyData → List PyData → Option (PyData × List PyData)) (i : Nat) (ds : List PyData) : FE PyData := fun ρ => if ds.length = n then mk3 g i ds ρ ρ[i]? else none
theorem r_mk2 {g : List PyData → List PyData → Option (PyData × List PyData)} : mk2 n g i ds ρ = if ds.length = n then mk3 g i ds ρ ρ[i]? else none := rfl
theorem r_callM {g : List PyData → List PyData → Option (PyData × List PyData)} {ra : FE (List PyData)} : fCallM n g i ra ρ = cmk ρ[i]? (tk (ra ρ) (mk2 n g i)) := by
  unfold fCallM cmk
  cases ρ[i]? with
  | none => rfl
  | some x => cases x <;> rfl
def mk2b (n : Nat) (g : List PyData → List PyData → Option (PyData × List PyData)) (i : Nat) (d0 : PyData) (ds : List PyData) : FE PyData := fun ρ => if ds.length + 1 = n then mk3 g i (d0 :: ds) ρ ρ[i]? else none
theorem r_mk2b {g : List PyData → List PyData → Option (PyData × List PyData)} : mk2b n g i d ds ρ = if ds.length + 1 = n then mk3 g i (d :: ds) ρ ρ[i]? else none := rfl
theorem r_callM1 {g : List PyData → List PyData → Option (PyData × List PyData)} {fa : FE PyData} {ra : FE (List PyData)} : fCallM1 n g i fa ra ρ = cmk ρ[i]? (tk (fa ρ) fun d0 => thnE ra (mk2b n g i d0)) := by
  unfold fCallM1 cmk
  cases ρ[i]? with
  | none => rfl
  | some x => cases x <;> rfl
theorem r_lenIs {g : List PyData → Option PyData} : lenIs n g ds = if ds.length = n then g ds else none := rfl
theorem r_callF {g : List PyData → Option (List PyData)} {r : FE (List PyData)} : fCallF n g r ρ = tk (r ρ) fun xs => liftO (if xs.length = n then g xs else none) := rfl
def stj (o : Option Nat) (i : Nat) (d : PyData) (ρ : Rho) (ms : List PyData) : Option Out := o.map fun j => .nx (ρ.set i (.m (ms.set j d)))
theorem r_stj {k : Nat} : stj (some k) i d ρ ms = some (.nx (ρ.set i (.m (ms.set k d)))) := rfl
def sti (i : Nat) (d : PyData) (x : PyData) (ρ : Rho) (o : Option Sl) : Option Out := match o with
  | some (.m (.l ms)) => stj (plI ms.length x) i d ρ ms
  | _ => none
theorem r_sti {x : PyData} : sti i d x ρ (some (.m ms)) = stj (plI ms.length x) i d ρ ms := rfl
theorem r_pl {n : Nat} {k : Int} : plI n (.int k) = ixN n k := rfl
def stk2 (o : Option (PyData × Rho)) (i : Nat) (d : PyData) : Option Out := o.bind fun q => sti i d q.1 q.2 q.2[i]?
theorem r_stk2 : stk2 (some (e, ρ)) i d = sti i d e ρ ρ[i]? := rfl
def stk (o : Option (PyData × Rho)) (i : Nat) (fi : FE PyData) : Option Out := o.bind fun p => cmk p.2[i]? (stk2 (fi p.2) i p.1)
theorem r_stk {fi : FE PyData} : stk (some (d, ρ)) i fi = cmk ρ[i]? (stk2 (fi ρ) i d) := rfl
theorem r_setI {fe fi : FE PyData} : fSetI i fe fi ρ = stk (fe ρ) i fi := by
  unfold fSetI stk
  cases fe ρ with
  | none => rfl
  | some p =>
    obtain ⟨d, r⟩ := p
    show (match r[i]? with
      | some (.m (.l _)) => _
      | _ => none) = cmk r[i]? (stk2 (fi r) i d)
    unfold cmk
    cases r[i]? with
    | none => rfl
    | some x =>
      cases x with
      | un => rfl
      | d _ => rfl
      | m xs =>
        unfold stk2
        dsimp only
        cases fi r with
        | none => rfl
        | some q =>
          obtain ⟨x, r2⟩ := q
          dsimp only [Option.bind_some]
          cases r2[i]? with
          | none => rfl
          | some y => cases y <;> rfl
theorem ixN0 {n : Nat} : ixN (n + 1) 0 = some 0 := Evl.ixN_nat (j := 0) (by omega)
theorem ixN1 {n : Nat} : ixN (n + 2) 1 = some 1 := Evl.ixN_nat (j := 1) (by omega)
theorem ixN2 {n : Nat} : ixN (n + 3) 2 = some 2 := Evl.ixN_nat (j := 2) (by omega)
def aug3 (i : Nat) (ρ : Rho) (o : Option PyData) : Option Out := o.bind fun z => if i < ρ.length then some (.nx (ρ.set i (.d z))) else none
def aug2 (i : Nat) (g : PyData → PyData → Option PyData) (x : PyData) (o : Option (PyData × Rho)) : Option Out := o.bind fun p => aug3 i p.2 (g x p.1)
def aug1 (o : Option Sl) (i : Nat) (g : PyData → PyData → Option PyData) (fe : FE PyData) (ρ : Rho) : Option Out := match o with
  | some (.d x) => aug2 i g x (fe ρ)
  | _ => none
theorem r_aug {g : PyData → PyData → Option PyData} {fe : FE PyData} : fAug i g fe ρ = aug1 ρ[i]? i g fe ρ := rfl
theorem r_aug1 {g : PyData → PyData → Option PyData} {fe : FE PyData} : aug1 (some (.d d)) i g fe ρ = aug2 i g d (fe ρ) := rfl
theorem r_aug2 {g : PyData → PyData → Option PyData} : aug2 i g d (some (e, ρ)) = aug3 i ρ (g d e) := rfl
theorem r_aug3 : aug3 i ρ (some d) = if i < ρ.length then some (.nx (ρ.set i (.d d))) else none := rfl
theorem r_opN {g : PyData → PyData → Option (List PyData)} {fa fb : FE PyData} : fOpN g fa fb ρ = tk (fa ρ) fun x => thnE fb fun y => liftO (g x y) := rfl
def prk2 (i j : Nat) (ds : List PyData) (ρ : Rho) : Option Out := match ds with
  | [x, y] => if i < ρ.length ∧ j < ρ.length then some (.nx ((ρ.set i (.d x)).set j (.d y))) else none
  | _ => none
def prk (i j : Nat) (o : Option (List PyData × Rho)) : Option Out := o.bind fun p => prk2 i j p.1 p.2
theorem r_par {j : Nat} {r : FE (List PyData)} : fPar i j r ρ = prk i j (r ρ) := rfl
theorem r_prk {j : Nat} : prk i j (some ([d, e], ρ)) = if i < ρ.length ∧ j < ρ.length then some (.nx ((ρ.set i (.d d)).set j (.d e))) else none := rfl
theorem r_callN {g : List PyData → List PyData → Option (PyData × List PyData)} {r0 ra : FE (List PyData)} : fCallN n g r0 ra ρ = tk (r0 ρ) fun ms => thnE ra fun ds => liftO (if ds.length = n then (g ms ds).map (·.1) else none) := rfl
theorem r_tupRg {f : FE PyData} : fTupRg f ρ = tk (f ρ) fun x => liftO ((rg1 x).map .tuple) := rfl
theorem r_isN : isNoneD d .none = some (.bool (match d with
  | .none => true
  | _ => false)) := rfl
theorem r_notN : notNoneD d .none = some (.bool (match d with
  | .none => false
  | _ => true)) := rfl
/-! loops -/
def lk (o : Option (List PyData × Rho)) (ft : FG) (fb : FS) : Option Out := o.bind fun p => forF ft fb p.1 p.2
theorem r_for {fi : FE (List PyData)} {ft : FG} {fb : FS} : fFor fi ft fb ρ = lk (fi ρ) ft fb := rfl
theorem r_lk {ft : FG} {fb : FS} : lk (some (ds, ρ)) ft fb = forF ft fb ds ρ := rfl
theorem r_items {f : FE PyData} : fItems f ρ = tk (f ρ) fun x => liftO (itemsOf x) := rfl
theorem r_itL : itemsOf (.list ds) = some ds := rfl
theorem r_itT : itemsOf (.tuple ds) = some ds := rfl
theorem r_enum {r : FE (List PyData)} : fEnum r ρ = tk (r ρ) fun xs => liftO (enumN xs) := rfl
theorem enumL_ok : enumN [.list ds] = some (enumD ds) := rfl
theorem enumT_ok : enumN [.tuple ds] = some (enumD ds) := rfl
theorem r_rng {g : List PyData → Option (List PyData)} {r : FE (List PyData)} : fRng g r ρ = tk (r ρ) fun xs => liftO (g xs) := rfl
theorem for_nx {ft : FG} {fb : FS} (h1 : ft d ρ = some ρ1) (h2 : fb ρ1 = some (.nx ρ2)) : forF ft fb (d :: ds) ρ = forF ft fb ds ρ2 := by
  show (ft d ρ).bind _ = _
  rw [h1]
  show (fb ρ1).bind _ = _
  rw [h2]
  rfl
theorem for_rt {ft : FG} {fb : FS} (h1 : ft d ρ = some ρ1) (h2 : fb ρ1 = some (.rt e ρ2)) : forF ft fb (d :: ds) ρ = some (.rt e ρ2) := by
  show (ft d ρ).bind _ = _
  rw [h1]
  show (fb ρ1).bind _ = _
  rw [h2]
  rfl
theorem for_nil {ft : FG} {fb : FS} : forF ft fb [] ρ = some (.nx ρ) := rfl
/-- a loop that goes through, its invariant told by how many items are done -/
theorem for_all {ft : FG} {fb : FS} (I : Nat → Rho → Prop) : ∀ (xs : List PyData) (k : Nat) (ρ : Rho), I k ρ → (∀ j d ρ, xs[j]? = some d → I (k + j) ρ → ∃ ρ1 ρ2, ft d ρ = some ρ1 ∧ fb ρ1 = some (.nx ρ2) ∧ I (k + j + 1) ρ2) →
    ∃ ρ', forF ft fb xs ρ = some (.nx ρ') ∧ I (k + xs.length) ρ'
  | [], k, ρ, h, _ => ⟨ρ, rfl, h⟩
  | d :: xs, k, ρ, h, step => by
    obtain ⟨ρ1, ρ2, h1, h2, h3⟩ := step 0 d ρ rfl h
    rw [for_nx h1 h2]
    obtain ⟨ρ', h4, h5⟩ := for_all I xs (k + 1) ρ2 h3 fun j e r hj hi => by
      obtain ⟨a, b, c1, c2, c3⟩ := step (j + 1) e r hj (by rw [show k + (j + 1) = k + 1 + j by omega]; exact hi)
      exact ⟨a, b, c1, c2, by rw [show k + 1 + j + 1 = k + (j + 1) + 1 by omega]; exact c3⟩
    exact ⟨ρ', h4, by rw [show k + (d :: xs).length = k + 1 + xs.length by rw [List.length_cons]; omega]; exact h5⟩
def lck2 (ρ : Rho) (vs : List Nat) (o : Option (List PyData × Rho)) : Option (List PyData × Rho) := o.map fun q => (q.1, backR ρ q.2 vs)
def lck (o : Option (List PyData × Rho)) (ft : FG) (tt : FE Bool) (fe : FE PyData) (vs : List Nat) : Option (List PyData × Rho) := o.bind fun p => if sizeOk p.1.length = true then lck2 p.2 vs (lcF ft tt fe vs p.1 (wipeR p.2 vs)) else none
theorem r_lc {fi : FE (List PyData)} {ft : FG} {tt : FE Bool} {fe : FE PyData} {vs : List Nat} : fLc fi ft tt fe vs ρ = lck (fi ρ) ft tt fe vs := rfl
theorem r_lck {ft : FG} {tt : FE Bool} {fe : FE PyData} {vs : List Nat} (h : sizeOk ds.length = true) : lck (some (ds, ρ)) ft tt fe vs = lck2 ρ vs (lcF ft tt fe vs ds (wipeR ρ vs)) := if_pos h
theorem r_lck2 {vs : List Nat} : lck2 ρ vs (some (ds, ρ1)) = some (ds, backR ρ ρ1 vs) := rfl
theorem lc_nil {ft : FG} {tt : FE Bool} {fe : FE PyData} {vs : List Nat} : lcF ft tt fe vs [] ρ = some ([], ρ) := rfl
/-- a comprehension whose turns all keep the slots r0 (those of its own wiped) and have an answer each -/
theorem lc_map {ft : FG} {tt : FE Bool} {fe : FE PyData} {vs : List Nat} {r0 : Rho} (g : PyData → Option PyData) : ∀ (xs : List PyData), (∀ d ∈ xs, ∃ ρ1 ρ2, ft d r0 = some ρ1 ∧ tt ρ1 = some ((g d).isSome, ρ2) ∧ (g d = none → wipeR ρ2 vs = r0) ∧ (∀ e, g d = some e → ∃ ρ3, fe ρ2 = some (e, ρ3) ∧ wipeR ρ3 vs = r0)) →
    lcF ft tt fe vs xs r0 = some (xs.filterMap g, r0)
  | [], _ => rfl
  | d :: xs, h => by
    obtain ⟨ρ1, ρ2, h1, h2, h3, h4⟩ := h d (List.mem_cons_self ..)
    have ih := lc_map g xs fun e he => h e (List.mem_cons_of_mem _ he)
    show (ft d r0).bind _ = _
    rw [h1]
    show (tt ρ1).bind _ = _
    rw [h2]
    cases hg : g d with
    | none =>
      rw [List.filterMap_cons_none hg, ← ih]
      show lcF ft tt fe vs xs (wipeR ρ2 vs) = _
      rw [h3 hg]
    | some e =>
      obtain ⟨ρ3, h5, h6⟩ := h4 e hg
      rw [List.filterMap_cons_some hg]
      show (fe ρ2).bind _ = _
      rw [h5]
      show (lcF ft tt fe vs xs (wipeR ρ3 vs)).map _ = _
      rw [h6, ih]
      rfl
theorem for_ct {ft : FG} {fb : FS} (h1 : ft d ρ = some ρ1) (h2 : fb ρ1 = some (.ct ρ2)) : forF ft fb (d :: ds) ρ = forF ft fb ds ρ2 := by
  show (ft d ρ).bind _ = _
  rw [h1]
  show (fb ρ1).bind _ = _
  rw [h2]
  rfl
/-! two clauses -/
theorem l2_step {ft ft1 : FG} {tt tt1 : FE Bool} {fi1 : FE (List PyData)} {fe : FE PyData} {vs vs1 : List Nat} {d : PyData} {ds es r z : List PyData} {ρ ρ1 ρ2 ρ3 ρ4 ρ5 : Rho} (h1 : ft d ρ = some ρ1) (h2 : tt ρ1 = some (true, ρ2)) (h3 : fi1 ρ2 = some (es, ρ3))
    (h4 : lcF ft1 tt1 fe vs1 es (wipeR ρ3 vs1) = some (r, ρ4)) (h5 : l2F ft tt fi1 ft1 tt1 fe vs vs1 ds (wipeR ρ4 vs) = some (z, ρ5)) : l2F ft tt fi1 ft1 tt1 fe vs vs1 (d :: ds) ρ = some (r ++ z, ρ5) := by
  unfold l2F
  rw [h1, Option.bind_some, h2, Option.bind_some]
  dsimp only
  rw [if_pos rfl, h3, Option.bind_some]
  dsimp only
  rw [h4, Option.bind_some]
  dsimp only
  rw [h5]
  rfl
/-! match -/
def mtk (o : Option (PyData × Rho)) (g : List PyData → FS) : Option Out := o.bind fun p => match p.1 with
  | .tuple ds => g ds p.2
  | _ => none
theorem r_mat {f : FE PyData} {g : List PyData → FS} : fMat f g ρ = mtk (f ρ) g := rfl
theorem r_mtk {g : List PyData → FS} : mtk (some (.tuple ds, ρ)) g = g ds ρ := rfl
theorem r_mEnd : mEnd ds ρ = some (.nx ρ) := rfl
theorem r_mCase {is : List Nat} {f : FS} {g : List PyData → FS} : mCase is f g ds ρ = if ds.length = is.length then (gSeq (is.map gNm) ds ρ).bind f else g ds ρ := rfl
/-! a def's run -/
theorem r_outM : outM (some (.rt d (.m ms :: ρ))) = some (d, ms) := rfl
theorem r_outMn : outM (some (.nx (.m ms :: ρ))) = some (.none, ms) := rfl
theorem r_outM1 {z : Sl} : outM1 (some (.rt d (z :: .m ms :: ρ))) = some (d, ms) := rfl
theorem r_outM1n {z : Sl} : outM1 (some (.nx (z :: .m ms :: ρ))) = some (.none, ms) := rfl
theorem r_outD : outD (some (.rt d ρ)) = some d := rfl
theorem r_outDf : outD (some (.rf ds ρ)) = some (.list ds) := rfl
theorem r_outDn : outD (some (.nx ρ)) = some .none := rfl
theorem r_outF : outF (some (.rf ds ρ)) = some ds := rfl
/-! operations at known values -/
section
variable {a b c : PyData} {l : List PyData}
theorem ixL0 : ixD (.list (a :: l)) (.int 0) = some a := atI_nat (j := 0) rfl
theorem ixL1 : ixD (.list (a :: b :: l)) (.int 1) = some b := atI_nat (j := 1) rfl
theorem ixL2 : ixD (.list (a :: b :: c :: l)) (.int 2) = some c := atI_nat (j := 2) rfl
theorem ixT0 : ixD (.tuple (a :: l)) (.int 0) = some a := atI_nat (j := 0) rfl
theorem ixT1 : ixD (.tuple (a :: b :: l)) (.int 1) = some b := atI_nat (j := 1) rfl
theorem ixT2 : ixD (.tuple (a :: b :: c :: l)) (.int 2) = some c := atI_nat (j := 2) rfl
theorem ixLn {k : Nat} (h : ds[k]? = some a) : ixD (.list ds) (.int (k : Int)) = some a := atI_nat h
theorem ixTn {k : Nat} (h : ds[k]? = some a) : ixD (.tuple ds) (.int (k : Int)) = some a := atI_nat h
theorem addI_ok {i j : Int} : addD (.int i) (.int j) = some (.int (i + j)) := rfl
theorem subI_ok {i j : Int} : subD (.int i) (.int j) = some (.int (i - j)) := rfl
theorem gtI_ok {i j : Int} : gtI (.int i) (.int j) = some (.bool (decide (j < i))) := rfl
theorem geI_ok {i j : Int} : geI (.int i) (.int j) = some (.bool (decide (j ≤ i))) := rfl
theorem leI_ok {i j : Int} : leI (.int i) (.int j) = some (.bool (decide (i ≤ j))) := rfl
theorem ltI_ok {i j : Int} : ltD (.int i) (.int j) = some (.bool (decide (i < j))) := rfl
theorem lenL_ok : lenD [.list ds] = some (.int ds.length) := rfl
theorem lenT_ok : lenD [.tuple ds] = some (.int ds.length) := rfl
theorem abs_ok {i : Int} : absD [.int i] = some (.int (if i < 0 then -i else i)) := rfl
theorem intB_ok {b : Bool} : intD [.bool b] = some (.int (if b then 1 else 0)) := rfl
theorem bits_le {i : Int} {k : Nat} (h0 : 0 ≤ i) (h : i < 2 ^ k) : Builtin.Int.intBits i ≤ k := by
  unfold Builtin.Int.intBits
  split
  · exact Nat.zero_le _
  · rename_i hi
    have hi : i ≠ 0 := by simpa using hi
    have h1 : i.natAbs ≠ 0 := by omega
    have h2 : i.natAbs < 2 ^ k := by
      have : ((2 ^ k : Nat) : Int) = (2 : Int) ^ k := by push_cast; rfl
      omega
    exact (Nat.log2_lt h1).mpr h2
theorem pow_ok {i : Int} {j : Int} (k : Nat) (h0 : 0 ≤ i) (h : i < 2 ^ k) (hj : 0 ≤ j) (hk : (k : Int) * j ≤ 2 ^ 27) : powD (.int i) (.int j) = some (.int (i ^ j.toNat)) := by
  unfold powD
  refine if_pos ⟨hj, Int.le_trans (Int.mul_le_mul_of_nonneg_right ?_ hj) hk⟩
  exact_mod_cast bits_le h0 h
theorem log_lt {i : Int} {k : Nat} (hk : 0 < k) (h0 : 0 ≤ i) (h : i < 2 ^ k) : i.natAbs.log2 < k := by
  by_cases hi : i.natAbs = 0
  · rw [hi]; exact hk
  · refine (Nat.log2_lt hi).mpr ?_
    have : ((2 ^ k : Nat) : Int) = (2 : Int) ^ k := by push_cast; rfl
    omega
theorem mul_ok {i j : Int} (k l : Nat) (hk : 0 < k) (hl : 0 < l) (h0 : 0 ≤ i) (h : i < 2 ^ k) (h0' : 0 ≤ j) (h' : j < 2 ^ l) (s : k + l ≤ 1000000) : mulI (.int i) (.int j) = some (.int (i * j)) := by
  unfold mulI
  have a := log_lt hk h0 h
  have b := log_lt hl h0' h'
  exact if_pos (by omega)
theorem mod_ok {i j : Int} (h : 0 < j) : modD (.int i) (.int j) = some (.int (i % j)) := if_pos h
theorem fdiv_ok {i j : Int} (k : Nat) (h : 0 < j) (hk : 0 < k) (h' : j < 2 ^ k) (s : k ≤ 9000) : fdivD (.int i) (.int j) = some (.int (i / j)) := by
  unfold fdivD
  have a := log_lt hk (Int.le_of_lt h) h'
  exact if_pos ⟨h, by omega⟩
end
end
/-- all rows of one's own that reckon, as one -/
def rvs := And.intro @r_thn <| And.intro @r_tk <| And.intro @r_tk0 <| And.intro @r_ret <| And.intro @r_lift <| And.intro @r_lift0 <| And.intro @r_var <| And.intro @r_vk <| And.intro @r_bin <| And.intro @r_un <| And.intro @r_nil <| And.intro @r_cons <| And.intro @r_tup <| And.intro @r_of <| And.intro @r_call <| And.intro @r_tst <| And.intro @r_kt <| And.intro @r_ikT <| And.intro @r_ikF <| And.intro @r_ite <| And.intro @r_if <| And.intro @r_ife <| And.intro @r_and <| And.intro @r_or <| And.intro @r_not <| And.intro @r_vand <| And.intro @r_vor <| And.intro @r_vnot <| And.intro @r_chain <| And.intro @r_hkT <| And.intro @r_hkF <| And.intro @r_part <| And.intro @r_ok <| And.intro @r_sl <| And.intro @r_seq <| And.intro @r_skN <| And.intro @r_skR <| And.intro @r_skF <| And.intro @r_skB <| And.intro @r_skC <| And.intro @r_next <| And.intro @r_retS <| And.intro @r_rk <| And.intro @r_retF <| And.intro @r_rfk <| And.intro @r_drop <| And.intro @r_dk <| And.intro @r_asg <| And.intro @r_gk <| And.intro @r_gk2 <| And.intro @r_tp <| And.intro @r_gs <| And.intro @r_qk <| And.intro @r_gs0 <| And.intro @r_froz <| And.intro @r_frk <| And.intro @r_cmk <| And.intro @r_setI <| And.intro @r_stk <| And.intro @r_stk2 <| And.intro @r_sti <| And.intro @r_pl <| And.intro @r_stj <| And.intro @r_aug <| And.intro @r_aug1 <| And.intro @r_aug2 <| And.intro @r_aug3 <| And.intro @r_opN <| And.intro @r_par <| And.intro @r_prk <| And.intro @r_callN <| And.intro @r_tupRg <| And.intro @ixN0 <| And.intro @ixN1 <| And.intro @ixN2 <| And.intro @r_peek <| And.intro @r_pk <| And.intro @r_pkI <| And.intro @r_pkB <| And.intro @r_pkS <| And.intro @r_pkN <| And.intro @r_tpeek <| And.intro @r_bk1 <| And.intro @r_bk2 <| And.intro @r_frz <| And.intro @r_fzk <| And.intro @r_own <| And.intro @r_frkK <| And.intro @r_ownK <| And.intro @r_ixEd <| And.intro @r_ixEt <| And.intro @r_ixEl <| And.intro @r_inK <| And.intro @r_ninK <| And.intro @r_mk4 <| And.intro @r_mk3 <| And.intro @r_met <| And.intro @r_mk2 <| And.intro @r_callM <| And.intro @r_mk2b <| And.intro @r_callM1 <| And.intro @r_lenIs <| And.intro @r_callF <| And.intro @r_mat <| And.intro @r_mtk <| And.intro @r_mEnd <| And.intro @r_mCase <| And.intro @r_for <| And.intro @r_lk <| And.intro @r_items <| And.intro @r_itL <| And.intro @r_itT <| And.intro @r_rng <| And.intro @r_enum <| And.intro @r_zipM <| And.intro @zipM_ok <| And.intro @r_star <| And.intro @starL_ok <| And.intro @starT_ok <| And.intro @enumL_ok <| And.intro @enumT_ok <| And.intro @for_nil <| And.intro @r_lc <| And.intro @r_lck2 <| And.intro @lc_nil <| And.intro @r_outM <| And.intro @r_outMn <| And.intro @r_outM1 <| And.intro @r_outM1n <| And.intro @r_outD <| And.intro @r_outDf <| And.intro @r_outDn <| And.intro @r_outF <| And.intro @ixL0 <| And.intro @ixL1 <| And.intro @ixL2 <| And.intro @ixT0 <| And.intro @ixT1 <| And.intro @ixT2 <| And.intro @addI_ok <| And.intro @subI_ok <| And.intro @gtI_ok <| And.intro @geI_ok <| And.intro @leI_ok <| And.intro @ltI_ok <| And.intro @lenL_ok <| And.intro @lenT_ok <| And.intro @abs_ok <| @intB_ok
end Tw

set_option Elab.async false
set_option linter.all false
set_option maxRecDepth 100000
set_option maxHeartbeats 2000000
/-! ### data of a told size: what repr shows -/
namespace Tw
open PySem PySem.Spec PyProof.Rows L2
/-- no longer than W, no deeper than D; lists lie in it only where l, dicts only where c -/
structure Fn (l c : Bool) (W D : Nat) (d : PyData) : Prop where
  ls : d.leavesShort 60 = true
  wt : d.weight ≤ W
  dp : d.depth ≤ D
  sh : d.showable = true
  nl : (noList d || l) = true
  nd : (!d.hasDict || c) = true
structure FnL (l c : Bool) (W D : Nat) (xs : List PyData) : Prop where
  ls : PyData.leavesShortAll 60 xs = true
  wt : PyData.weightAll xs ≤ W
  dp : PyData.depthAll xs ≤ D
  sh : PyData.showableAll xs = true
  nl : (noLists xs || l) = true
  nd : (!PyData.hasDictAll xs || c) = true
section
variable {l c : Bool} {W W1 W2 D D1 : Nat} {d : PyData} {xs ys : List PyData}
theorem or_bb {a b c : Bool} (h1 : (a || c) = true) (h2 : (b || c) = true) : (a && b || c) = true := by
  revert h1 h2; cases a <;> cases b <;> cases c <;> decide
theorem nor_bb {a b c : Bool} (h1 : (!a || c) = true) (h2 : (!b || c) = true) : (!(a || b) || c) = true := by
  revert h1 h2; cases a <;> cases b <;> cases c <;> decide
theorem bb_or {a b c : Bool} (h : (a && b || c) = true) : (a || c) = true ∧ (b || c) = true := by
  cases a <;> cases b <;> cases c <;> first | exact ⟨rfl, rfl⟩ | cases h
theorem bb_nor {a b c : Bool} (h : (!(a || b) || c) = true) : (!a || c) = true ∧ (!b || c) = true := by
  cases a <;> cases b <;> cases c <;> first | exact ⟨rfl, rfl⟩ | cases h
theorem FnL.nil : FnL l c W D [] := ⟨rfl, Nat.zero_le _, Nat.zero_le _, rfl, rfl, rfl⟩
theorem FnL.cons (h : Fn l c W1 D d) (t : FnL l c W2 D xs) : FnL l c (W1 + 1 + W2) D (d :: xs) where
  ls := Bool.and_eq_true_iff.mpr ⟨h.ls, t.ls⟩
  wt := by
    show d.weight + 1 + PyData.weightAll xs ≤ _
    have := h.wt
    have := t.wt
    omega
  dp := Nat.max_le.mpr ⟨h.dp, t.dp⟩
  sh := Bool.and_eq_true_iff.mpr ⟨h.sh, t.sh⟩
  nl := or_bb h.nl t.nl
  nd := nor_bb h.nd t.nd
theorem FnL.uncons (h : FnL l c W D (d :: xs)) : Fn l c W D d ∧ FnL l c W D xs ∧ d.weight + 1 + PyData.weightAll xs ≤ W := by
  have wt : d.weight + 1 + PyData.weightAll xs ≤ W := h.wt
  have l1 := Bool.and_eq_true_iff.mp h.ls
  have s1 := Bool.and_eq_true_iff.mp h.sh
  have d1 := Nat.max_le.mp h.dp
  have n1 := bb_or h.nl
  have n2 := bb_nor h.nd
  exact ⟨⟨l1.1, by omega, d1.1, s1.1, n1.1, n2.1⟩, ⟨l1.2, by omega, d1.2, s1.2, n1.2, n2.2⟩, wt⟩
theorem FnL.wide (h : FnL l c W D xs) (hW : W ≤ W1) (hD : D ≤ D1) : FnL l c W1 D1 xs := ⟨h.ls, Nat.le_trans h.wt hW, Nat.le_trans h.dp hD, h.sh, h.nl, h.nd⟩
theorem Fn.wide (h : Fn l c W D d) (hW : W ≤ W1) (hD : D ≤ D1) : Fn l c W1 D1 d := ⟨h.ls, Nat.le_trans h.wt hW, Nat.le_trans h.dp hD, h.sh, h.nl, h.nd⟩
theorem or_more {a b c : Bool} (h : (a || b) = true) (hi : b = true → c = true) : (a || c) = true := by
  revert h hi; cases a <;> cases b <;> cases c <;> decide
theorem Fn.more (h : Fn l c W D d) {l' c' : Bool} (hl : l = true → l' = true) (hc : c = true → c' = true) : Fn l' c' W D d := ⟨h.ls, h.wt, h.dp, h.sh, or_more h.nl hl, or_more h.nd hc⟩
theorem FnL.more (h : FnL l c W D xs) {l' c' : Bool} (hl : l = true → l' = true) (hc : c = true → c' = true) : FnL l' c' W D xs := ⟨h.ls, h.wt, h.dp, h.sh, or_more h.nl hl, or_more h.nd hc⟩
theorem FnL.app : ∀ {xs : List PyData} {W1 : Nat}, FnL l c W1 D xs → FnL l c W2 D ys → FnL l c (W1 + W2) D (xs ++ ys)
  | [], _, h, t => t.wide (Nat.le_add_left _ _) (Nat.le_refl _)
  | d :: xs, W1, h, t => by
    obtain ⟨h1, h2, h3⟩ := h.uncons
    have h2' : FnL l c (PyData.weightAll xs) D xs := ⟨h2.ls, Nat.le_refl _, h2.dp, h2.sh, h2.nl, h2.nd⟩
    have h1' : Fn l c d.weight D d := ⟨h1.ls, Nat.le_refl _, h1.dp, h1.sh, h1.nl, h1.nd⟩
    exact (FnL.cons h1' (FnL.app h2' t)).wide (by omega) (Nat.le_refl _)
theorem FnL.take : ∀ {xs : List PyData} {W : Nat} (n : Nat), FnL l c W D xs → FnL l c W D (xs.take n)
  | _, _, 0, _ => by rw [List.take_zero]; exact .nil
  | [], _, n + 1, _ => by rw [List.take_nil]; exact .nil
  | d :: xs, W, n + 1, h => by
    obtain ⟨h1, h2, h3⟩ := h.uncons
    have h2' : FnL l c (PyData.weightAll xs) D xs := ⟨h2.ls, Nat.le_refl _, h2.dp, h2.sh, h2.nl, h2.nd⟩
    have h1' : Fn l c d.weight D d := ⟨h1.ls, Nat.le_refl _, h1.dp, h1.sh, h1.nl, h1.nd⟩
    rw [List.take_succ_cons]
    exact (FnL.cons h1' (FnL.take n h2')).wide h3 (Nat.le_refl _)
theorem FnL.drop : ∀ {xs : List PyData} {W : Nat} (n : Nat), FnL l c W D xs → FnL l c W D (xs.drop n)
  | _, _, 0, h => h
  | [], _, n + 1, _ => by rw [List.drop_nil]; exact .nil
  | d :: xs, W, n + 1, h => by
    rw [List.drop_succ_cons]
    exact FnL.drop n h.uncons.2.1
theorem FnL.cut (lo hi : Option Int) (h : FnL l c W D xs) : FnL l c W D (cutD xs lo hi) := (h.drop _).take _
theorem FnL.rev : ∀ {xs : List PyData} {W : Nat}, FnL l c W D xs → FnL l c W D xs.reverse
  | [], _, h => .nil
  | d :: xs, W, h => by
    obtain ⟨h1, h2, h3⟩ := h.uncons
    have h2' : FnL l c (PyData.weightAll xs) D xs := ⟨h2.ls, Nat.le_refl _, h2.dp, h2.sh, h2.nl, h2.nd⟩
    have h1' : Fn l c d.weight D d := ⟨h1.ls, Nat.le_refl _, h1.dp, h1.sh, h1.nl, h1.nd⟩
    rw [List.reverse_cons]
    exact (FnL.app (FnL.rev h2') (FnL.cons (W2 := 0) h1' .nil)).wide (by omega) (Nat.le_refl _)
theorem FnL.get : ∀ {xs : List PyData} {W : Nat} {i : Nat} {d : PyData}, FnL l c W D xs → xs[i]? = some d → Fn l c W D d
  | [], _, _, _, _, e => by simp at e
  | x :: xs, W, 0, d, h, e => by
    simp at e
    subst e
    exact h.uncons.1
  | x :: xs, W, i + 1, d, h, e => FnL.get (i := i) h.uncons.2.1 (by simpa using e)
theorem FnL.all : ∀ {xs : List PyData} (n : Nat), xs.length ≤ n → (∀ d ∈ xs, Fn l c W1 D d) → FnL l c ((W1 + 1) * n) D xs
  | [], _, _, _ => .nil
  | d :: xs, 0, h, _ => absurd h (by simp)
  | d :: xs, n + 1, h, f => (FnL.cons (f d (List.mem_cons_self ..)) (FnL.all n (by simpa using h) fun e he => f e (List.mem_cons_of_mem _ he))).wide (by rw [Nat.mul_add]; omega) (Nat.le_refl _)
theorem Fn.tup (h : FnL l c W D xs) : Fn l c W (D + 1) (.tuple xs) := ⟨h.ls, h.wt, Nat.succ_le_succ h.dp, h.sh, h.nl, h.nd⟩
theorem Fn.lst (h : FnL true c W D xs) : Fn true c W (D + 1) (.list xs) := ⟨h.ls, h.wt, Nat.succ_le_succ h.dp, h.sh, rfl, h.nd⟩
theorem Fn.none : Fn l c W D .none := ⟨rfl, Nat.zero_le _, Nat.zero_le _, rfl, rfl, rfl⟩
theorem Fn.bool (b : Bool) : Fn l c W D (.bool b) := ⟨rfl, Nat.zero_le _, Nat.zero_le _, rfl, rfl, rfl⟩
theorem Fn.int {i : Int} (h : i.natAbs < 10 ^ 50) (hW : 170 ≤ W) : Fn l c W D (.int i) where
  ls := by
    refine decide_eq_true ?_
    have e := int_text_length_le10 (k := 50) (by decide) h
    show (Str.ofString (toString i)).length ≤ 60
    rw [PySem.ofString_length]
    omega
  wt := by
    show (if i == 0 then 0 else i.natAbs.log2 + 1) ≤ W
    split
    · omega
    · rename_i h0
      have h0 : i.natAbs ≠ 0 := by simpa using h0
      have : i.natAbs.log2 < 167 := (Nat.log2_lt h0).mpr (Nat.lt_of_lt_of_le h (by decide))
      omega
  dp := Nat.zero_le _
  sh := by
    refine decide_eq_true ?_
    by_cases h0 : i.natAbs = 0
    · rw [h0]; decide
    · exact Nat.lt_of_lt_of_le ((Nat.log2_lt (k := 167) h0).mpr (Nat.lt_of_lt_of_le h (by decide))) (by decide)
  nl := rfl
  nd := rfl
theorem Fn.sint {i : Int} (h : i.natAbs < 2 ^ 20) (hW : 20 ≤ W) : Fn l c W D (.int i) where
  ls := (Fn.int (l := l) (c := c) (W := 170) (D := 0) (i := i) (Nat.lt_of_lt_of_le h (by decide)) (Nat.le_refl _)).ls
  wt := by
    show (if i == 0 then 0 else i.natAbs.log2 + 1) ≤ W
    split
    · omega
    · rename_i h0
      have h0 : i.natAbs ≠ 0 := by simpa using h0
      have : i.natAbs.log2 < 20 := (Nat.log2_lt h0).mpr h
      omega
  dp := Nat.zero_le _
  sh := (Fn.int (l := l) (c := c) (W := 170) (D := 0) (i := i) (Nat.lt_of_lt_of_le h (by decide)) (Nat.le_refl _)).sh
  nl := rfl
  nd := rfl
theorem Fn.str {x : Str} (h : (x.cps.toList.all fun c => decide (c < 16 ^ 8)) = true) (hW : x.cps.size ≤ W) : Fn l c W D (.str x) := ⟨h, hW, Nat.zero_le _, rfl, rfl, rfl⟩
theorem Fn.dict0 : Fn l true W (D + 1) (.dict []) := ⟨rfl, Nat.zero_le _, Nat.le_add_left _ _, rfl, rfl, rfl⟩
theorem Fn.ok (h : Fn l c 60000 60 d) (hlc : (l && c) = false) : shownOk d = true := by
  have h1 := PyData.shown_le 60 (by decide) d h.ls
  have h2 := h.wt
  unfold shownOk
  rw [h.sh, Bool.true_and, Bool.and_eq_true, Bool.and_eq_true]
  refine ⟨⟨decide_eq_true ?_, decide_eq_true h.dp⟩, ?_⟩
  · rw [sizeLine_eq]
    omega
  · have a := h.nl
    have b := h.nd
    cases l <;> cases c <;> simp_all
end
end Tw

set_option Elab.async false
set_option linter.all false
set_option maxRecDepth 100000
set_option maxHeartbeats 4000000
namespace Lw
open PySem PySem.Spec PyProof.Rows L2 Tw
abbrev topS (i : Nat) : Stmt := PySem.Challenge.pw_tiewheel_k81_shapes_known.main.body.getD i (.Pass ⟨0, 0, 0, 0⟩)
structure Tops (K : PySem.W.Frag) (mg : Str → Option Value) : Prop where
  b_abs : mg "abs" = none
  b_all : mg "all" = none
  b_bool : mg "bool" = none
  b_int : mg "int" = none
  b_isinstance : mg "isinstance" = none
  b_len : mg "len" = none
  b_list : mg "list" = none
  b_max : mg "max" = none
  b_min : mg "min" = none
  b_range : mg "range" = none
  b_repr : mg "repr" = none
  b_str : mg "str" = none
  b_tuple : mg "tuple" = none
  c_BAND : ∃ t, mg "BAND" = some (.str "band" t)
  c_FAN : ∃ t, mg "FAN" = some (.str "fan" t)
  c_KLEIN : ∃ t, mg "KLEIN" = some (.str "klein" t)
  c_MOST_POSTS : ∃ t, mg "MOST_POSTS" = some (.int 60 t)
  c_SHAPES : ∃ u, mg "SHAPES" = some u ∧ KD K u (.tuple [(.str "band"), (.str "board"), (.str "fan"), (.str "klein"), (.str "torus"), (.str "tube")])
  c_TORUS : ∃ t, mg "TORUS" = some (.str "torus" t)
  c_TUBE : ∃ t, mg "TUBE" = some (.str "tube" t)
abbrev s__law_pot : Stmt := topS 12
theorem sc__law_pot : FnScope ["_law_script", "_law_k", "_law_cell", "_law_mixed"] ["_law_script", "_law_k"] (defScope s__law_pot) := ⟨rfl, rfl, rfl, by decide +kernel, rfl, by decide +kernel, by decide +kernel⟩
def f__law_pot : FS := (fSeq (fAsg (ret (.int 0)) (gNm 2))
    (fSeq (fIfS (fTst (fBin ltD (fVar 1) (fCall lenD (fCons (fVar 0) fNil)))) (fAsg (fBin modD (fCall absD (fCons (fBin ixD (fVar 0) (fVar 1)) fNil)) (fBin powD (fBin powD (ret (.int 10)) (ret (.int 60))) (ret (.int 14)))) (gNm 2)) fNext)
    (fSeq (fAsg (fBin modD (fBin powD (fBin addD (fBin addD (fBin modD (fVar 2) (ret (.int 2305843009213693921))) (fBin mulI (ret (.int 104729)) (fVar 1))) (ret (.int 1))) (ret (.int 3))) (ret (.int 2305843009213693951))) (gNm 3))
    (fRetF (thnE (fCons (fBin mulI (fVar 2) (fCall intD (fCons (fBin geI (fVar 2) (fBin powD (ret (.int 10)) (ret (.int 18)))) fNil))) (fCons (fVar 3) (fCons (ret (.int 0)) fNil))) fun xs => liftO (if sizeOk xs.length = true then some xs else none))))))
def g__law_pot : List PyData → Option (List PyData) := runF 4 f__law_pot
theorem mk__law_pot {Pr : Program} {w : World} {K : PySem.W.Frag} {mg : Str → Option Value} {base : Heap} (T : Tops K mg) {f : Addr} {fd : FuncData} (F : Fun K "_law_pot" "_law_pot" s__law_pot f fd) (gl : mg "_law_pot" = some (.ref f)) :
    Cal Pr w K mg base 1 "_law_pot" ["_law_script", "_law_k"] (spF K 2 g__law_pot) f fd := by
  refine ⟨fn_F F sc__law_pot fun cdv A outer s H hh => ?_, gl, F.kp, F.binds (ps := ["_law_script", "_law_k"]) fun _ _ _ _ _ _ us hl => match us, hl with | [_, _], _ => rfl⟩
  have nd := sc__law_pot.nd
  exact (s_cons (s_asg (bb := true) e_int (g_nm (P := []) (by decide) (pg_name (i := 2) nd rfl (by first | exact Or.inl rfl | exact Or.inr rfl))))
    (s_cons (s_if (bb := true) (t_cmp (op_ltD hh.u0) d_lt (nomark _) (e_var 1 (pv 1)) (e_callB call_lenD2 d_len (by rfl) T.b_len (by decide +kernel) (a_cons (e_var 0 (pv 0)) a_nil))) (s_one (s_asg (bb := true) (e_op op_mod d_mod (e_callB call_abs d_abs (by rfl) T.b_abs (by decide +kernel) (a_cons (e_ix ix_seqB d_ix (fun _ _ => rfl) (e_var 0 (pv 0)) (e_var 1 (pv 1))) a_nil)) (e_op op_powW d_pow (e_op op_powW d_pow e_int e_int) e_int)) (g_nm (P := []) (by decide) (pg_name (i := 2) nd rfl (by first | exact Or.inl rfl | exact Or.inr rfl))))) s_nil)
    (s_cons (s_asg (bb := true) (e_op op_mod d_mod (e_op op_powW d_pow (e_op op_addD d_add (e_op op_addD d_add (e_op op_mod d_mod (e_var 2 (pv 2)) e_int) (e_op op_mulW d_mulI e_int (e_var 1 (pv 1)))) e_int) e_int) e_int) (g_nm (P := []) (by decide) (pg_name (i := 3) nd rfl (by first | exact Or.inl rfl | exact Or.inr rfl))))
    (s_one (s_retF (bb := true) (l_lst (a_cons (e_op op_mulW d_mulI (e_var 2 (pv 2)) (e_callTy call_int1 d_int (by rfl) T.b_int (by decide +kernel) (a_cons (e_cmp op_geI d_geI (nomark _) (e_var 2 (pv 2)) (e_op op_powW d_pow e_int e_int)) a_nil))) (a_cons (e_var 3 (pv 3)) (a_cons e_int a_nil)))))))))
abbrev s__law_take : Stmt := topS 13
theorem sc__law_take : FnScope ["_law_pot_here", "_law_many", "_law_one", "_law_other", "_law_found"] ["_law_pot_here", "_law_many"] (defScope s__law_take) := ⟨rfl, rfl, rfl, by decide +kernel, rfl, by decide +kernel, by decide +kernel⟩
def f__law_take : FS := (fSeq (fIfS (fTst (fBin gtI (fPeek 0 (fBin ixD (fVar 0) (ret (.int 0)))) (ret (.int 0)))) (fSeq (fAsg (fBin modD (fPeek 0 (fBin ixD (fVar 0) (ret (.int 0)))) (fVar 1)) (gNm 4))
    (fSeq (fSetI 0 (fBin fdivD (fPeek 0 (fBin ixD (fVar 0) (ret (.int 0)))) (fVar 1)) (ret (.int 0)))
    (fRet (fVar 4)))) fNext)
    (fSeq (fSetI 0 (fBin addD (fPeek 0 (fBin ixD (fVar 0) (ret (.int 2)))) (ret (.int 1))) (ret (.int 2)))
    (fSeq (fAsg (fBin modD (fBin powD (fBin addD (fPeek 0 (fBin ixD (fVar 0) (ret (.int 1)))) (fBin mulI (ret (.int 86028157)) (fPeek 0 (fBin ixD (fVar 0) (ret (.int 2)))))) (ret (.int 3))) (ret (.int 2305843009213693907))) (gNm 2))
    (fSeq (fAsg (fBin modD (fBin powD (fBin addD (fBin addD (fVar 2) (fBin modD (fPeek 0 (fBin ixD (fVar 0) (ret (.int 1)))) (ret (.int 1000003)))) (fBin mulI (ret (.int 31)) (fPeek 0 (fBin ixD (fVar 0) (ret (.int 2)))))) (ret (.int 5))) (ret (.int 2305843009213693921))) (gNm 3))
    (fRet (fBin modD (fBin fdivD (fVar 3) (ret (.int 4096))) (fVar 1)))))))
def g__law_take : List PyData → List PyData → Option (PyData × List PyData) := runM 5 f__law_take
theorem mk__law_take {Pr : Program} {w : World} {K : PySem.W.Frag} {mg : Str → Option Value} {base : Heap} (T : Tops K mg) {f : Addr} {fd : FuncData} (F : Fun K "_law_take" "_law_take" s__law_take f fd) (gl : mg "_law_take" = some (.ref f)) :
    Cal Pr w K mg base 1 "_law_take" ["_law_pot_here", "_law_many"] (spM K 1 g__law_take) f fd := by
  refine ⟨fn_M F sc__law_take (by decide) fun cdv A outer s H hh => ?_, gl, F.kp, F.binds (ps := ["_law_pot_here", "_law_many"]) fun _ _ _ _ _ _ us hl => match us, hl with | [_, _], _ => rfl⟩
  have nd := sc__law_take.nd
  exact (s_cons (s_if (bb := true) (t_cmp op_gtI d_gtI (nomark _) (e_peek 0 (e_ix ix_seqB d_ix (fun _ _ => rfl) (e_var 0 (pv 0)) e_int)) e_int) (s_cons (s_asg (bb := true) (e_op op_mod d_mod (e_peek 0 (e_ix ix_seqB d_ix (fun _ _ => rfl) (e_var 0 (pv 0)) e_int)) (e_var 1 (pv 1))) (g_nm (P := [0]) (by decide) (pg_name (i := 4) nd rfl (by first | exact Or.inl rfl | exact Or.inr rfl))))
    (s_cons (s_setI 0 (pg_sub (pv 0) e_int set_list2) (e_op op_fdivW d_fdiv (e_peek 0 (e_ix ix_seqB d_ix (fun _ _ => rfl) (e_var 0 (pv 0)) e_int)) (e_var 1 (pv 1))))
    (s_one (s_ret (bb := true) (e_var 4 (pv 4)))))) s_nil)
    (s_cons (s_setI 0 (pg_sub (pv 0) e_int set_list2) (e_op op_addD d_add (e_peek 0 (e_ix ix_seqB d_ix (fun _ _ => rfl) (e_var 0 (pv 0)) e_int)) e_int))
    (s_cons (s_asg (bb := true) (e_op op_mod d_mod (e_op op_powW d_pow (e_op op_addD d_add (e_peek 0 (e_ix ix_seqB d_ix (fun _ _ => rfl) (e_var 0 (pv 0)) e_int)) (e_op op_mulW d_mulI e_int (e_peek 0 (e_ix ix_seqB d_ix (fun _ _ => rfl) (e_var 0 (pv 0)) e_int)))) e_int) e_int) (g_nm (P := [0]) (by decide) (pg_name (i := 2) nd rfl (by first | exact Or.inl rfl | exact Or.inr rfl))))
    (s_cons (s_asg (bb := true) (e_op op_mod d_mod (e_op op_powW d_pow (e_op op_addD d_add (e_op op_addD d_add (e_var 2 (pv 2)) (e_op op_mod d_mod (e_peek 0 (e_ix ix_seqB d_ix (fun _ _ => rfl) (e_var 0 (pv 0)) e_int)) e_int)) (e_op op_mulW d_mulI e_int (e_peek 0 (e_ix ix_seqB d_ix (fun _ _ => rfl) (e_var 0 (pv 0)) e_int)))) e_int) e_int) (g_nm (P := [0]) (by decide) (pg_name (i := 3) nd rfl (by first | exact Or.inl rfl | exact Or.inr rfl))))
    (s_one (s_ret (bb := true) (e_op op_mod d_mod (e_op op_fdivW d_fdiv (e_var 3 (pv 3)) e_int) (e_var 1 (pv 1)))))))))
abbrev s__law_shape : Stmt := topS 15
theorem sc__law_shape : FnScope ["_law_pot_here", "_law_top", "_law_word", "_law_two", "_law_one"] ["_law_pot_here", "_law_top"] (defScope s__law_shape) := ⟨rfl, rfl, rfl, by decide +kernel, rfl, by decide +kernel, by decide +kernel⟩
def f__law_shape : FS := (fSeq (fAsg (fBin ixD (fOf (thnE (fCons (ret (.str "band")) (fCons (ret (.str "board")) (fCons (ret (.str "fan")) (fCons (ret (.str "klein")) (fCons (ret (.str "torus")) (fCons (ret (.str "tube")) fNil)))))) fun xs => liftO (if sizeOk xs.length = true then some xs else none))) (fCallM 1 g__law_take 0 (fCons (ret (.int 6)) fNil))) (gNm 2))
    (fSeq (fIfS (fTst (fBin eqD (fVar 2) (ret (.str "fan")))) (fSeq (fAsg (fBin addD (ret (.int 1)) (fCallM 1 g__law_take 0 (fCons (fBin ixD (fOf (thnE (fCons (ret (.int 4)) (fCons (ret (.int 7)) (fCons (fVar 1) fNil))) fun xs => liftO (if sizeOk xs.length = true then some xs else none))) (fCallM 1 g__law_take 0 (fCons (ret (.int 3)) fNil))) fNil))) (gNm 4))
    (fSeq (fAsg (fCall minD (fCons (fVar 4) (fCons (fVar 1) fNil))) (gNm 4))
    (fRet (fTup (fCons (fVar 2) (fCons (fVar 4) (fCons (fBin addD (ret (.int 1)) (fCallM 1 g__law_take 0 (fCons (fCall lenD (fCons (fOf (fLc (fRng rng2 (fCons (ret (.int 1)) (fCons (ret (.int 9)) fNil))) (gNm 3) (fTst (fBin leI (fBin mulI (fBin mulI (fVar 4) (fVar 3)) (fVar 3)) (fVar 1))) (ret (.int 1)) [3])) fNil)) fNil))) fNil))))))) fNext)
    (fSeq (fIfS (fTst (fBin (inD false) (fVar 2) (fTup (fCons (ret (.str "klein")) (fCons (ret (.str "torus")) (fCons (ret (.str "tube")) fNil)))))) (fSeq (fAsg (fBin addD (ret (.int 2)) (fBin mulI (ret (.int 2)) (fCallM 1 g__law_take 0 (fCons (fBin ixD (fOf (thnE (fCons (ret (.int 2)) (fCons (fBin fdivD (fVar 1) (ret (.int 4))) fNil)) fun xs => liftO (if sizeOk xs.length = true then some xs else none))) (fCallM 1 g__law_take 0 (fCons (ret (.int 2)) fNil))) fNil)))) (gNm 3))
    (fSeq (fAsg (fBin addD (ret (.int 1)) (fCallM 1 g__law_take 0 (fCons (fBin fdivD (fVar 1) (fVar 3)) fNil))) (gNm 4))
    (fSeq (fIfS (fTst (fBin eqD (fVar 2) (ret (.str "klein")))) (fAsg (fCall maxD (fCons (ret (.int 2)) (fCons (fBin subD (fVar 4) (fBin modD (fVar 4) (ret (.int 2)))) fNil))) (gNm 4)) fNext)
    (fSeq (fIfS (fTst (fBin eqD (fVar 2) (ret (.str "torus")))) (fRet (fTup (fCons (fVar 2) (fCons (fVar 4) (fCons (fVar 3) (fCons (fBin addD (fBin modD (fVar 4) (ret (.int 2))) (fBin mulI (ret (.int 2)) (fCallM 1 g__law_take 0 (fCons (fBin fdivD (fVar 3) (ret (.int 2))) fNil)))) fNil)))))) fNext)
    (fRet (fTup (fCons (fVar 2) (fCons (fVar 4) (fCons (fVar 3) fNil))))))))) fNext)
    (fSeq (fAsg (fBin addD (ret (.int 1)) (fCallM 1 g__law_take 0 (fCons (fBin ixD (fOf (thnE (fCons (ret (.int 4)) (fCons (fVar 1) fNil)) fun xs => liftO (if sizeOk xs.length = true then some xs else none))) (fCallM 1 g__law_take 0 (fCons (ret (.int 2)) fNil))) fNil))) (gNm 3))
    (fSeq (fAsg (fBin addD (ret (.int 1)) (fCallM 1 g__law_take 0 (fCons (fBin fdivD (fVar 1) (fVar 3)) fNil))) (gNm 4))
    (fSeq (fIfS (tdAnd (fTst (fBin eqD (fVar 2) (ret (.str "band")))) (fTst (fBin eqD (fBin modD (fBin addD (fVar 4) (fVar 3)) (ret (.int 2))) (ret (.int 1))))) (fSeq (fAsg (fIf (fTst (fBin gtI (fVar 4) (ret (.int 1)))) (fBin subD (fVar 4) (ret (.int 1))) (ret (.int 1))) (gNm 4))
    (fAsg (fIf (fTst (fBin eqD (fBin modD (fBin addD (fVar 4) (fVar 3)) (ret (.int 2))) (ret (.int 0)))) (fVar 3) (fBin subD (fVar 3) (ret (.int 1)))) (gNm 3))) fNext)
    (fSeq (fIfS (tdAnd (fTst (fBin eqD (fVar 2) (ret (.str "board")))) (fTst (fBin eqD (fCallM 1 g__law_take 0 (fCons (ret (.int 3)) fNil)) (ret (.int 0))))) (fSeq (fAsg (fCall minD (fCons (fVar 4) (fCons (fVar 3) fNil))) (gNm 4))
    (fAsg (fVar 4) (gNm 3))) fNext)
    (fRet (fTup (fCons (fVar 2) (fCons (fVar 4) (fCons (fVar 3) fNil))))))))))))
def g__law_shape : List PyData → List PyData → Option (PyData × List PyData) := runM 5 f__law_shape
theorem mk__law_shape {Pr : Program} {w : World} {K : PySem.W.Frag} {mg : Str → Option Value} {base : Heap} (T : Tops K mg) {a__law_take : Addr} {d__law_take : FuncData} (c__law_take : Cal Pr w K mg base 1 "_law_take" ["_law_pot_here", "_law_many"] (spM K 1 g__law_take) a__law_take d__law_take) {f : Addr} {fd : FuncData} (F : Fun K "_law_shape" "_law_shape" s__law_shape f fd) (gl : mg "_law_shape" = some (.ref f)) :
    Cal Pr w K mg base 2 "_law_shape" ["_law_pot_here", "_law_top"] (spM K 1 g__law_shape) f fd := by
  refine ⟨fn_M F sc__law_shape (by decide) fun cdv A outer s H hh => ?_, gl, F.kp, F.binds (ps := ["_law_pot_here", "_law_top"]) fun _ _ _ _ _ _ us hl => match us, hl with | [_, _], _ => rfl⟩
  have nd := sc__law_shape.nd
  exact (s_cons (s_asg (bb := true) (e_ix ix_seqB d_ix (fun _ _ => rfl) (e_ofF (l_lst (a_cons e_str (a_cons e_str (a_cons e_str (a_cons e_str (a_cons e_str (a_cons e_str a_nil)))))))) (e_callM 0 c__law_take.ok (hh.mono (by decide)) (by rfl) c__law_take.gl c__law_take.kp c__law_take.bd (pv 0) (a_cons e_int a_nil))) (g_nm (P := [0]) (by decide) (pg_name (i := 2) nd rfl (by first | exact Or.inl rfl | exact Or.inr rfl))))
    (s_cons (s_if (bb := true) (t_cmp (op_eq2 hh.u) d_eq (nomark _) (e_var 2 (pv 2)) e_str) (s_cons (s_asg (bb := true) (e_op op_addD d_add e_int (e_callM 0 c__law_take.ok (hh.mono (by decide)) (by rfl) c__law_take.gl c__law_take.kp c__law_take.bd (pv 0) (a_cons (e_ix ix_seqB d_ix (fun _ _ => rfl) (e_ofF (l_lst (a_cons e_int (a_cons e_int (a_cons (e_var 1 (pv 1)) a_nil))))) (e_callM 0 c__law_take.ok (hh.mono (by decide)) (by rfl) c__law_take.gl c__law_take.kp c__law_take.bd (pv 0) (a_cons e_int a_nil))) a_nil))) (g_nm (P := [0]) (by decide) (pg_name (i := 4) nd rfl (by first | exact Or.inl rfl | exact Or.inr rfl))))
    (s_cons (s_asg (bb := true) (e_callB (call_min2 hh.c) d_min (by rfl) T.b_min (by decide +kernel) (a_cons (e_var 4 (pv 4)) (a_cons (e_var 1 (pv 1)) a_nil))) (g_nm (P := [0]) (by decide) (pg_name (i := 4) nd rfl (by first | exact Or.inl rfl | exact Or.inr rfl))))
    (s_one (s_ret (bb := true) (e_tup (a_cons (e_var 2 (pv 2)) (a_cons (e_var 4 (pv 4)) (a_cons (e_op op_addD d_add e_int (e_callM 0 c__law_take.ok (hh.mono (by decide)) (by rfl) c__law_take.gl c__law_take.kp c__law_take.bd (pv 0) (a_cons (e_callB call_lenD2 d_len (by rfl) T.b_len (by decide +kernel) (a_cons (e_ofF (l_lc (own := [("_law_two", 3)]) 5 hh.c nd (i_rng2 (by rfl) T.b_range (a_cons e_int (a_cons e_int a_nil))) (blkOk_by (by first | rfl | kernel_rfl)) (fun _ _ _ _ _ => (g_nm (P := compl 5 [3]) (by decide) (pg_name (i := 3) nd rfl (by first | exact Or.inl rfl | exact Or.inr rfl)))) (fun _ _ _ _ _ => (ts_one (t_cmp op_leI d_leI (nomark _) (e_op op_mulW d_mulI (e_op op_mulW d_mulI (e_var 4 (pv 4)) (e_var 3 (pv 3))) (e_var 3 (pv 3))) (e_var 1 (pv 1))))) (fun _ _ _ _ _ => e_int))) a_nil)) a_nil))) a_nil)))))))) s_nil)
    (s_cons (s_if (bb := true) (t_cmp op_in_seq (d_in false) (by rfl) (e_var 2 (pv 2)) (e_tup (a_cons e_str (a_cons e_str (a_cons e_str a_nil))))) (s_cons (s_asg (bb := true) (e_op op_addD d_add e_int (e_op op_mulW d_mulI e_int (e_callM 0 c__law_take.ok (hh.mono (by decide)) (by rfl) c__law_take.gl c__law_take.kp c__law_take.bd (pv 0) (a_cons (e_ix ix_seqB d_ix (fun _ _ => rfl) (e_ofF (l_lst (a_cons e_int (a_cons (e_op op_fdivW d_fdiv (e_var 1 (pv 1)) e_int) a_nil)))) (e_callM 0 c__law_take.ok (hh.mono (by decide)) (by rfl) c__law_take.gl c__law_take.kp c__law_take.bd (pv 0) (a_cons e_int a_nil))) a_nil)))) (g_nm (P := [0]) (by decide) (pg_name (i := 3) nd rfl (by first | exact Or.inl rfl | exact Or.inr rfl))))
    (s_cons (s_asg (bb := true) (e_op op_addD d_add e_int (e_callM 0 c__law_take.ok (hh.mono (by decide)) (by rfl) c__law_take.gl c__law_take.kp c__law_take.bd (pv 0) (a_cons (e_op op_fdivW d_fdiv (e_var 1 (pv 1)) (e_var 3 (pv 3))) a_nil))) (g_nm (P := [0]) (by decide) (pg_name (i := 4) nd rfl (by first | exact Or.inl rfl | exact Or.inr rfl))))
    (s_cons (s_if (bb := true) (t_cmp (op_eq2 hh.u) d_eq (nomark _) (e_var 2 (pv 2)) e_str) (s_one (s_asg (bb := true) (e_callB (call_max2 hh.c) d_max (by rfl) T.b_max (by decide +kernel) (a_cons e_int (a_cons (e_op op_sub d_sub (e_var 4 (pv 4)) (e_op op_mod d_mod (e_var 4 (pv 4)) e_int)) a_nil))) (g_nm (P := [0]) (by decide) (pg_name (i := 4) nd rfl (by first | exact Or.inl rfl | exact Or.inr rfl))))) s_nil)
    (s_cons (s_if (bb := true) (t_cmp (op_eq2 hh.u) d_eq (nomark _) (e_var 2 (pv 2)) e_str) (s_one (s_ret (bb := true) (e_tup (a_cons (e_var 2 (pv 2)) (a_cons (e_var 4 (pv 4)) (a_cons (e_var 3 (pv 3)) (a_cons (e_op op_addD d_add (e_op op_mod d_mod (e_var 4 (pv 4)) e_int) (e_op op_mulW d_mulI e_int (e_callM 0 c__law_take.ok (hh.mono (by decide)) (by rfl) c__law_take.gl c__law_take.kp c__law_take.bd (pv 0) (a_cons (e_op op_fdivW d_fdiv (e_var 3 (pv 3)) e_int) a_nil)))) a_nil))))))) s_nil)
    (s_one (s_ret (bb := true) (e_tup (a_cons (e_var 2 (pv 2)) (a_cons (e_var 4 (pv 4)) (a_cons (e_var 3 (pv 3)) a_nil)))))))))) s_nil)
    (s_cons (s_asg (bb := true) (e_op op_addD d_add e_int (e_callM 0 c__law_take.ok (hh.mono (by decide)) (by rfl) c__law_take.gl c__law_take.kp c__law_take.bd (pv 0) (a_cons (e_ix ix_seqB d_ix (fun _ _ => rfl) (e_ofF (l_lst (a_cons e_int (a_cons (e_var 1 (pv 1)) a_nil)))) (e_callM 0 c__law_take.ok (hh.mono (by decide)) (by rfl) c__law_take.gl c__law_take.kp c__law_take.bd (pv 0) (a_cons e_int a_nil))) a_nil))) (g_nm (P := [0]) (by decide) (pg_name (i := 3) nd rfl (by first | exact Or.inl rfl | exact Or.inr rfl))))
    (s_cons (s_asg (bb := true) (e_op op_addD d_add e_int (e_callM 0 c__law_take.ok (hh.mono (by decide)) (by rfl) c__law_take.gl c__law_take.kp c__law_take.bd (pv 0) (a_cons (e_op op_fdivW d_fdiv (e_var 1 (pv 1)) (e_var 3 (pv 3))) a_nil))) (g_nm (P := [0]) (by decide) (pg_name (i := 4) nd rfl (by first | exact Or.inl rfl | exact Or.inr rfl))))
    (s_cons (s_if (bb := true) (PW.pt (w_and (t_cmp (op_eq2 hh.u) d_eq (nomark _) (e_var 2 (pv 2)) e_str) (w_and1 (t_cmp (op_eq2 hh.u) d_eq (nomark _) (e_op op_mod d_mod (e_op op_addD d_add (e_var 4 (pv 4)) (e_var 3 (pv 3))) e_int) e_int)))) (s_cons (s_asg (bb := true) (e_if (t_cmp op_gtI d_gtI (nomark _) (e_var 4 (pv 4)) e_int) (e_op op_sub d_sub (e_var 4 (pv 4)) e_int) e_int) (g_nm (P := [0]) (by decide) (pg_name (i := 4) nd rfl (by first | exact Or.inl rfl | exact Or.inr rfl))))
    (s_one (s_asg (bb := true) (e_if (t_cmp (op_eq2 hh.u) d_eq (nomark _) (e_op op_mod d_mod (e_op op_addD d_add (e_var 4 (pv 4)) (e_var 3 (pv 3))) e_int) e_int) (e_var 3 (pv 3)) (e_op op_sub d_sub (e_var 3 (pv 3)) e_int)) (g_nm (P := [0]) (by decide) (pg_name (i := 3) nd rfl (by first | exact Or.inl rfl | exact Or.inr rfl)))))) s_nil)
    (s_cons (s_if (bb := true) (PW.pt (w_and (t_cmp (op_eq2 hh.u) d_eq (nomark _) (e_var 2 (pv 2)) e_str) (w_and1 (t_cmp (op_eq2 hh.u) d_eq (nomark _) (e_callM 0 c__law_take.ok (hh.mono (by decide)) (by rfl) c__law_take.gl c__law_take.kp c__law_take.bd (pv 0) (a_cons e_int a_nil)) e_int)))) (s_cons (s_asg (bb := true) (e_callB (call_min2 hh.c) d_min (by rfl) T.b_min (by decide +kernel) (a_cons (e_var 4 (pv 4)) (a_cons (e_var 3 (pv 3)) a_nil))) (g_nm (P := [0]) (by decide) (pg_name (i := 4) nd rfl (by first | exact Or.inl rfl | exact Or.inr rfl))))
    (s_one (s_asg (bb := true) (e_var 4 (pv 4)) (g_nm (P := [0]) (by decide) (pg_name (i := 3) nd rfl (by first | exact Or.inl rfl | exact Or.inr rfl)))))) s_nil)
    (s_one (s_ret (bb := true) (e_tup (a_cons (e_var 2 (pv 2)) (a_cons (e_var 4 (pv 4)) (a_cons (e_var 3 (pv 3)) a_nil)))))))))))))
abbrev s__law_bent : Stmt := topS 17
theorem sc__law_bent : FnScope ["_law_pot_here", "_law_shape_here", "_law_at", "_law_one", "_law_some", "_law_odd", "_law_words"] ["_law_pot_here", "_law_shape_here"] (defScope s__law_bent) := ⟨rfl, rfl, rfl, by decide +kernel, rfl, by decide +kernel, by decide +kernel⟩
def f__law_bent : FS := (fSeq (fAsg (fBin addD (ret (.int 1)) (fCallM 1 g__law_take 0 (fCons (fBin subD (fCall lenD (fCons (fVar 1) fNil)) (ret (.int 1))) fNil))) (gNm 2))
    (fSeq (fAsg (fBin ixD (fVar 1) (fVar 2)) (gNm 3))
    (fSeq (fOwn (thnE (fCons (fBin addD (fVar 3) (ret (.int 1))) (fCons (fBin subD (fVar 3) (ret (.int 1))) (fCons (fBin addD (fVar 3) (ret (.int 2))) (fCons (fBin subD (ret (.int 0)) (fVar 3)) (fCons (ret (.int 0)) (fCons (ret (.int 61)) (fCons (ret (.int 60)) (fCons (fBin powD (ret (.int 10)) (ret (.int 39))) (fCons (ret (.bool true)) (fCons (fCall strI (fCons (fVar 3) fNil)) (fCons (ret .none) (fCons (fTup (fCons (fVar 3) fNil)) (fCons (fOf (thnE fNil fun xs => liftO (if sizeOk xs.length = true then some xs else none))) (fCons (ret (.dict [])) fNil)))))))))))))) fun xs => liftO (if sizeOk xs.length = true then some xs else none)) 4)
    (fSeq (fAsg (fIxOwn 4 (fCallM 1 g__law_take 0 (fCons (ret (.int 14)) fNil))) (gNm 5))
    (fSeq (fAsg (fOf (thnE (fCons (ret (.str "band")) (fCons (ret (.str "board")) (fCons (ret (.str "fan")) (fCons (ret (.str "klein")) (fCons (ret (.str "torus")) (fCons (ret (.str "tube")) (fCons (ret (.str "Fan")) (fCons (ret (.str "")) (fCons (ret (.str "bands")) (fCons (fOf (thnE fNil fun xs => liftO (if sizeOk xs.length = true then some xs else none))) (fCons (ret (.dict [])) (fCons (fTup (fCons (ret (.str "fan")) fNil)) (fCons (ret .none) fNil))))))))))))) fun xs => liftO (if sizeOk xs.length = true then some xs else none))) (gNm 6))
    (fSeq (fOwn (thnE (fCons (fBin addD (fBin addD (fSl (fVar 1) (ret none) (fPart (fVar 2))) (fTup (fCons (fVar 5) fNil))) (fSl (fVar 1) (fPart (fBin addD (fVar 2) (ret (.int 1)))) (ret none))) (fCons (fBin addD (fTup (fCons (fBin ixD (fVar 6) (fCallM 1 g__law_take 0 (fCons (ret (.int 13)) fNil))) fNil)) (fSl (fVar 1) (fPart (ret (.int 1))) (ret none))) (fCons (fCall listD (fCons (fVar 1) fNil)) fNil))) fun xs => liftO (if sizeOk xs.length = true then some xs else none)) 4)
    (fSeq (fOwn (fOwnAdd 4 (fOf (thnE (fCons (fBin addD (fSl (fVar 1) (ret none) (fPart (fVar 2))) (fSl (fVar 1) (fPart (fBin addD (fVar 2) (ret (.int 1)))) (ret none))) (fCons (fBin addD (fVar 1) (fTup (fCons (fCallM 1 g__law_take 0 (fCons (ret (.int 4)) fNil)) fNil))) fNil)) fun xs => liftO (if sizeOk xs.length = true then some xs else none)))) 4)
    (fSeq (fDrop (fMet 4 appG (fCons (fBin addD (fBin addD (fTup (fCons (fBin ixD (fVar 1) (ret (.int 0))) fNil)) (fUn revD (fSl (fVar 1) (fPart (ret (.int 1))) (fPart (ret (.int 3)))))) (fSl (fVar 1) (fPart (ret (.int 3))) (ret none))) fNil)))
    (fFrz 4 (fRet (fBin ixD (fVar 4) (fBin ixD (fOf (thnE (fCons (ret (.int 0)) (fCons (ret (.int 0)) (fCons (ret (.int 0)) (fCons (ret (.int 0)) (fCons (ret (.int 1)) (fCons (ret (.int 1)) (fCons (ret (.int 2)) (fCons (ret (.int 3)) (fCons (ret (.int 4)) (fCons (ret (.int 5)) fNil)))))))))) fun xs => liftO (if sizeOk xs.length = true then some xs else none))) (fCallM 1 g__law_take 0 (fCons (ret (.int 10)) fNil))))))))))))))
def g__law_bent : List PyData → List PyData → Option (PyData × List PyData) := runM 7 f__law_bent
theorem mk__law_bent {Pr : Program} {w : World} {K : PySem.W.Frag} {mg : Str → Option Value} {base : Heap} (T : Tops K mg) {a__law_take : Addr} {d__law_take : FuncData} (c__law_take : Cal Pr w K mg base 1 "_law_take" ["_law_pot_here", "_law_many"] (spM K 1 g__law_take) a__law_take d__law_take) {f : Addr} {fd : FuncData} (F : Fun K "_law_bent" "_law_bent" s__law_bent f fd) (gl : mg "_law_bent" = some (.ref f)) :
    Cal Pr w K mg base 2 "_law_bent" ["_law_pot_here", "_law_shape_here"] (spM K 1 g__law_bent) f fd := by
  refine ⟨fn_M F sc__law_bent (by decide) fun cdv A outer s H hh => ?_, gl, F.kp, F.binds (ps := ["_law_pot_here", "_law_shape_here"]) fun _ _ _ _ _ _ us hl => match us, hl with | [_, _], _ => rfl⟩
  have nd := sc__law_bent.nd
  exact (s_cons (s_asg (bb := true) (e_op op_addD d_add e_int (e_callM 0 c__law_take.ok (hh.mono (by decide)) (by rfl) c__law_take.gl c__law_take.kp c__law_take.bd (pv 0) (a_cons (e_op op_sub d_sub (e_callB call_lenD2 d_len (by rfl) T.b_len (by decide +kernel) (a_cons (e_var 1 (pv 1)) a_nil)) e_int) a_nil))) (g_nm (P := [0]) (by decide) (pg_name (i := 2) nd rfl (by first | exact Or.inl rfl | exact Or.inr rfl))))
    (s_cons (s_asg (bb := true) (e_ix ix_seqB d_ix (fun _ _ => rfl) (e_var 1 (pv 1)) (e_var 2 (pv 2))) (g_nm (P := [0]) (by decide) (pg_name (i := 3) nd rfl (by first | exact Or.inl rfl | exact Or.inr rfl))))
    (s_cons (s_own (bb := true) 4 (P := [0]) (by decide) (l_lst (a_cons (e_op op_addD d_add (e_var 3 (pv 3)) e_int) (a_cons (e_op op_sub d_sub (e_var 3 (pv 3)) e_int) (a_cons (e_op op_addD d_add (e_var 3 (pv 3)) e_int) (a_cons (e_op op_sub d_sub e_int (e_var 3 (pv 3))) (a_cons e_int (a_cons e_int (a_cons e_int (a_cons (e_op op_powW d_pow e_int e_int) (a_cons e_bl (a_cons (e_callTy call_strI d_strI (by rfl) T.b_str (by decide +kernel) (a_cons (e_var 3 (pv 3)) a_nil)) (a_cons e_non (a_cons (e_tup (a_cons (e_var 3 (pv 3)) a_nil)) (a_cons (e_ofF (l_lst a_nil)) (a_cons e_dict0 a_nil))))))))))))))) (pg_name (i := 4) nd rfl (by first | exact Or.inl rfl | exact Or.inr rfl)))
    (s_cons (s_asg (bb := true) (e_ixOwn 4 (pv 4) (e_callM 0 c__law_take.ok (hh.mono (by decide)) (by rfl) c__law_take.gl c__law_take.kp c__law_take.bd (pv 0) (a_cons e_int a_nil)) (fun _ _ => rfl)) (g_nm (P := [0]) (by decide) (pg_name (i := 5) nd rfl (by first | exact Or.inl rfl | exact Or.inr rfl))))
    (s_cons (s_asg (bb := true) (e_ofF (l_lst (a_cons e_str (a_cons e_str (a_cons e_str (a_cons e_str (a_cons e_str (a_cons e_str (a_cons e_str (a_cons e_str (a_cons e_str (a_cons (e_ofF (l_lst a_nil)) (a_cons e_dict0 (a_cons (e_tup (a_cons e_str a_nil)) (a_cons e_non a_nil))))))))))))))) (g_nm (P := [0]) (by decide) (pg_name (i := 6) nd rfl (by first | exact Or.inl rfl | exact Or.inr rfl))))
    (s_cons (s_own (bb := true) 4 (P := [0]) (by decide) (l_lst (a_cons (e_op op_addD d_add (e_op op_addD d_add (e_sl (e_var 1 (pv 1)) o_none (o_some (e_var 2 (pv 2)))) (e_tup (a_cons (e_var 5 (pv 5)) a_nil))) (e_sl (e_var 1 (pv 1)) (o_some (e_op op_addD d_add (e_var 2 (pv 2)) e_int)) o_none)) (a_cons (e_op op_addD d_add (e_tup (a_cons (e_ix ix_seqB d_ix (fun _ _ => rfl) (e_var 6 (pv 6)) (e_callM 0 c__law_take.ok (hh.mono (by decide)) (by rfl) c__law_take.gl c__law_take.kp c__law_take.bd (pv 0) (a_cons e_int a_nil))) a_nil)) (e_sl (e_var 1 (pv 1)) (o_some e_int) o_none)) (a_cons (e_callTy call_list_of d_list (by rfl) T.b_list (by decide +kernel) (a_cons (e_var 1 (pv 1)) a_nil)) a_nil)))) (pg_name (i := 4) nd rfl (by first | exact Or.inl rfl | exact Or.inr rfl)))
    (s_cons (s_own (bb := true) 4 (P := [0]) (by decide) (l_ownAdd 4 (pv 4) (e_ofF (l_lst (a_cons (e_op op_addD d_add (e_sl (e_var 1 (pv 1)) o_none (o_some (e_var 2 (pv 2)))) (e_sl (e_var 1 (pv 1)) (o_some (e_op op_addD d_add (e_var 2 (pv 2)) e_int)) o_none)) (a_cons (e_op op_addD d_add (e_var 1 (pv 1)) (e_tup (a_cons (e_callM 0 c__law_take.ok (hh.mono (by decide)) (by rfl) c__law_take.gl c__law_take.kp c__law_take.bd (pv 0) (a_cons e_int a_nil)) a_nil))) a_nil))))) (pg_name (i := 4) nd rfl (by first | exact Or.inl rfl | exact Or.inr rfl)))
    (s_cons (s_drop (bb := true) (e_met 4 m_app (pe_bm PySem.F.plainAttrs_list PySem.F.slot_list_append PySem.F.type_list_append mt_append (pv 4) (a_cons (e_op op_addD d_add (e_op op_addD d_add (e_tup (a_cons (e_ix ix_seqB d_ix (fun _ _ => rfl) (e_var 1 (pv 1)) e_int) a_nil)) (e_rev (e_sl (e_var 1 (pv 1)) (o_some e_int) (o_some e_int)))) (e_sl (e_var 1 (pv 1)) (o_some e_int) o_none)) a_nil))))
    (ss_frz 4 (s_one (s_ret (bb := true) (e_ix ix_seqB d_ix (fun _ _ => rfl) (e_var 4 (pv 4)) (e_ix ix_seqB d_ix (fun _ _ => rfl) (e_ofF (l_lst (a_cons e_int (a_cons e_int (a_cons e_int (a_cons e_int (a_cons e_int (a_cons e_int (a_cons e_int (a_cons e_int (a_cons e_int (a_cons e_int a_nil)))))))))))) (e_callM 0 c__law_take.ok (hh.mono (by decide)) (by rfl) c__law_take.gl c__law_take.kp c__law_take.bd (pv 0) (a_cons e_int a_nil)))))))))))))))
abbrev s_is_whole : Stmt := topS 1
theorem sc_is_whole : FnScope ["thing"] ["thing"] (defScope s_is_whole) := ⟨rfl, rfl, rfl, by decide +kernel, rfl, by decide +kernel, by decide +kernel⟩
def f_is_whole : FS := (fRet (vAnd (fUn (isiD "int") (fVar 0)) (vNot (fUn (isiD "bool") (fVar 0)))))
def g_is_whole : List PyData → Option PyData := runP 1 f_is_whole
theorem mk_is_whole {Pr : Program} {w : World} {K : PySem.W.Frag} {mg : Str → Option Value} {base : Heap} (T : Tops K mg) {f : Addr} {fd : FuncData} (F : Fun K "is_whole" "is_whole" s_is_whole f fd) (gl : mg "is_whole" = some (.ref f)) :
    Cal Pr w K mg base 1 "is_whole" ["thing"] (spP K 1 g_is_whole) f fd := by
  refine ⟨fn_P F sc_is_whole fun cdv A outer s H hh => ?_, gl, F.kp, F.binds (ps := ["thing"]) fun _ _ _ _ _ _ us hl => match us, hl with | [_], _ => rfl⟩
  have nd := sc_is_whole.nd
  exact (s_one (s_ret (bb := true) (e_and (e_isi (T := "int") (by rfl) T.b_isinstance (by decide +kernel) (by rfl) T.b_int (by decide +kernel) (e_var 0 (pv 0))) (e_one (e_not (e_isi (T := "bool") (by rfl) T.b_isinstance (by decide +kernel) (by rfl) T.b_bool (by decide +kernel) (e_var 0 (pv 0))))))))
abbrev s_is_shape : Stmt := topS 10
theorem sc_is_shape : FnScope ["thing", "word", "one", "other", "part"] ["thing"] (defScope s_is_shape) := ⟨rfl, rfl, rfl, by decide +kernel, rfl, by decide +kernel, by decide +kernel⟩
def f_is_shape : FS := (fSeq (fIfS (tdOr (tdNot (fTst (fUn (isiD "tuple") (fVar 0)))) (tdOr (tdNot (fTst (fChain leI leI (ret (.int 3)) (fCall lenD (fCons (fVar 0) fNil)) (ret (.int 4))))) (fTst (fBin ninT (fBin ixD (fVar 0) (ret (.int 0))) (ret (.tuple [(.str "band"), (.str "board"), (.str "fan"), (.str "klein"), (.str "torus"), (.str "tube")])))))) (fRet (ret (.bool false))) fNext)
    (fSeq (fIfS (tdOr (tdNot (fTst (fCall allD (fCons (fOf (fLc (fItems (fSl (fVar 0) (fPart (ret (.int 1))) (ret none))) (gNm 4) (ret true) (fCall (lenIs 1 g_is_whole) (fCons (fVar 4) fNil)) [4])) fNil)))) (fTst (fBin neD (fCall lenD (fCons (fVar 0) fNil)) (fIf (fTst (fBin eqD (fBin ixD (fVar 0) (ret (.int 0))) (ret (.str "torus")))) (ret (.int 4)) (ret (.int 3)))))) (fRet (ret (.bool false))) fNext)
    (fSeq (fAsg (fSl (fVar 0) (ret none) (fPart (ret (.int 3)))) (gTp [(gNm 1), (gNm 2), (gNm 3)]))
    (fSeq (fIfS (tdOr (fTst (fBin ltD (fVar 2) (ret (.int 1)))) (tdOr (fTst (fBin ltD (fVar 3) (ret (.int 1)))) (fTst (fBin gtI (fBin mulI (fBin mulI (fVar 2) (fVar 3)) (fIf (fTst (fBin eqD (fVar 1) (ret (.str "fan")))) (fVar 3) (ret (.int 1)))) (ret (.int 60)))))) (fRet (ret (.bool false))) fNext)
    (fSeq (fIfS (fTst (fBin eqD (fVar 1) (ret (.str "tube")))) (fRet (fBin eqD (fBin modD (fVar 3) (ret (.int 2))) (ret (.int 0)))) fNext)
    (fSeq (fIfS (fTst (fBin eqD (fVar 1) (ret (.str "torus")))) (fRet (vAnd (fBin eqD (fBin modD (fVar 3) (ret (.int 2))) (ret (.int 0))) (vAnd (fChain leI ltD (ret (.int 0)) (fBin ixD (fVar 0) (ret (.int 3))) (fVar 3)) (fBin eqD (fBin modD (fBin addD (fVar 2) (fBin ixD (fVar 0) (ret (.int 3)))) (ret (.int 2))) (ret (.int 0)))))) fNext)
    (fSeq (fIfS (fTst (fBin eqD (fVar 1) (ret (.str "klein")))) (fRet (vAnd (fBin eqD (fBin modD (fVar 2) (ret (.int 2))) (ret (.int 0))) (fBin eqD (fBin modD (fVar 3) (ret (.int 2))) (ret (.int 0))))) fNext)
    (fRet (vOr (fBin neD (fVar 1) (ret (.str "band"))) (fBin eqD (fBin modD (fBin addD (fVar 2) (fVar 3)) (ret (.int 2))) (ret (.int 0))))))))))))
def g_is_shape : List PyData → Option PyData := runP 5 f_is_shape
theorem mk_is_shape {Pr : Program} {w : World} {K : PySem.W.Frag} {mg : Str → Option Value} {base : Heap} (T : Tops K mg) {a_is_whole : Addr} {d_is_whole : FuncData} (c_is_whole : Cal Pr w K mg base 1 "is_whole" ["thing"] (spP K 1 g_is_whole) a_is_whole d_is_whole) {f : Addr} {fd : FuncData} (F : Fun K "is_shape" "is_shape" s_is_shape f fd) (gl : mg "is_shape" = some (.ref f)) :
    Cal Pr w K mg base 2 "is_shape" ["thing"] (spP K 1 g_is_shape) f fd := by
  refine ⟨fn_P F sc_is_shape fun cdv A outer s H hh => ?_, gl, F.kp, F.binds (ps := ["thing"]) fun _ _ _ _ _ _ us hl => match us, hl with | [_], _ => rfl⟩
  have nd := sc_is_shape.nd
  exact (s_cons (s_if (bb := true) (PW.pt (w_or (t_not (t_val (e_isi (T := "tuple") (by rfl) T.b_isinstance (by decide +kernel) (by rfl) T.b_tuple (by decide +kernel) (e_var 0 (pv 0))))) (w_or (t_not (t_chain op_leI op_leI d_leI d_leI e_int (e_callB call_lenD2 d_len (by rfl) T.b_len (by decide +kernel) (a_cons (e_var 0 (pv 0)) a_nil)) e_int)) (w_or1 (t_cmp (op_ninT hh.u) d_ninT (by rfl) (e_ix ix_seqB d_ix (fun _ _ => rfl) (e_var 0 (pv 0)) e_int) (e_globT (by rfl) T.c_SHAPES)))))) (s_one (s_ret (bb := true) e_bl)) s_nil)
    (s_cons (s_if (bb := true) (PW.pt (w_or (t_not (t_val (e_callB (cr_all hh.c) d_all (by rfl) T.b_all (by decide +kernel) (a_cons (e_ofF (l_lc (own := [("part", 4)]) 5 hh.c nd (i_seq (e_sl (e_var 0 (pv 0)) (o_some e_int) o_none)) (blkOk_by (by first | rfl | kernel_rfl)) (fun _ _ _ _ _ => (g_nm (P := compl 5 [4]) (by decide) (pg_name (i := 4) nd rfl (by first | exact Or.inl rfl | exact Or.inr rfl)))) (fun _ _ _ _ _ => ts_nil) (fun _ _ _ _ _ => (e_callP c_is_whole.ok (hh.blk.mono (by decide)) (by rfl) c_is_whole.gl c_is_whole.kp c_is_whole.bd (a_cons (e_var 4 (pv 4)) a_nil))))) a_nil)))) (w_or1 (t_cmp (op_ne2 hh.u) d_ne (nomark _) (e_callB call_lenD2 d_len (by rfl) T.b_len (by decide +kernel) (a_cons (e_var 0 (pv 0)) a_nil)) (e_if (t_cmp (op_eq2 hh.u) d_eq (nomark _) (e_ix ix_seqB d_ix (fun _ _ => rfl) (e_var 0 (pv 0)) e_int) (e_globS (by rfl) T.c_TORUS)) e_int e_int))))) (s_one (s_ret (bb := true) e_bl)) s_nil)
    (s_cons (s_asg (bb := true) (e_sl (e_var 0 (pv 0)) o_none (o_some e_int)) (g_tp hh.c (gs_cons (g_nm (P := []) (by decide) (pg_name (i := 1) nd rfl (by first | exact Or.inl rfl | exact Or.inr rfl))) (gs_cons (g_nm (P := []) (by decide) (pg_name (i := 2) nd rfl (by first | exact Or.inl rfl | exact Or.inr rfl))) (gs_cons (g_nm (P := []) (by decide) (pg_name (i := 3) nd rfl (by first | exact Or.inl rfl | exact Or.inr rfl))) gs_nil)))))
    (s_cons (s_if (bb := true) (PW.pt (w_or (t_cmp (op_ltD hh.u0) d_lt (nomark _) (e_var 2 (pv 2)) e_int) (w_or (t_cmp (op_ltD hh.u0) d_lt (nomark _) (e_var 3 (pv 3)) e_int) (w_or1 (t_cmp op_gtI d_gtI (nomark _) (e_op op_mulW d_mulI (e_op op_mulW d_mulI (e_var 2 (pv 2)) (e_var 3 (pv 3))) (e_if (t_cmp (op_eq2 hh.u) d_eq (nomark _) (e_var 1 (pv 1)) (e_globS (by rfl) T.c_FAN)) (e_var 3 (pv 3)) e_int)) (e_globE (by rfl) T.c_MOST_POSTS)))))) (s_one (s_ret (bb := true) e_bl)) s_nil)
    (s_cons (s_if (bb := true) (t_cmp (op_eq2 hh.u) d_eq (nomark _) (e_var 1 (pv 1)) (e_globS (by rfl) T.c_TUBE)) (s_one (s_ret (bb := true) (e_cmp (op_eq2 hh.u) d_eq (nomark _) (e_op op_mod d_mod (e_var 3 (pv 3)) e_int) e_int))) s_nil)
    (s_cons (s_if (bb := true) (t_cmp (op_eq2 hh.u) d_eq (nomark _) (e_var 1 (pv 1)) (e_globS (by rfl) T.c_TORUS)) (s_one (s_ret (bb := true) (e_and (e_cmp (op_eq2 hh.u) d_eq (nomark _) (e_op op_mod d_mod (e_var 3 (pv 3)) e_int) e_int) (e_and (e_chain op_leI (op_ltD hh.u0) d_leI d_lt e_int (e_ix ix_seqB d_ix (fun _ _ => rfl) (e_var 0 (pv 0)) e_int) (e_var 3 (pv 3))) (e_one (e_cmp (op_eq2 hh.u) d_eq (nomark _) (e_op op_mod d_mod (e_op op_addD d_add (e_var 2 (pv 2)) (e_ix ix_seqB d_ix (fun _ _ => rfl) (e_var 0 (pv 0)) e_int)) e_int) e_int)))))) s_nil)
    (s_cons (s_if (bb := true) (t_cmp (op_eq2 hh.u) d_eq (nomark _) (e_var 1 (pv 1)) (e_globS (by rfl) T.c_KLEIN)) (s_one (s_ret (bb := true) (e_and (e_cmp (op_eq2 hh.u) d_eq (nomark _) (e_op op_mod d_mod (e_var 2 (pv 2)) e_int) e_int) (e_one (e_cmp (op_eq2 hh.u) d_eq (nomark _) (e_op op_mod d_mod (e_var 3 (pv 3)) e_int) e_int))))) s_nil)
    (s_one (s_ret (bb := true) (e_or (e_cmp (op_ne2 hh.u) d_ne (nomark _) (e_var 1 (pv 1)) (e_globS (by rfl) T.c_BAND)) (e_one (e_cmp (op_eq2 hh.u) d_eq (nomark _) (e_op op_mod d_mod (e_op op_addD d_add (e_var 2 (pv 2)) (e_var 3 (pv 3))) e_int) e_int))))))))))))
abbrev s__law_no_shape : Stmt := topS 16
theorem sc__law_no_shape : FnScope ["_law_pot_here", "_law_shape_here", "_law_some", "_law_word", "_law_one", "_law_two"] ["_law_pot_here", "_law_shape_here"] (defScope s__law_no_shape) := ⟨rfl, rfl, rfl, by decide +kernel, rfl, by decide +kernel, by decide +kernel⟩
def f__law_no_shape : FS := (fSeq (fAsg (fSl (fVar 1) (ret none) (fPart (ret (.int 3)))) (gTp [(gNm 3), (gNm 4), (gNm 5)]))
    (fSeq (fOwn (thnE (fCons (ret .none) (fCons (ret (.int 7)) (fCons (ret (.str "fan")) (fCons (fTup fNil) (fCons (fTup (fCons (fVar 3) fNil)) (fCons (fTup (fCons (fVar 3) (fCons (fVar 4) fNil))) (fCons (fCall listD (fCons (fVar 1) fNil)) (fCons (fBin addD (fVar 1) (fTup (fCons (ret (.int 0)) (fCons (ret (.int 0)) fNil)))) (fCons (fTup (fCons (fVar 4) (fCons (fVar 5) (fCons (fVar 3) fNil)))) (fCons (ret (.dict [])) fNil)))))))))) fun xs => liftO (if sizeOk xs.length = true then some xs else none)) 2)
    (fSeq (fOwn (fOwnAdd 2 (fOf (thnE (fCons (fTup (fCons (ret (.str "Board")) (fCons (ret (.int 2)) (fCons (ret (.int 2)) fNil)))) (fCons (fBin addD (fTup (fCons (fVar 3) (fCons (ret (.int 0)) (fCons (fVar 5) fNil)))) (fSl (fVar 1) (fPart (ret (.int 3))) (ret none))) (fCons (fBin addD (fTup (fCons (fVar 3) (fCons (fVar 4) (fCons (ret (.bool true)) fNil)))) (fSl (fVar 1) (fPart (ret (.int 3))) (ret none))) (fCons (fTup (fCons (fVar 3) (fCons (fVar 4) (fCons (fUn negD (ret (.int 2))) fNil)))) fNil)))) fun xs => liftO (if sizeOk xs.length = true then some xs else none)))) 2)
    (fSeq (fOwn (fOwnAdd 2 (fOf (thnE (fCons (fTup (fCons (ret (.str "tube")) (fCons (ret (.int 2)) (fCons (ret (.int 3)) fNil)))) (fCons (fTup (fCons (ret (.str "klein")) (fCons (ret (.int 3)) (fCons (ret (.int 2)) fNil)))) (fCons (fTup (fCons (ret (.str "klein")) (fCons (ret (.int 2)) (fCons (ret (.int 3)) fNil)))) (fCons (fTup (fCons (ret (.str "band")) (fCons (ret (.int 2)) (fCons (ret (.int 3)) fNil)))) (fCons (fTup (fCons (ret (.str "torus")) (fCons (ret (.int 2)) (fCons (ret (.int 2)) fNil)))) fNil))))) fun xs => liftO (if sizeOk xs.length = true then some xs else none)))) 2)
    (fSeq (fOwn (fOwnAdd 2 (fOf (thnE (fCons (fTup (fCons (ret (.str "fan")) (fCons (ret (.int 2)) (fCons (ret (.int 6)) fNil)))) (fCons (fTup (fCons (ret (.str "fan")) (fCons (ret (.int 61)) (fCons (ret (.int 1)) fNil)))) (fCons (fTup (fCons (ret (.str "torus")) (fCons (ret (.int 2)) (fCons (ret (.int 2)) (fCons (ret (.int 1)) fNil))))) (fCons (fTup (fCons (ret (.str "torus")) (fCons (ret (.int 1)) (fCons (ret (.int 2)) (fCons (ret (.int 3)) fNil))))) (fCons (fTup (fCons (ret (.str "torus")) (fCons (ret (.int 1)) (fCons (ret (.int 2)) (fCons (fUn negD (ret (.int 1))) fNil))))) fNil))))) fun xs => liftO (if sizeOk xs.length = true then some xs else none)))) 2)
    (fSeq (fOwn (fOwnAdd 2 (fOf (thnE (fCons (fTup (fCons (ret (.str "torus")) (fCons (ret (.int 2)) (fCons (ret (.int 3)) (fCons (ret (.int 0)) fNil))))) (fCons (fTup (fCons (ret (.str "board")) (fCons (ret (.int 2)) (fCons (ret (.int 2)) (fCons (ret (.int 0)) fNil))))) (fCons (fTup (fCons (ret (.str "board")) (fCons (ret (.str "2")) (fCons (ret (.int 2)) fNil)))) (fCons (fTup (fCons (ret (.str "board")) (fCons (fBin powD (ret (.int 10)) (ret (.int 30))) (fCons (ret (.int 1)) fNil)))) fNil)))) fun xs => liftO (if sizeOk xs.length = true then some xs else none)))) 2)
    (fSeq (fOwn (fOwnAdd 2 (fOf (thnE (fCons (fTup (fCons (ret (.str "cube")) (fCons (ret (.int 2)) (fCons (ret (.int 2)) fNil)))) (fCons (fTup (fCons (ret (.str "board")) (fCons (ret (.int 61)) (fCons (ret (.int 1)) fNil)))) (fCons (fTup (fCons (fTup (fCons (ret (.str "fan")) fNil)) (fCons (ret (.int 2)) (fCons (ret (.int 2)) fNil)))) (fCons (fTup (fCons (fOf (thnE (fCons (ret (.str "fan")) fNil) fun xs => liftO (if sizeOk xs.length = true then some xs else none))) (fCons (ret (.int 2)) (fCons (ret (.int 2)) fNil)))) (fCons (fTup (fCons (ret (.dict [])) (fCons (ret (.int 2)) (fCons (ret (.int 2)) fNil)))) fNil))))) fun xs => liftO (if sizeOk xs.length = true then some xs else none)))) 2)
    (fSeq (fOwn (fOwnAdd 2 (fOf (thnE (fCons (fTup (fCons (fOf (thnE (fCons (ret (.str "torus")) fNil) fun xs => liftO (if sizeOk xs.length = true then some xs else none))) (fCons (ret (.int 1)) (fCons (ret (.int 2)) (fCons (ret (.int 1)) fNil))))) (fCons (fBin addD (fTup (fCons (fVar 3) (fCons (fOf (thnE fNil fun xs => liftO (if sizeOk xs.length = true then some xs else none))) (fCons (fVar 5) fNil)))) (fSl (fVar 1) (fPart (ret (.int 3))) (ret none))) (fCons (fBin addD (fTup (fCons (fVar 3) (fCons (fVar 4) (fCons (ret (.dict [])) fNil)))) (fSl (fVar 1) (fPart (ret (.int 3))) (ret none))) fNil))) fun xs => liftO (if sizeOk xs.length = true then some xs else none)))) 2)
    (fSeq (fDrop (fMet 2 appG (fCons (fTup (fCons (ret (.str "torus")) (fCons (ret (.int 1)) (fCons (ret (.int 2)) (fCons (fOf (thnE fNil fun xs => liftO (if sizeOk xs.length = true then some xs else none))) fNil))))) fNil)))
    (fFrz 2 (fRet (fBin ixD (fVar 2) (fCallM 1 g__law_take 0 (fCons (ret (.int 37)) fNil))))))))))))))
def g__law_no_shape : List PyData → List PyData → Option (PyData × List PyData) := runM 6 f__law_no_shape
theorem mk__law_no_shape {Pr : Program} {w : World} {K : PySem.W.Frag} {mg : Str → Option Value} {base : Heap} (T : Tops K mg) {a__law_take : Addr} {d__law_take : FuncData} (c__law_take : Cal Pr w K mg base 1 "_law_take" ["_law_pot_here", "_law_many"] (spM K 1 g__law_take) a__law_take d__law_take) {f : Addr} {fd : FuncData} (F : Fun K "_law_no_shape" "_law_no_shape" s__law_no_shape f fd) (gl : mg "_law_no_shape" = some (.ref f)) :
    Cal Pr w K mg base 2 "_law_no_shape" ["_law_pot_here", "_law_shape_here"] (spM K 1 g__law_no_shape) f fd := by
  refine ⟨fn_M F sc__law_no_shape (by decide) fun cdv A outer s H hh => ?_, gl, F.kp, F.binds (ps := ["_law_pot_here", "_law_shape_here"]) fun _ _ _ _ _ _ us hl => match us, hl with | [_, _], _ => rfl⟩
  have nd := sc__law_no_shape.nd
  exact (s_cons (s_asg (bb := true) (e_sl (e_var 1 (pv 1)) o_none (o_some e_int)) (g_tp hh.c (gs_cons (g_nm (P := [0]) (by decide) (pg_name (i := 3) nd rfl (by first | exact Or.inl rfl | exact Or.inr rfl))) (gs_cons (g_nm (P := [0]) (by decide) (pg_name (i := 4) nd rfl (by first | exact Or.inl rfl | exact Or.inr rfl))) (gs_cons (g_nm (P := [0]) (by decide) (pg_name (i := 5) nd rfl (by first | exact Or.inl rfl | exact Or.inr rfl))) gs_nil)))))
    (s_cons (s_own (bb := true) 2 (P := [0]) (by decide) (l_lst (a_cons e_non (a_cons e_int (a_cons e_str (a_cons (e_tup a_nil) (a_cons (e_tup (a_cons (e_var 3 (pv 3)) a_nil)) (a_cons (e_tup (a_cons (e_var 3 (pv 3)) (a_cons (e_var 4 (pv 4)) a_nil))) (a_cons (e_callTy call_list_of d_list (by rfl) T.b_list (by decide +kernel) (a_cons (e_var 1 (pv 1)) a_nil)) (a_cons (e_op op_addD d_add (e_var 1 (pv 1)) (e_tup (a_cons e_int (a_cons e_int a_nil)))) (a_cons (e_tup (a_cons (e_var 4 (pv 4)) (a_cons (e_var 5 (pv 5)) (a_cons (e_var 3 (pv 3)) a_nil)))) (a_cons e_dict0 a_nil))))))))))) (pg_name (i := 2) nd rfl (by first | exact Or.inl rfl | exact Or.inr rfl)))
    (s_cons (s_own (bb := true) 2 (P := [0]) (by decide) (l_ownAdd 2 (pv 2) (e_ofF (l_lst (a_cons (e_tup (a_cons e_str (a_cons e_int (a_cons e_int a_nil)))) (a_cons (e_op op_addD d_add (e_tup (a_cons (e_var 3 (pv 3)) (a_cons e_int (a_cons (e_var 5 (pv 5)) a_nil)))) (e_sl (e_var 1 (pv 1)) (o_some e_int) o_none)) (a_cons (e_op op_addD d_add (e_tup (a_cons (e_var 3 (pv 3)) (a_cons (e_var 4 (pv 4)) (a_cons e_bl a_nil)))) (e_sl (e_var 1 (pv 1)) (o_some e_int) o_none)) (a_cons (e_tup (a_cons (e_var 3 (pv 3)) (a_cons (e_var 4 (pv 4)) (a_cons (e_un un_neg d_neg e_int) a_nil)))) a_nil))))))) (pg_name (i := 2) nd rfl (by first | exact Or.inl rfl | exact Or.inr rfl)))
    (s_cons (s_own (bb := true) 2 (P := [0]) (by decide) (l_ownAdd 2 (pv 2) (e_ofF (l_lst (a_cons (e_tup (a_cons e_str (a_cons e_int (a_cons e_int a_nil)))) (a_cons (e_tup (a_cons e_str (a_cons e_int (a_cons e_int a_nil)))) (a_cons (e_tup (a_cons e_str (a_cons e_int (a_cons e_int a_nil)))) (a_cons (e_tup (a_cons e_str (a_cons e_int (a_cons e_int a_nil)))) (a_cons (e_tup (a_cons e_str (a_cons e_int (a_cons e_int a_nil)))) a_nil)))))))) (pg_name (i := 2) nd rfl (by first | exact Or.inl rfl | exact Or.inr rfl)))
    (s_cons (s_own (bb := true) 2 (P := [0]) (by decide) (l_ownAdd 2 (pv 2) (e_ofF (l_lst (a_cons (e_tup (a_cons e_str (a_cons e_int (a_cons e_int a_nil)))) (a_cons (e_tup (a_cons e_str (a_cons e_int (a_cons e_int a_nil)))) (a_cons (e_tup (a_cons e_str (a_cons e_int (a_cons e_int (a_cons e_int a_nil))))) (a_cons (e_tup (a_cons e_str (a_cons e_int (a_cons e_int (a_cons e_int a_nil))))) (a_cons (e_tup (a_cons e_str (a_cons e_int (a_cons e_int (a_cons (e_un un_neg d_neg e_int) a_nil))))) a_nil)))))))) (pg_name (i := 2) nd rfl (by first | exact Or.inl rfl | exact Or.inr rfl)))
    (s_cons (s_own (bb := true) 2 (P := [0]) (by decide) (l_ownAdd 2 (pv 2) (e_ofF (l_lst (a_cons (e_tup (a_cons e_str (a_cons e_int (a_cons e_int (a_cons e_int a_nil))))) (a_cons (e_tup (a_cons e_str (a_cons e_int (a_cons e_int (a_cons e_int a_nil))))) (a_cons (e_tup (a_cons e_str (a_cons e_str (a_cons e_int a_nil)))) (a_cons (e_tup (a_cons e_str (a_cons (e_op op_powW d_pow e_int e_int) (a_cons e_int a_nil)))) a_nil))))))) (pg_name (i := 2) nd rfl (by first | exact Or.inl rfl | exact Or.inr rfl)))
    (s_cons (s_own (bb := true) 2 (P := [0]) (by decide) (l_ownAdd 2 (pv 2) (e_ofF (l_lst (a_cons (e_tup (a_cons e_str (a_cons e_int (a_cons e_int a_nil)))) (a_cons (e_tup (a_cons e_str (a_cons e_int (a_cons e_int a_nil)))) (a_cons (e_tup (a_cons (e_tup (a_cons e_str a_nil)) (a_cons e_int (a_cons e_int a_nil)))) (a_cons (e_tup (a_cons (e_ofF (l_lst (a_cons e_str a_nil))) (a_cons e_int (a_cons e_int a_nil)))) (a_cons (e_tup (a_cons e_dict0 (a_cons e_int (a_cons e_int a_nil)))) a_nil)))))))) (pg_name (i := 2) nd rfl (by first | exact Or.inl rfl | exact Or.inr rfl)))
    (s_cons (s_own (bb := true) 2 (P := [0]) (by decide) (l_ownAdd 2 (pv 2) (e_ofF (l_lst (a_cons (e_tup (a_cons (e_ofF (l_lst (a_cons e_str a_nil))) (a_cons e_int (a_cons e_int (a_cons e_int a_nil))))) (a_cons (e_op op_addD d_add (e_tup (a_cons (e_var 3 (pv 3)) (a_cons (e_ofF (l_lst a_nil)) (a_cons (e_var 5 (pv 5)) a_nil)))) (e_sl (e_var 1 (pv 1)) (o_some e_int) o_none)) (a_cons (e_op op_addD d_add (e_tup (a_cons (e_var 3 (pv 3)) (a_cons (e_var 4 (pv 4)) (a_cons e_dict0 a_nil)))) (e_sl (e_var 1 (pv 1)) (o_some e_int) o_none)) a_nil)))))) (pg_name (i := 2) nd rfl (by first | exact Or.inl rfl | exact Or.inr rfl)))
    (s_cons (s_drop (bb := true) (e_met 2 m_app (pe_bm PySem.F.plainAttrs_list PySem.F.slot_list_append PySem.F.type_list_append mt_append (pv 2) (a_cons (e_tup (a_cons e_str (a_cons e_int (a_cons e_int (a_cons (e_ofF (l_lst a_nil)) a_nil))))) a_nil))))
    (ss_frz 2 (s_one (s_ret (bb := true) (e_ix ix_seqB d_ix (fun _ _ => rfl) (e_var 2 (pv 2)) (e_callM 0 c__law_take.ok (hh.mono (by decide)) (by rfl) c__law_take.gl c__law_take.kp c__law_take.bd (pv 0) (a_cons e_int a_nil)))))))))))))))
abbrev s__law_is_shape : Stmt := topS 14
theorem sc__law_is_shape : FnScope ["_law_thing", "_law_one", "_law_two"] ["_law_thing"] (defScope s__law_is_shape) := ⟨rfl, rfl, rfl, by decide +kernel, rfl, by decide +kernel, by decide +kernel⟩
def f__law_is_shape : FS := (fSeq (fIfS (tdOr (tdNot (fTst (fUn (isiD "tuple") (fVar 0)))) (tdOr (fTst (fBin (inD true) (fCall lenD (fCons (fVar 0) fNil)) (fTup (fCons (ret (.int 3)) (fCons (ret (.int 4)) fNil))))) (tdNot (fTst (fUn (isiD "str") (fBin ixD (fVar 0) (ret (.int 0)))))))) (fRet (ret (.bool false))) fNext)
    (fSeq (fIfS (fTst (fBin (inD true) (fBin ixD (fVar 0) (ret (.int 0))) (fOf (thnE (fCons (ret (.str "band")) (fCons (ret (.str "board")) (fCons (ret (.str "fan")) (fCons (ret (.str "klein")) (fCons (ret (.str "torus")) (fCons (ret (.str "tube")) fNil)))))) fun xs => liftO (if sizeOk xs.length = true then some xs else none))))) (fRet (ret (.bool false))) fNext)
    (fSeq (fIfS (fTst (fBin neD (fBin eqD (fCall lenD (fCons (fVar 0) fNil)) (ret (.int 4))) (fBin eqD (fBin ixD (fVar 0) (ret (.int 0))) (ret (.str "torus"))))) (fRet (ret (.bool false))) fNext)
    (fSeq (fIfS (fTst (fBin neD (fOf (fLc (fItems (fSl (fVar 0) (fPart (ret (.int 1))) (ret none))) (gNm 1) (tdOr (tdNot (fTst (fUn (isiD "int") (fVar 1)))) (fTst (fUn (isiD "bool") (fVar 1)))) (ret (.int 1)) [1])) (fOf (thnE fNil fun xs => liftO (if sizeOk xs.length = true then some xs else none))))) (fRet (ret (.bool false))) fNext)
    (fSeq (fPar 1 2 (fCons (fBin ixD (fVar 0) (ret (.int 1))) (fCons (fBin ixD (fVar 0) (ret (.int 2))) fNil)))
    (fSeq (fIfS (tdOr (fTst (fBin ltD (fVar 1) (ret (.int 1)))) (tdOr (fTst (fBin ltD (fVar 2) (ret (.int 1)))) (fTst (fBin gtI (fBin mulI (fBin mulI (fVar 1) (fVar 2)) (fBin ixD (fOf (thnE (fCons (ret (.int 1)) (fCons (fVar 2) fNil)) fun xs => liftO (if sizeOk xs.length = true then some xs else none))) (fCall intD (fCons (fBin eqD (fBin ixD (fVar 0) (ret (.int 0))) (ret (.str "fan"))) fNil)))) (ret (.int 60)))))) (fRet (ret (.bool false))) fNext)
    (fSeq (fIfS (fTst (fBin eqD (fBin ixD (fVar 0) (ret (.int 0))) (ret (.str "band")))) (fRet (fBin eqD (fBin modD (fVar 1) (ret (.int 2))) (fBin modD (fVar 2) (ret (.int 2))))) fNext)
    (fSeq (fIfS (fTst (fBin (inD false) (fBin ixD (fVar 0) (ret (.int 0))) (fTup (fCons (ret (.str "board")) (fCons (ret (.str "fan")) fNil))))) (fRet (ret (.bool true))) fNext)
    (fSeq (fIfS (tdOr (fTst (fBin eqD (fBin modD (fVar 2) (ret (.int 2))) (ret (.int 1)))) (tdAnd (fTst (fBin eqD (fBin ixD (fVar 0) (ret (.int 0))) (ret (.str "klein")))) (fTst (fBin eqD (fBin modD (fVar 1) (ret (.int 2))) (ret (.int 1)))))) (fRet (ret (.bool false))) fNext)
    (fRet (vOr (fBin eqD (fCall lenD (fCons (fVar 0) fNil)) (ret (.int 3))) (vAnd (fChain leI ltD (ret (.int 0)) (fBin ixD (fVar 0) (ret (.int 3))) (fVar 2)) (fBin eqD (fBin modD (fBin addD (fVar 1) (fBin ixD (fVar 0) (ret (.int 3)))) (ret (.int 2))) (ret (.int 0)))))))))))))))
def g__law_is_shape : List PyData → Option PyData := runP 3 f__law_is_shape
theorem mk__law_is_shape {Pr : Program} {w : World} {K : PySem.W.Frag} {mg : Str → Option Value} {base : Heap} (T : Tops K mg) {f : Addr} {fd : FuncData} (F : Fun K "_law_is_shape" "_law_is_shape" s__law_is_shape f fd) (gl : mg "_law_is_shape" = some (.ref f)) :
    Cal Pr w K mg base 1 "_law_is_shape" ["_law_thing"] (spP K 1 g__law_is_shape) f fd := by
  refine ⟨fn_P F sc__law_is_shape fun cdv A outer s H hh => ?_, gl, F.kp, F.binds (ps := ["_law_thing"]) fun _ _ _ _ _ _ us hl => match us, hl with | [_], _ => rfl⟩
  have nd := sc__law_is_shape.nd
  exact (s_cons (s_if (bb := true) (PW.pt (w_or (t_not (t_val (e_isi (T := "tuple") (by rfl) T.b_isinstance (by decide +kernel) (by rfl) T.b_tuple (by decide +kernel) (e_var 0 (pv 0))))) (w_or (t_cmp op_notIn_seq (d_in true) (by rfl) (e_callB call_lenD2 d_len (by rfl) T.b_len (by decide +kernel) (a_cons (e_var 0 (pv 0)) a_nil)) (e_tup (a_cons e_int (a_cons e_int a_nil)))) (w_or1 (t_not (t_val (e_isi (T := "str") (by rfl) T.b_isinstance (by decide +kernel) (by rfl) T.b_str (by decide +kernel) (e_ix ix_seqB d_ix (fun _ _ => rfl) (e_var 0 (pv 0)) e_int)))))))) (s_one (s_ret (bb := true) e_bl)) s_nil)
    (s_cons (s_if (bb := true) (t_cmp op_notIn_seq (d_in true) (by rfl) (e_ix ix_seqB d_ix (fun _ _ => rfl) (e_var 0 (pv 0)) e_int) (e_ofF (l_lst (a_cons e_str (a_cons e_str (a_cons e_str (a_cons e_str (a_cons e_str (a_cons e_str a_nil))))))))) (s_one (s_ret (bb := true) e_bl)) s_nil)
    (s_cons (s_if (bb := true) (t_cmp (op_ne2 hh.u) d_ne (nomark _) (e_cmp (op_eq2 hh.u) d_eq (nomark _) (e_callB call_lenD2 d_len (by rfl) T.b_len (by decide +kernel) (a_cons (e_var 0 (pv 0)) a_nil)) e_int) (e_cmp (op_eq2 hh.u) d_eq (nomark _) (e_ix ix_seqB d_ix (fun _ _ => rfl) (e_var 0 (pv 0)) e_int) e_str)) (s_one (s_ret (bb := true) e_bl)) s_nil)
    (s_cons (s_if (bb := true) (t_cmp (op_ne2 hh.u) d_ne (nomark _) (e_ofF (l_lc (own := [("_law_one", 1)]) 3 hh.c nd (i_seq (e_sl (e_var 0 (pv 0)) (o_some e_int) o_none)) (blkOk_by (by first | rfl | kernel_rfl)) (fun _ _ _ _ _ => (g_nm (P := compl 3 [1]) (by decide) (pg_name (i := 1) nd rfl (by first | exact Or.inl rfl | exact Or.inr rfl)))) (fun _ _ _ _ _ => (ts_one (PW.pt (w_or (t_not (t_val (e_isi (T := "int") (by rfl) T.b_isinstance (by decide +kernel) (by rfl) T.b_int (by decide +kernel) (e_var 1 (pv 1))))) (w_or1 (t_val (e_isi (T := "bool") (by rfl) T.b_isinstance (by decide +kernel) (by rfl) T.b_bool (by decide +kernel) (e_var 1 (pv 1))))))))) (fun _ _ _ _ _ => e_int))) (e_ofF (l_lst a_nil))) (s_one (s_ret (bb := true) e_bl)) s_nil)
    (s_cons (s_par (bb := true) (i := 1) (j := 2) (P := []) (by decide) (by decide) hh.c nd rfl rfl (by decide) rfl rfl (a_cons (e_ix ix_seqB d_ix (fun _ _ => rfl) (e_var 0 (pv 0)) e_int) (a_cons (e_ix ix_seqB d_ix (fun _ _ => rfl) (e_var 0 (pv 0)) e_int) a_nil)))
    (s_cons (s_if (bb := true) (PW.pt (w_or (t_cmp (op_ltD hh.u0) d_lt (nomark _) (e_var 1 (pv 1)) e_int) (w_or (t_cmp (op_ltD hh.u0) d_lt (nomark _) (e_var 2 (pv 2)) e_int) (w_or1 (t_cmp op_gtI d_gtI (nomark _) (e_op op_mulW d_mulI (e_op op_mulW d_mulI (e_var 1 (pv 1)) (e_var 2 (pv 2))) (e_ix ix_seqB d_ix (fun _ _ => rfl) (e_ofF (l_lst (a_cons e_int (a_cons (e_var 2 (pv 2)) a_nil)))) (e_callTy call_int1 d_int (by rfl) T.b_int (by decide +kernel) (a_cons (e_cmp (op_eq2 hh.u) d_eq (nomark _) (e_ix ix_seqB d_ix (fun _ _ => rfl) (e_var 0 (pv 0)) e_int) e_str) a_nil)))) e_int))))) (s_one (s_ret (bb := true) e_bl)) s_nil)
    (s_cons (s_if (bb := true) (t_cmp (op_eq2 hh.u) d_eq (nomark _) (e_ix ix_seqB d_ix (fun _ _ => rfl) (e_var 0 (pv 0)) e_int) e_str) (s_one (s_ret (bb := true) (e_cmp (op_eq2 hh.u) d_eq (nomark _) (e_op op_mod d_mod (e_var 1 (pv 1)) e_int) (e_op op_mod d_mod (e_var 2 (pv 2)) e_int)))) s_nil)
    (s_cons (s_if (bb := true) (t_cmp op_in_seq (d_in false) (by rfl) (e_ix ix_seqB d_ix (fun _ _ => rfl) (e_var 0 (pv 0)) e_int) (e_tup (a_cons e_str (a_cons e_str a_nil)))) (s_one (s_ret (bb := true) e_bl)) s_nil)
    (s_cons (s_if (bb := true) (PW.pt (w_or (t_cmp (op_eq2 hh.u) d_eq (nomark _) (e_op op_mod d_mod (e_var 2 (pv 2)) e_int) e_int) (w_or1 (PW.pt (w_and (t_cmp (op_eq2 hh.u) d_eq (nomark _) (e_ix ix_seqB d_ix (fun _ _ => rfl) (e_var 0 (pv 0)) e_int) e_str) (w_and1 (t_cmp (op_eq2 hh.u) d_eq (nomark _) (e_op op_mod d_mod (e_var 1 (pv 1)) e_int) e_int))))))) (s_one (s_ret (bb := true) e_bl)) s_nil)
    (s_one (s_ret (bb := true) (e_or (e_cmp (op_eq2 hh.u) d_eq (nomark _) (e_callB call_lenD2 d_len (by rfl) T.b_len (by decide +kernel) (a_cons (e_var 0 (pv 0)) a_nil)) e_int) (e_one (e_and (e_chain op_leI (op_ltD hh.u0) d_leI d_lt e_int (e_ix ix_seqB d_ix (fun _ _ => rfl) (e_var 0 (pv 0)) e_int) (e_var 2 (pv 2))) (e_one (e_cmp (op_eq2 hh.u) d_eq (nomark _) (e_op op_mod d_mod (e_op op_addD d_add (e_var 1 (pv 1)) (e_ix ix_seqB d_ix (fun _ _ => rfl) (e_var 0 (pv 0)) e_int)) e_int) e_int))))))))))))))))
abbrev s_law : Stmt := topS 18
theorem sc_law : FnScope ["_law_script", "_law_k", "_law_pot_here", "_law_shape_here", "_law_turn", "_law_thing", "_law_held", "_law_due"] ["_law_script"] (defScope s_law) := ⟨rfl, rfl, rfl, by decide +kernel, rfl, by decide +kernel, by decide +kernel⟩
def b1_law : FS := (fSeq (fAsg (fCallM 1 g__law_bent 2 (fCons (fVar 3) fNil)) (gNm 5))
    (fSeq (fAsg (fCall reprD (fCons (fVar 5) fNil)) (gNm 6))
    (fSeq (fAsg (fCall reprD (fCons (fOf (fOpN repN (fOf (thnE (fCons (fCall (lenIs 1 g__law_is_shape) (fCons (fVar 5) fNil)) fNil) fun xs => liftO (if sizeOk xs.length = true then some xs else none))) (ret (.int 2)))) fNil)) (gNm 7))
    (fIfS (tdOr (fTst (fBin neD (fCall reprD (fCons (fOf (thnE (fCons (fCall (lenIs 1 g_is_shape) (fCons (fVar 5) fNil)) (fCons (fCall (lenIs 1 g_is_shape) (fCons (fVar 5) fNil)) fNil)) fun xs => liftO (if sizeOk xs.length = true then some xs else none))) fNil)) (fVar 7))) (fTst (fBin neD (fCall reprD (fCons (fVar 5) fNil)) (fVar 6)))) (fRet (ret (.bool false))) fNext))))
def b2_law : FS := (fSeq (fOwn (fCallF 2 g__law_pot (fCons (fVar 0) (fCons (fVar 1) fNil))) 2)
    (fSeq (fAsg (fCallM 1 g__law_shape 2 (fCons (fBin ixD (fOf (thnE (fCons (ret (.int 9)) (fCons (ret (.int 24)) (fCons (ret (.int 60)) fNil))) fun xs => liftO (if sizeOk xs.length = true then some xs else none))) (fCallM 1 g__law_take 2 (fCons (ret (.int 3)) fNil))) fNil)) (gNm 3))
    (fSeq (fIfS (tdOr (fTst (fBin notB (fCall (lenIs 1 g_is_shape) (fCons (fVar 3) fNil)) (ret (.bool true)))) (fTst (fBin notB (fCall (lenIs 1 g_is_shape) (fCons (fCallM 1 g__law_no_shape 2 (fCons (fVar 3) fNil)) fNil)) (ret (.bool false))))) (fRet (ret (.bool false))) fNext)
    (fFor (fRng rng1 (fCons (ret (.int 6)) fNil)) (gNm 4) b1_law))))
def f_law : FS := (fSeq (fFor (fRng rng1 (fCons (fCall maxD (fCons (ret (.int 1)) (fCons (fCall minD (fCons (ret (.int 24)) (fCons (fCall lenD (fCons (fVar 0) fNil)) fNil))) fNil))) fNil)) (gNm 1) b2_law)
    (fRet (fBin eqD (fCall reprD (fCons (ret (.tuple [(.str "band"), (.str "board"), (.str "fan"), (.str "klein"), (.str "torus"), (.str "tube")])) fNil)) (fCall reprD (fCons (fTup (fCons (ret (.str "band")) (fCons (ret (.str "board")) (fCons (ret (.str "fan")) (fCons (ret (.str "klein")) (fCons (ret (.str "torus")) (fCons (ret (.str "tube")) fNil))))))) fNil)))))
def g_law : List PyData → Option PyData := runP 8 f_law
theorem mk_law {Pr : Program} {w : World} {K : PySem.W.Frag} {mg : Str → Option Value} {base : Heap} (T : Tops K mg) {a__law_pot : Addr} {d__law_pot : FuncData} (c__law_pot : Cal Pr w K mg base 1 "_law_pot" ["_law_script", "_law_k"] (spF K 2 g__law_pot) a__law_pot d__law_pot) {a__law_shape : Addr} {d__law_shape : FuncData} (c__law_shape : Cal Pr w K mg base 2 "_law_shape" ["_law_pot_here", "_law_top"] (spM K 1 g__law_shape) a__law_shape d__law_shape) {a__law_bent : Addr} {d__law_bent : FuncData} (c__law_bent : Cal Pr w K mg base 2 "_law_bent" ["_law_pot_here", "_law_shape_here"] (spM K 1 g__law_bent) a__law_bent d__law_bent) {a__law_take : Addr} {d__law_take : FuncData} (c__law_take : Cal Pr w K mg base 1 "_law_take" ["_law_pot_here", "_law_many"] (spM K 1 g__law_take) a__law_take d__law_take) {a_is_shape : Addr} {d_is_shape : FuncData} (c_is_shape : Cal Pr w K mg base 2 "is_shape" ["thing"] (spP K 1 g_is_shape) a_is_shape d_is_shape) {a__law_no_shape : Addr} {d__law_no_shape : FuncData} (c__law_no_shape : Cal Pr w K mg base 2 "_law_no_shape" ["_law_pot_here", "_law_shape_here"] (spM K 1 g__law_no_shape) a__law_no_shape d__law_no_shape) {a__law_is_shape : Addr} {d__law_is_shape : FuncData} (c__law_is_shape : Cal Pr w K mg base 1 "_law_is_shape" ["_law_thing"] (spP K 1 g__law_is_shape) a__law_is_shape d__law_is_shape) {f : Addr} {fd : FuncData} (F : Fun K "law" "law" s_law f fd) (gl : mg "law" = some (.ref f)) :
    Cal Pr w K mg base 3 "law" ["_law_script"] (spP K 1 g_law) f fd := by
  refine ⟨fn_P F sc_law fun cdv A outer s H hh => ?_, gl, F.kp, F.binds (ps := ["_law_script"]) fun _ _ _ _ _ _ us hl => match us, hl with | [_], _ => rfl⟩
  have nd := sc_law.nd
  exact (s_cons (s_for (bb := true) PassesOwn.never hh.c (i_rng1 (by rfl) T.b_range (a_cons (e_callB (call_max2 hh.c) d_max (by rfl) T.b_max (by decide +kernel) (a_cons e_int (a_cons (e_callB (call_min2 hh.c) d_min (by rfl) T.b_min (by decide +kernel) (a_cons e_int (a_cons (e_callB call_lenD2 d_len (by rfl) T.b_len (by decide +kernel) (a_cons (e_var 0 (pv 0)) a_nil)) a_nil))) a_nil))) a_nil)) (g_nm (P := []) (by decide) (pg_name (i := 1) nd rfl (by first | exact Or.inl rfl | exact Or.inr rfl))) (s_cons (s_own (bb := true) 2 (P := []) (by decide) (l_callF c__law_pot.ok (hh.mono (by decide)) (by rfl) c__law_pot.gl c__law_pot.kp c__law_pot.bd (a_cons (e_var 0 (pv 0)) (a_cons (e_var 1 (pv 1)) a_nil))) (pg_name (i := 2) nd rfl (by first | exact Or.inl rfl | exact Or.inr rfl)))
    (s_cons (s_asg (bb := true) (e_callM 2 c__law_shape.ok (hh.mono (by decide)) (by rfl) c__law_shape.gl c__law_shape.kp c__law_shape.bd (pv 2) (a_cons (e_ix ix_seqB d_ix (fun _ _ => rfl) (e_ofF (l_lst (a_cons e_int (a_cons e_int (a_cons e_int a_nil))))) (e_callM 2 c__law_take.ok (hh.mono (by decide)) (by rfl) c__law_take.gl c__law_take.kp c__law_take.bd (pv 2) (a_cons e_int a_nil))) a_nil)) (g_nm (P := []) (by decide) (pg_name (i := 3) nd rfl (by first | exact Or.inl rfl | exact Or.inr rfl))))
    (s_cons (s_if (bb := true) (PW.pt (w_or (t_cmp op_notBl d_notB (nomark _) (e_callP c_is_shape.ok (hh.mono (by decide)) (by rfl) c_is_shape.gl c_is_shape.kp c_is_shape.bd (a_cons (e_var 3 (pv 3)) a_nil)) e_bl) (w_or1 (t_cmp op_notBl d_notB (nomark _) (e_callP c_is_shape.ok (hh.mono (by decide)) (by rfl) c_is_shape.gl c_is_shape.kp c_is_shape.bd (a_cons (e_callM 2 c__law_no_shape.ok (hh.mono (by decide)) (by rfl) c__law_no_shape.gl c__law_no_shape.kp c__law_no_shape.bd (pv 2) (a_cons (e_var 3 (pv 3)) a_nil)) a_nil)) e_bl)))) (s_one (s_ret (bb := true) e_bl)) s_nil)
    (s_one (s_for (bb := true) PassesOwn.never hh.c (i_rng1 (by rfl) T.b_range (a_cons e_int a_nil)) (g_nm (P := []) (by decide) (pg_name (i := 4) nd rfl (by first | exact Or.inl rfl | exact Or.inr rfl))) (s_cons (s_asg (bb := true) (e_callM 2 c__law_bent.ok (hh.mono (by decide)) (by rfl) c__law_bent.gl c__law_bent.kp c__law_bent.bd (pv 2) (a_cons (e_var 3 (pv 3)) a_nil)) (g_nm (P := []) (by decide) (pg_name (i := 5) nd rfl (by first | exact Or.inl rfl | exact Or.inr rfl))))
    (s_cons (s_asg (bb := true) (e_callB (call_reprD hh.g hh.u) d_repr (by rfl) T.b_repr (by decide +kernel) (a_cons (e_var 5 (pv 5)) a_nil)) (g_nm (P := []) (by decide) (pg_name (i := 6) nd rfl (by first | exact Or.inl rfl | exact Or.inr rfl))))
    (s_cons (s_asg (bb := true) (e_callB (call_reprD hh.g hh.u) d_repr (by rfl) T.b_repr (by decide +kernel) (a_cons (e_ofF (l_op op_repR n_rep (e_ofF (l_lst (a_cons (e_callP c__law_is_shape.ok (hh.mono (by decide)) (by rfl) c__law_is_shape.gl c__law_is_shape.kp c__law_is_shape.bd (a_cons (e_var 5 (pv 5)) a_nil)) a_nil))) e_int)) a_nil)) (g_nm (P := []) (by decide) (pg_name (i := 7) nd rfl (by first | exact Or.inl rfl | exact Or.inr rfl))))
    (s_one (s_if (bb := true) (PW.pt (w_or (t_cmp (op_ne2 hh.u) d_ne (nomark _) (e_callB (call_reprD hh.g hh.u) d_repr (by rfl) T.b_repr (by decide +kernel) (a_cons (e_ofF (l_lst (a_cons (e_callP c_is_shape.ok (hh.mono (by decide)) (by rfl) c_is_shape.gl c_is_shape.kp c_is_shape.bd (a_cons (e_var 5 (pv 5)) a_nil)) (a_cons (e_callP c_is_shape.ok (hh.mono (by decide)) (by rfl) c_is_shape.gl c_is_shape.kp c_is_shape.bd (a_cons (e_var 5 (pv 5)) a_nil)) a_nil)))) a_nil)) (e_var 7 (pv 7))) (w_or1 (t_cmp (op_ne2 hh.u) d_ne (nomark _) (e_callB (call_reprD hh.g hh.u) d_repr (by rfl) T.b_repr (by decide +kernel) (a_cons (e_var 5 (pv 5)) a_nil)) (e_var 6 (pv 6)))))) (s_one (s_ret (bb := true) e_bl)) s_nil)))))))))))
    (s_one (s_ret (bb := true) (e_cmp (op_eq2 hh.u) d_eq (nomark _) (e_callB (call_reprD hh.g hh.u) d_repr (by rfl) T.b_repr (by decide +kernel) (a_cons (e_globT (by rfl) T.c_SHAPES) a_nil)) (e_callB (call_reprD hh.g hh.u) d_repr (by rfl) T.b_repr (by decide +kernel) (a_cons (e_tup (a_cons e_str (a_cons e_str (a_cons e_str (a_cons e_str (a_cons e_str (a_cons e_str a_nil))))))) a_nil))))))
end Lw

set_option Elab.async false
set_option linter.all false
set_option maxRecDepth 100000
set_option maxHeartbeats 4000000
namespace Lw
open PySem PySem.Spec PyProof.Rows L2 Tw
theorem take_a {a b c n : Int} (ha : 0 < a) (hn : 0 < n) (hn2 : n < 2 ^ 60) : g__law_take [.int a, .int b, .int c] [.int n] = some (.int (a % n), [.int (a / n), .int b, .int c]) := by
  have t : decide (0 < a) = true := decide_eq_true ha
  have h1 := mod_ok (i := a) hn
  have h2 := fdiv_ok (i := a) 60 hn (by decide) hn2 (by decide)
  unfold g__law_take runM f__law_take
  simp -implicitDefEqProofs only [rvs, eq_self, gNm, and_self, owk, List.getElem?_cons_zero, List.getElem?_cons_succ, List.length_cons, List.length_nil, List.set_cons_zero, List.set_cons_succ, List.map_cons, List.map_nil, List.cons_append, List.nil_append, List.replicate_succ, List.replicate_zero, Nat.reduceAdd, Nat.reduceSub, Nat.reduceLT, Nat.reduceEqDiff, Option.bind_some, Option.bind_none, Option.map_some, Option.map_none, if_true, if_false, ite_true, ite_false, ↓reduceIte, Bool.not_true, Bool.not_false, t, h1, h2]
theorem take_b {a b c n : Int} (ha : ¬ 0 < a) (hb : 0 ≤ b) (hb2 : b < 2 ^ 62) (hc : 0 ≤ c) (hc2 : c < 2 ^ 100) (hn : 0 < n) : ∃ r, g__law_take [.int a, .int b, .int c] [.int n] = some (.int r, [.int a, .int b, .int (c + 1)]) ∧ 0 ≤ r ∧ r < n := by
  have t : decide (0 < a) = false := decide_eq_false ha
  have m1 := mul_ok (i := 86028157) (j := c + 1) 27 101 (by decide) (by decide) (by decide) (by decide) (by omega) (by omega) (by decide)
  have m2 := mul_ok (i := 31) (j := c + 1) 5 101 (by decide) (by decide) (by decide) (by decide) (by omega) (by omega) (by decide)
  have p1 := pow_ok (i := b + 86028157 * (c + 1)) (j := 3) 130 (by omega) (by omega) (by decide) (by decide)
  generalize e1 : (b + 86028157 * (c + 1)) ^ (3 : Int).toNat = X1 at p1
  have q1 := mod_ok (i := X1) (j := 2305843009213693907) (by decide)
  have l1 := Int.emod_nonneg X1 (b := 2305843009213693907) (by decide)
  have l2 := Int.emod_lt_of_pos X1 (b := 2305843009213693907) (by decide)
  generalize X1 % 2305843009213693907 = X2 at q1 l1 l2
  have q2 := mod_ok (i := b) (j := 1000003) (by decide)
  have l3 := Int.emod_nonneg b (b := 1000003) (by decide)
  have l4 := Int.emod_lt_of_pos b (b := 1000003) (by decide)
  generalize b % 1000003 = X3 at q2 l3 l4
  have p2 := pow_ok (i := X2 + X3 + 31 * (c + 1)) (j := 5) 130 (by omega) (by omega) (by decide) (by decide)
  generalize e2 : (X2 + X3 + 31 * (c + 1)) ^ (5 : Int).toNat = X4 at p2
  have q3 := mod_ok (i := X4) (j := 2305843009213693921) (by decide)
  generalize X4 % 2305843009213693921 = X5 at q3
  have q4 := fdiv_ok (i := X5) (j := 4096) 13 (by decide) (by decide) (by decide) (by decide)
  have q5 := mod_ok (i := X5 / 4096) hn
  refine ⟨X5 / 4096 % n, ?_, Int.emod_nonneg _ (by omega), Int.emod_lt_of_pos _ hn⟩
  unfold g__law_take runM f__law_take
  simp -implicitDefEqProofs only [rvs, eq_self, gNm, and_self, owk, List.getElem?_cons_zero, List.getElem?_cons_succ, List.length_cons, List.length_nil, List.set_cons_zero, List.set_cons_succ, List.map_cons, List.map_nil, List.cons_append, List.nil_append, List.replicate_succ, List.replicate_zero, Nat.reduceAdd, Nat.reduceSub, Nat.reduceLT, Nat.reduceEqDiff, Option.bind_some, Option.bind_none, Option.map_some, Option.map_none, if_true, if_false, ite_true, ite_false, ↓reduceIte, Bool.not_true, Bool.not_false, t, m1, m2, p1, q1, q2, p2, q3, q4, q5]
/-- a pot of draws: how often it has been drawn from is at most n -/
structure Pot (n : Nat) (ms : List PyData) : Prop where
  ex : ∃ a b c : Int, ms = [.int a, .int b, .int c] ∧ 0 ≤ b ∧ b < 2 ^ 62 ∧ 0 ≤ c ∧ c ≤ n
theorem Pot.wide {n m : Nat} {ms : List PyData} (P : Pot n ms) (h : n ≤ m) : Pot m ms := by
  obtain ⟨a, b, c, e, h1, h2, h3, h4⟩ := P.ex
  exact ⟨a, b, c, e, h1, h2, h3, by omega⟩
theorem take_ok {k : Nat} {ms : List PyData} {n : Int} (P : Pot k ms) (hk : k < 2 ^ 90) (hn : 0 < n) (hn2 : n < 2 ^ 60) : ∃ r ms', g__law_take ms [.int n] = some (.int r, ms') ∧ 0 ≤ r ∧ r < n ∧ Pot (k + 1) ms' := by
  obtain ⟨a, b, c, rfl, h1, h2, h3, h4⟩ := P.ex
  by_cases ha : 0 < a
  · exact ⟨_, _, take_a ha hn hn2, Int.emod_nonneg _ (by omega), Int.emod_lt_of_pos _ hn, ⟨_, _, _, rfl, h1, h2, h3, by omega⟩⟩
  · obtain ⟨r, e, r1, r2⟩ := take_b ha h1 h2 h3 (by omega) hn
    exact ⟨r, _, e, r1, r2, ⟨_, _, _, rfl, h1, h2, by omega, by omega⟩⟩
theorem pot_ok {ns : List Int} {k : Nat} (hk : k < 2 ^ 60) : ∃ ms, g__law_pot [.list (ns.map .int), .int k] = some ms ∧ Pot 0 ms := by
  have e10 : powD (.int 10) (.int 60) = some (.int (10 ^ 60)) := pow_ok 4 (by decide) (by decide) (by decide) (by decide)
  have e14 : powD (.int (10 ^ 60)) (.int 14) = some (.int ((10 ^ 60) ^ 14)) := pow_ok 200 (by decide) (by decide) (by decide) (by decide)
  have e18 : powD (.int 10) (.int 18) = some (.int (10 ^ 18)) := pow_ok 4 (by decide) (by decide) (by decide) (by decide)
  have m1 := mul_ok (i := 104729) (j := (k : Int)) 17 61 (by decide) (by decide) (by decide) (by decide) (by omega) (by omega) (by decide)
  have rest : ∀ z : Int, ∃ z1 X1 b : Int, modD (.int z) (.int 2305843009213693921) = some (.int z1) ∧ powD (.int (z1 + 104729 * (k : Int) + 1)) (.int 3) = some (.int X1) ∧ modD (.int X1) (.int 2305843009213693951) = some (.int b) ∧ 0 ≤ b ∧ b < 2 ^ 62 := by
    intro z
    have m0 := mod_ok (i := z) (j := 2305843009213693921) (by decide)
    have l1 := Int.emod_nonneg z (b := 2305843009213693921) (by decide)
    have l2 := Int.emod_lt_of_pos z (b := 2305843009213693921) (by decide)
    generalize z % 2305843009213693921 = z1 at m0 l1 l2
    have p1 := pow_ok (i := z1 + 104729 * (k : Int) + 1) (j := 3) 100 (by omega) (by omega) (by decide) (by decide)
    generalize (z1 + 104729 * (k : Int) + 1) ^ (3 : Int).toNat = X1 at p1
    have q1 := mod_ok (i := X1) (j := 2305843009213693951) (by decide)
    have l3 := Int.emod_nonneg X1 (b := 2305843009213693951) (by decide)
    have l4 := Int.emod_lt_of_pos X1 (b := 2305843009213693951) (by decide)
    exact ⟨z1, X1, _, m0, p1, q1, l3, by omega⟩
  have big : ((10 : Int) ^ 60) ^ 14 < 2 ^ 3000 := by decide +kernel
  have m2 : ∀ (z : Int) (b : Bool), 0 ≤ z → z < (10 ^ 60) ^ 14 → mulI (.int z) (.int (if b = true then 1 else 0)) = some (.int (z * (if b = true then 1 else 0))) := fun z b h0 hz => mul_ok 3000 1 (by decide) (by decide) h0 (Int.lt_trans hz big) (by cases b <;> decide) (by cases b <;> decide) (by decide)
  have sz : Tw.sizeOk 3 = true := rfl
  unfold g__law_pot runF f__law_pot
  by_cases hlt : k < ns.length
  · have t : decide ((k : Int) < ((ns.map PyData.int).length : Int)) = true := decide_eq_true (by rw [List.length_map]; omega)
    have ix : ixD (.list (ns.map .int)) (.int (k : Int)) = some (.int ns[k]) := ixLn (by rw [List.getElem?_map, List.getElem?_eq_getElem hlt]; rfl)
    have m := mod_ok (i := if ns[k] < 0 then -ns[k] else ns[k]) (j := (10 ^ 60) ^ 14) (by decide)
    have z0 := Int.emod_nonneg (if ns[k] < 0 then -ns[k] else ns[k]) (b := (10 ^ 60) ^ 14) (by decide)
    have z1 := Int.emod_lt_of_pos (if ns[k] < 0 then -ns[k] else ns[k]) (b := (10 ^ 60) ^ 14) (by decide)
    generalize (if ns[k] < 0 then -ns[k] else ns[k]) % ((10 ^ 60) ^ 14) = z at m z0 z1
    obtain ⟨z1', X1, b, q1, q2, q3, b1, b2⟩ := rest z
    have m3 := m2 z (decide ((10 : Int) ^ 18 ≤ z)) z0 z1
    refine ⟨[.int (z * (if decide ((10 : Int) ^ 18 ≤ z) = true then 1 else 0)), .int b, .int 0], ?_, ⟨_, b, 0, rfl, b1, b2, by omega, by omega⟩⟩
    simp -implicitDefEqProofs only [rvs, eq_self, gNm, and_self, owk, List.getElem?_cons_zero, List.getElem?_cons_succ, List.length_cons, List.length_nil, List.set_cons_zero, List.set_cons_succ, List.map_cons, List.map_nil, List.cons_append, List.nil_append, List.replicate_succ, List.replicate_zero, Nat.reduceAdd, Nat.reduceSub, Nat.reduceLT, Nat.reduceEqDiff, Option.bind_some, Option.bind_none, Option.map_some, Option.map_none, if_true, if_false, ite_true, ite_false, ↓reduceIte, Bool.not_true, Bool.not_false, t, ix, e10, e14, m, q1, m1, q2, q3, e18, m3, sz]
  · have t : decide ((k : Int) < ((ns.map PyData.int).length : Int)) = false := decide_eq_false (by rw [List.length_map]; omega)
    obtain ⟨z1', X1, b, q1, q2, q3, b1, b2⟩ := rest 0
    have m3 := m2 0 (decide ((10 : Int) ^ 18 ≤ 0)) (by decide) (by decide)
    refine ⟨[.int (0 * (if decide ((10 : Int) ^ 18 ≤ 0) = true then 1 else 0)), .int b, .int 0], ?_, ⟨_, b, 0, rfl, b1, b2, by omega, by omega⟩⟩
    simp -implicitDefEqProofs only [rvs, eq_self, gNm, and_self, owk, List.getElem?_cons_zero, List.getElem?_cons_succ, List.length_cons, List.length_nil, List.set_cons_zero, List.set_cons_succ, List.map_cons, List.map_nil, List.cons_append, List.nil_append, List.replicate_succ, List.replicate_zero, Nat.reduceAdd, Nat.reduceSub, Nat.reduceLT, Nat.reduceEqDiff, Option.bind_some, Option.bind_none, Option.map_some, Option.map_none, if_true, if_false, ite_true, ite_false, ↓reduceIte, Bool.not_true, Bool.not_false, t, q1, m1, q2, q3, e18, m3, sz]
end Lw

set_option Elab.async false
set_option linter.all false
set_option maxRecDepth 100000
set_option maxHeartbeats 4000000
namespace Lw
open PySem PySem.Spec PyProof.Rows L2 Tw
/-! ### what is used of rows, lists, texts (from the shared texts, for laws without webs) -/
def intsD (L : List Int) : List PyData := L.map PyData.int
theorem intsD_len (L : List Int) : (intsD L).length = L.length := List.length_map _
theorem app_ok {L : List PyData} {d : PyData} (hz : L.length < 100000) : appG L [d] = some (.none, L ++ [d]) := if_pos hz
theorem ext_ok {ms es : List PyData} (h : ms.length + es.length ≤ 100000) : extG ms [.list es] = some (.none, ms ++ es) := if_pos (decide_eq_true h)
theorem rng_ok {n : Nat} (h : n < 2 ^ 60) : rng1 [.int (n : Int)] = some (ups 0 n) := by
  unfold rng1
  dsimp only
  rw [if_pos (by omega)]
  rfl
theorem ups_eq (n : Nat) : ups 0 n = (List.range n).map fun i => .int (i : Int) := by
  unfold ups
  refine List.map_congr_left fun i _ => ?_
  rw [Int.zero_add]
theorem eqI2 (i j : Int) : eqD (.int i) (.int j) = some (.bool (i == j)) := rfl
theorem lc_no {ft : FG} {tt : FE Bool} {fe : FE PyData} {vs : List Nat} {d : PyData} {ds : List PyData} {ρ ρ1 ρ2 : Rho} {z : Option (List PyData × Rho)} (h1 : ft d ρ = some ρ1) (h2 : tt ρ1 = some (false, ρ2)) (h4 : lcF ft tt fe vs ds (wipeR ρ2 vs) = z) : lcF ft tt fe vs (d :: ds) ρ = z := by
  unfold lcF
  rw [h1, Option.bind_some, h2, Option.bind_some]
  dsimp only
  rw [if_neg (by decide), h4]
theorem lc_yes {ft : FG} {tt : FE Bool} {fe : FE PyData} {vs : List Nat} {d e : PyData} {ds z : List PyData} {ρ ρ1 ρ2 ρ3 ρ4 : Rho} (h1 : ft d ρ = some ρ1) (h2 : tt ρ1 = some (true, ρ2)) (h3 : fe ρ2 = some (e, ρ3)) (h4 : lcF ft tt fe vs ds (wipeR ρ3 vs) = some (z, ρ4)) : lcF ft tt fe vs (d :: ds) ρ = some (e :: z, ρ4) := by
  unfold lcF
  rw [h1, Option.bind_some, h2, Option.bind_some]
  dsimp only
  rw [if_pos rfl, h3, Option.bind_some]
  dsimp only
  rw [h4]
  rfl
theorem lc_list {α : Type} {ft : FG} {tt : FE Bool} {fe : FE PyData} {vs : List Nat} {r0 : Rho} (e : α → PyData) (r1 : α → Rho) (P : α → Bool) (f : α → PyData) : ∀ (L : List α), (∀ x ∈ L, ft (e x) r0 = some (r1 x)) → (∀ x ∈ L, tt (r1 x) = some (P x, r1 x)) → (∀ x ∈ L, P x = true → fe (r1 x) = some (f x, r1 x)) → (∀ x ∈ L, wipeR (r1 x) vs = r0) →
    lcF ft tt fe vs (L.map e) r0 = some ((L.filter P).map f, r0)
  | [], _, _, _, _ => rfl
  | x :: L, h1, h2, h3, h4 => by
    have m := List.mem_cons_self (a := x) (l := L)
    have ih := lc_list e r1 P f L (fun y hy => h1 y (List.mem_cons_of_mem _ hy)) (fun y hy => h2 y (List.mem_cons_of_mem _ hy)) (fun y hy => h3 y (List.mem_cons_of_mem _ hy)) fun y hy => h4 y (List.mem_cons_of_mem _ hy)
    show (ft (e x) r0).bind _ = _
    rw [h1 x m]
    show (tt (r1 x)).bind _ = _
    rw [h2 x m]
    cases c : P x with
    | false =>
      rw [List.filter_cons_of_neg (by rw [c]; decide), ← ih]
      show lcF ft tt fe vs (L.map e) (wipeR (r1 x) vs) = _
      rw [h4 x m]
    | true =>
      rw [List.filter_cons_of_pos c, List.map_cons]
      show (fe (r1 x)).bind _ = _
      rw [h3 x m c]
      show (lcF ft tt fe vs (L.map e) (wipeR (r1 x) vs)).map _ = _
      rw [h4 x m, ih]
      rfl
theorem lc_all {α : Type} {ft : FG} {fe : FE PyData} {vs : List Nat} {r0 : Rho} (e : α → PyData) (r1 : α → Rho) (f : α → PyData) (L : List α) (h1 : ∀ x ∈ L, ft (e x) r0 = some (r1 x)) (h3 : ∀ x ∈ L, fe (r1 x) = some (f x, r1 x)) (h4 : ∀ x ∈ L, wipeR (r1 x) vs = r0) :
    lcF ft (Tw.ret true) fe vs (L.map e) r0 = some (L.map f, r0) := by
  have h := lc_list (tt := Tw.ret true) e r1 (fun _ => true) f L h1 (fun _ _ => rfl) (fun x hx _ => h3 x hx) h4
  rw [List.filter_eq_self.mpr fun _ _ => rfl] at h
  exact h
theorem sz_of_len {n : Nat} (h : n ≤ 90000) : Tw.sizeOk n = true := decide_eq_true (by omega)
theorem tupL (ds : List PyData) : tupleD [.list ds] = some (.tuple ds) := rfl
theorem pick {L : List PyData} {r : Int} (h0 : 0 ≤ r) (h1 : r < (L.length : Int)) : ∃ d, ixD (.list L) (.int r) = some d ∧ d ∈ L := by
  obtain ⟨j, rfl⟩ : ∃ j : Nat, r = (j : Int) := ⟨r.toNat, by omega⟩
  have hj : j < L.length := by omega
  exact ⟨L[j], ixLn (List.getElem?_eq_getElem hj), List.getElem_mem hj⟩
theorem addT_all {a b : List PyData} (h : a.length + b.length ≤ 100000) : addD (.tuple a) (.tuple b) = some (.tuple (a ++ b)) := if_pos (decide_eq_true h)
theorem cut_len (ds : List PyData) (lo hi : Option Int) : (Tw.cutD ds lo hi).length ≤ ds.length := by
  unfold Tw.cutD
  rw [List.length_take, List.length_drop]
  omega
theorem slT_ok {ds : List PyData} {lo hi : Option Int} : slD (.tuple ds) lo hi = some (.tuple (Tw.cutD ds lo hi)) := rfl
theorem repr_ok {d : PyData} (h : shownOk d = true) : reprD [d] = some (.str d.shown) := if_pos h
theorem many_fn {l c : Bool} {i : Int} (h : -10 ≤ i ∧ i < 1000) : Fn l c 20 0 (.int i) := .sint (Nat.lt_of_lt_of_le (m := 1000) (by omega) (by decide)) (Nat.le_refl _)
end Lw

set_option Elab.async false
set_option linter.all false
set_option maxRecDepth 100000
set_option maxHeartbeats 8000000
namespace Lw
open PySem PySem.Spec PyProof.Rows L2 Tw
/-! ### what is a shape -/
def wordsL : List Str := ["band", "board", "fan", "klein", "torus", "tube"]
abbrev shapesT : PyData := .tuple [.str "band", .str "board", .str "fan", .str "klein", .str "torus", .str "tube"]
def even (i : Int) : Bool := i % 2 == 0
/-- of a word and two numbers, or three -/
def two3 (s : Str) (a b : Int) : Bool := decide (1 ≤ a) && decide (1 ≤ b) && decide (a * b * (if s = "fan" then b else 1) ≤ 60) && (if s = "tube" then even b else if s = "klein" then even a && even b else if s = "band" then even (a + b) else true)
def three4 (a b c : Int) : Bool := decide (1 ≤ a) && decide (1 ≤ b) && decide (a * b ≤ 60) && even b && decide (0 ≤ c ∧ c < b) && even (a + c)
theorem whole_int (i : Int) : g_is_whole [.int i] = some (.bool true) := by
  have w1 : isiD "int" (.int i) = some (.bool true) := rfl
  have w2 : isiD "bool" (.int i) = some (.bool false) := rfl
  unfold g_is_whole runP f_is_whole
  simp -implicitDefEqProofs only [rvs, eq_self, gNm, and_self, owk, List.getElem?_cons_zero, List.getElem?_cons_succ, List.length_cons, List.length_nil, List.set_cons_zero, List.set_cons_succ, List.map_cons, List.map_nil, List.cons_append, List.nil_append, List.replicate_succ, List.replicate_zero, Nat.reduceAdd, Nat.reduceSub, Nat.reduceLT, Nat.reduceEqDiff, Option.bind_some, Option.bind_none, Option.map_some, Option.map_none, if_true, if_false, ite_true, ite_false, ↓reduceIte, Bool.not_true, Bool.not_false, w1, w2]
theorem lt_int (i j : Int) : ltD (.int i) (.int j) = some (.bool (decide (i < j))) := rfl
theorem gt_int (i j : Int) : gtI (.int i) (.int j) = some (.bool (decide (i > j))) := rfl
theorem le_int (i j : Int) : leI (.int i) (.int j) = some (.bool (decide (i ≤ j))) := rfl
theorem mod2 (i : Int) : modD (.int i) (.int 2) = some (.int (i % 2)) := mod_ok (by decide)
theorem mul_big {i j : Int} (h0 : 0 ≤ i) (h : i < 2 ^ 400) (h0' : 0 ≤ j) (h' : j < 2 ^ 200) : mulI (.int i) (.int j) = some (.int (i * j)) := mul_ok 400 200 (by decide) (by decide) h0 h h0' h' (by decide)
theorem eq_str2 (x y : Str) : eqD (.str x) (.str y) = some (.bool (x == y)) := rfl
theorem wholes_lc (s0 s1 s2 s3 : Sl) (ns : List Int) : lcF (gNm 4) (Tw.ret true) (fCall (lenIs 1 g_is_whole) (fCons (fVar 4) fNil)) [4] (ns.map PyData.int) [s0, s1, s2, s3, .un] = some (ns.map fun _ => PyData.bool true, [s0, s1, s2, s3, .un]) :=
  lc_all PyData.int (fun i => [s0, s1, s2, s3, .d (.int i)]) (fun _ => .bool true) ns (fun _ _ => rfl) (fun i _ => by
    have w := whole_int i
    simp -implicitDefEqProofs only [rvs, eq_self, gNm, and_self, owk, List.getElem?_cons_zero, List.getElem?_cons_succ, List.length_cons, List.length_nil, List.set_cons_zero, List.set_cons_succ, List.map_cons, List.map_nil, List.cons_append, List.nil_append, List.replicate_succ, List.replicate_zero, Nat.reduceAdd, Nat.reduceSub, Nat.reduceLT, Nat.reduceEqDiff, Option.bind_some, Option.bind_none, Option.map_some, Option.map_none, if_true, if_false, ite_true, ite_false, ↓reduceIte, Bool.not_true, Bool.not_false, w]) fun _ _ => rfl
theorem odds_lc (s0 s2 : Sl) (ns : List Int) : lcF (gNm 1) (tdOr (tdNot (fTst (fUn (isiD "int") (fVar 1)))) (fTst (fUn (isiD "bool") (fVar 1)))) (Tw.ret (.int 1)) [1] (ns.map PyData.int) [s0, .un, s2] = some ([], [s0, .un, s2]) := by
  have := lc_list (ft := gNm 1) (tt := (tdOr (tdNot (fTst (fUn (isiD "int") (fVar 1)))) (fTst (fUn (isiD "bool") (fVar 1))))) (fe := Tw.ret (.int 1)) (vs := [1]) (r0 := [s0, .un, s2]) PyData.int (fun i => [s0, .d (.int i), s2]) (fun _ => false) (fun _ => .int 1) ns (fun _ _ => rfl) (fun i _ => by
    have w1 : isiD "int" (.int i) = some (.bool true) := rfl
    have w2 : isiD "bool" (.int i) = some (.bool false) := rfl
    simp -implicitDefEqProofs only [rvs, eq_self, gNm, and_self, owk, List.getElem?_cons_zero, List.getElem?_cons_succ, List.length_cons, List.length_nil, List.set_cons_zero, List.set_cons_succ, List.map_cons, List.map_nil, List.cons_append, List.nil_append, List.replicate_succ, List.replicate_zero, Nat.reduceAdd, Nat.reduceSub, Nat.reduceLT, Nat.reduceEqDiff, Option.bind_some, Option.bind_none, Option.map_some, Option.map_none, if_true, if_false, ite_true, ite_false, ↓reduceIte, Bool.not_true, Bool.not_false, w1, w2]) (fun _ _ _ => rfl) fun _ _ => rfl
  rw [List.filter_eq_nil_iff.mpr fun _ _ => Bool.false_ne_true] at this
  exact this
/-- numbers that may be reckoned with -/
def Sm (i : Int) : Prop := -(2 ^ 200) < i ∧ i < 2 ^ 200
theorem mul_lt {a b : Int} (h0 : 0 ≤ a) (h1 : a < 2 ^ 200) (h2 : 0 ≤ b) (h3 : b < 2 ^ 200) : 0 ≤ a * b ∧ a * b < 2 ^ 400 := by
  refine ⟨Int.mul_nonneg h0 h2, ?_⟩
  have : a * b < 2 ^ 200 * 2 ^ 200 := by
    have q1 : a * b ≤ a * 2 ^ 200 := Int.mul_le_mul_of_nonneg_left (by omega) h0
    have q2 : a * 2 ^ 200 < 2 ^ 200 * 2 ^ 200 := Int.mul_lt_mul_of_pos_right h1 (by decide)
    omega
  have e : (2 : Int) ^ 200 * 2 ^ 200 = 2 ^ 400 := by decide +kernel
  omega
end Lw

set_option Elab.async false
set_option linter.all false
set_option maxRecDepth 100000
set_option maxHeartbeats 8000000
namespace Lw
open PySem PySem.Spec PyProof.Rows L2 Tw
/-! ### the program's judge of words with two numbers -/
theorem all_true (n : List Int) : allD [.list (n.map fun _ => PyData.bool true)] = some (.bool true) := by
  have e : (n.map fun _ => PyData.bool true) = (n.map fun _ => true).map PyData.bool := by rw [List.map_map]; rfl
  show (boolsOf _).map (fun bs => PyData.bool (bs.all id)) = _
  rw [e, boolsOf_map]
  have z : (n.map fun _ => true).all id = true := by
    rw [List.all_map]
    exact List.all_eq_true.mpr fun _ _ => rfl
  show some (PyData.bool ((n.map fun _ => true).all id)) = _
  rw [z]
theorem even_eq (i : Int) : eqD (.int (i % 2)) (.int 0) = some (.bool (even i)) := rfl
theorem e_band_fan : eqD (.str "band") (.str "fan") = some (.bool false) := rfl
theorem e_band_tube : eqD (.str "band") (.str "tube") = some (.bool false) := rfl
theorem e_band_torus : eqD (.str "band") (.str "torus") = some (.bool false) := rfl
theorem e_band_klein : eqD (.str "band") (.str "klein") = some (.bool false) := rfl
theorem e_board_fan : eqD (.str "board") (.str "fan") = some (.bool false) := rfl
theorem e_board_tube : eqD (.str "board") (.str "tube") = some (.bool false) := rfl
theorem e_board_torus : eqD (.str "board") (.str "torus") = some (.bool false) := rfl
theorem e_board_klein : eqD (.str "board") (.str "klein") = some (.bool false) := rfl
theorem e_fan_fan : eqD (.str "fan") (.str "fan") = some (.bool true) := rfl
theorem e_fan_tube : eqD (.str "fan") (.str "tube") = some (.bool false) := rfl
theorem e_fan_torus : eqD (.str "fan") (.str "torus") = some (.bool false) := rfl
theorem e_fan_klein : eqD (.str "fan") (.str "klein") = some (.bool false) := rfl
theorem e_klein_fan : eqD (.str "klein") (.str "fan") = some (.bool false) := rfl
theorem e_klein_tube : eqD (.str "klein") (.str "tube") = some (.bool false) := rfl
theorem e_klein_torus : eqD (.str "klein") (.str "torus") = some (.bool false) := rfl
theorem e_klein_klein : eqD (.str "klein") (.str "klein") = some (.bool true) := rfl
theorem e_tube_fan : eqD (.str "tube") (.str "fan") = some (.bool false) := rfl
theorem e_tube_tube : eqD (.str "tube") (.str "tube") = some (.bool true) := rfl
theorem e_tube_torus : eqD (.str "tube") (.str "torus") = some (.bool false) := rfl
theorem e_tube_klein : eqD (.str "tube") (.str "klein") = some (.bool false) := rfl
theorem prog_two {s : Str} (hs : s ∈ (["band", "board", "fan", "klein", "tube"] : List Str)) {a b : Int} (ha : Sm a) (hb : Sm b) : g_is_shape [.tuple [.str s, .int a, .int b]] = some (.bool (two3 s a b)) := by
  have ist : isiD "tuple" (.tuple [.str s, .int a, .int b]) = some (.bool true) := rfl
  have ln : lenD [.tuple [.str s, .int a, .int b]] = some (.int 3) := rfl
  have l1 : leI (.int 3) (.int 3) = some (.bool true) := rfl
  have l2 : leI (.int 3) (.int 4) = some (.bool true) := rfl
  have i0 : ixD (.tuple [.str s, .int a, .int b]) (.int 0) = some (.str s) := ixT0
  have nt : ninT (.str s) shapesT = some (.bool false) := by
    simp only [List.mem_cons, List.not_mem_nil, or_false] at hs
    rcases hs with rfl | rfl | rfl | rfl | rfl <;> rfl
  have c1 : Tw.cutD [.str s, .int a, .int b] (some 1) none = [a, b].map PyData.int := rfl
  have c2 : Tw.cutD [.str s, .int a, .int b] none (some 3) = [.str s, .int a, .int b] := rfl
  have it : itemsOf (.tuple ([a, b].map PyData.int)) = some ([a, b].map PyData.int) := rfl
  have sz : Tw.sizeOk ([a, b].map PyData.int).length = true := rfl
  have lc := wholes_lc (.d (.tuple [.str s, .int a, .int b])) .un .un .un [a, b]
  have al : allD [.list [.bool true, .bool true]] = some (.bool true) := rfl
  have nto : eqD (.str s) (.str "torus") = some (.bool false) := by
    simp only [List.mem_cons, List.not_mem_nil, or_false] at hs
    rcases hs with rfl | rfl | rfl | rfl | rfl <;> rfl
  have n33 : neD (.int 3) (.int 3) = some (.bool false) := rfl
  have q1 := lt_int a 1
  have q2 := lt_int b 1
  generalize hL : [a, b].map PyData.int = L at c1 it sz lc
  unfold two3
  by_cases a1 : a < 1
  · rw [decide_eq_true a1] at q1
    rw [decide_eq_false (by omega : ¬ 1 ≤ a), Bool.false_and, Bool.false_and, Bool.false_and]
    unfold g_is_shape runP f_is_shape
    simp -implicitDefEqProofs only [rvs, eq_self, gNm, and_self, owk, List.getElem?_cons_zero, List.getElem?_cons_succ, List.length_cons, List.length_nil, List.set_cons_zero, List.set_cons_succ, List.map_cons, List.map_nil, List.cons_append, List.nil_append, List.replicate_succ, List.replicate_zero, Nat.reduceAdd, Nat.reduceSub, Nat.reduceLT, Nat.reduceEqDiff, Option.bind_some, Option.bind_none, Option.map_some, Option.map_none, if_true, if_false, ite_true, ite_false, ↓reduceIte, Bool.not_true, Bool.not_false, ist, ln, l1, l2, i0, nt, slT_ok, c1, c2, it, r_lck sz, wipeR, lc, backR, al, nto, n33, q1]
  · rw [decide_eq_false a1] at q1
    rw [decide_eq_true (by omega : 1 ≤ a), Bool.true_and]
    by_cases b1 : b < 1
    · rw [decide_eq_true b1] at q2
      rw [decide_eq_false (by omega : ¬ 1 ≤ b), Bool.false_and, Bool.false_and]
      unfold g_is_shape runP f_is_shape
      simp -implicitDefEqProofs only [rvs, eq_self, gNm, and_self, owk, List.getElem?_cons_zero, List.getElem?_cons_succ, List.length_cons, List.length_nil, List.set_cons_zero, List.set_cons_succ, List.map_cons, List.map_nil, List.cons_append, List.nil_append, List.replicate_succ, List.replicate_zero, Nat.reduceAdd, Nat.reduceSub, Nat.reduceLT, Nat.reduceEqDiff, Option.bind_some, Option.bind_none, Option.map_some, Option.map_none, if_true, if_false, ite_true, ite_false, ↓reduceIte, Bool.not_true, Bool.not_false, ist, ln, l1, l2, i0, nt, slT_ok, c1, c2, it, r_lck sz, wipeR, lc, backR, al, nto, n33, q1, q2]
    · rw [decide_eq_false b1] at q2
      rw [decide_eq_true (by omega : 1 ≤ b), Bool.true_and]
      obtain ⟨ha1, ha2⟩ := ha
      obtain ⟨hb1, hb2⟩ := hb
      obtain ⟨p0, p1⟩ := mul_lt (a := a) (b := b) (by omega) ha2 (by omega) hb2
      have e400 : (2 : Int) ^ 200 < 2 ^ 400 := by decide +kernel
      have m1 := mul_big (i := a) (j := b) (by omega) (by omega) (by omega) hb2
      have m2 := mul_big (i := a * b) (j := b) p0 p1 (by omega) hb2
      have m3 := mul_big (i := a * b) (j := 1) p0 p1 (by decide) (by decide)
      have g := gt_int (a * b * (if s = "fan" then b else 1)) 60
      have ma := mod2 a
      have mb := mod2 b
      have mab := mod2 (a + b)
      have ad : addD (.int a) (.int b) = some (.int (a + b)) := rfl
      have ea := even_eq a
      have eb := even_eq b
      have eab := even_eq (a + b)
      have w1 : neD (.str "band") (.str "band") = some (.bool false) := rfl
      have w2 : neD (.str "board") (.str "band") = some (.bool true) := rfl
      have w3 : neD (.str "fan") (.str "band") = some (.bool true) := rfl
      simp only [List.mem_cons, List.not_mem_nil, or_false] at hs
      by_cases big : a * b * (if s = "fan" then b else 1) > 60
      · rw [decide_eq_true big] at g
        rw [decide_eq_false (by omega : ¬ a * b * (if s = "fan" then b else 1) ≤ 60), Bool.false_and]
        rcases hs with rfl | rfl | rfl | rfl | rfl
        all_goals
          first
          | rw [if_pos rfl] at g
          | rw [if_neg (by decide)] at g
        all_goals
          unfold g_is_shape runP f_is_shape
          simp -implicitDefEqProofs only [rvs, eq_self, gNm, and_self, owk, List.getElem?_cons_zero, List.getElem?_cons_succ, List.length_cons, List.length_nil, List.set_cons_zero, List.set_cons_succ, List.map_cons, List.map_nil, List.cons_append, List.nil_append, List.replicate_succ, List.replicate_zero, Nat.reduceAdd, Nat.reduceSub, Nat.reduceLT, Nat.reduceEqDiff, Option.bind_some, Option.bind_none, Option.map_some, Option.map_none, if_true, if_false, ite_true, ite_false, ↓reduceIte, Bool.not_true, Bool.not_false, ist, ln, l1, l2, i0, nt, slT_ok, c1, c2, it, r_lck sz, wipeR, lc, backR, al, nto, n33, q1, q2, m1, m2, m3, e_band_fan, e_band_tube, e_band_torus, e_band_klein, e_board_fan, e_board_tube, e_board_torus, e_board_klein, e_fan_fan, e_fan_tube, e_fan_torus, e_fan_klein, e_klein_fan, e_klein_tube, e_klein_torus, e_klein_klein, e_tube_fan, e_tube_tube, e_tube_torus, e_tube_klein, g]
      · rw [decide_eq_false big] at g
        rw [decide_eq_true (by omega : a * b * (if s = "fan" then b else 1) ≤ 60), Bool.true_and]
        rcases hs with rfl | rfl | rfl | rfl | rfl
        all_goals
          first
          | rw [if_pos rfl] at g
          | rw [if_neg (by decide)] at g
        · show _ = some (PyData.bool (even (a + b)))
          unfold g_is_shape runP f_is_shape
          simp -implicitDefEqProofs only [rvs, eq_self, gNm, and_self, owk, List.getElem?_cons_zero, List.getElem?_cons_succ, List.length_cons, List.length_nil, List.set_cons_zero, List.set_cons_succ, List.map_cons, List.map_nil, List.cons_append, List.nil_append, List.replicate_succ, List.replicate_zero, Nat.reduceAdd, Nat.reduceSub, Nat.reduceLT, Nat.reduceEqDiff, Option.bind_some, Option.bind_none, Option.map_some, Option.map_none, if_true, if_false, ite_true, ite_false, ↓reduceIte, Bool.not_true, Bool.not_false, ist, ln, l1, l2, i0, nt, slT_ok, c1, c2, it, r_lck sz, wipeR, lc, backR, al, nto, n33, q1, q2, m1, m2, m3, e_band_fan, e_band_tube, e_band_torus, e_band_klein, e_board_fan, e_board_tube, e_board_torus, e_board_klein, e_fan_fan, e_fan_tube, e_fan_torus, e_fan_klein, e_klein_fan, e_klein_tube, e_klein_torus, e_klein_klein, e_tube_fan, e_tube_tube, e_tube_torus, e_tube_klein, g, w1, ad, mab, eab]
        · show _ = some (PyData.bool true)
          unfold g_is_shape runP f_is_shape
          simp -implicitDefEqProofs only [rvs, eq_self, gNm, and_self, owk, List.getElem?_cons_zero, List.getElem?_cons_succ, List.length_cons, List.length_nil, List.set_cons_zero, List.set_cons_succ, List.map_cons, List.map_nil, List.cons_append, List.nil_append, List.replicate_succ, List.replicate_zero, Nat.reduceAdd, Nat.reduceSub, Nat.reduceLT, Nat.reduceEqDiff, Option.bind_some, Option.bind_none, Option.map_some, Option.map_none, if_true, if_false, ite_true, ite_false, ↓reduceIte, Bool.not_true, Bool.not_false, ist, ln, l1, l2, i0, nt, slT_ok, c1, c2, it, r_lck sz, wipeR, lc, backR, al, nto, n33, q1, q2, m1, m2, m3, e_band_fan, e_band_tube, e_band_torus, e_band_klein, e_board_fan, e_board_tube, e_board_torus, e_board_klein, e_fan_fan, e_fan_tube, e_fan_torus, e_fan_klein, e_klein_fan, e_klein_tube, e_klein_torus, e_klein_klein, e_tube_fan, e_tube_tube, e_tube_torus, e_tube_klein, g, w2]
        · show _ = some (PyData.bool true)
          unfold g_is_shape runP f_is_shape
          simp -implicitDefEqProofs only [rvs, eq_self, gNm, and_self, owk, List.getElem?_cons_zero, List.getElem?_cons_succ, List.length_cons, List.length_nil, List.set_cons_zero, List.set_cons_succ, List.map_cons, List.map_nil, List.cons_append, List.nil_append, List.replicate_succ, List.replicate_zero, Nat.reduceAdd, Nat.reduceSub, Nat.reduceLT, Nat.reduceEqDiff, Option.bind_some, Option.bind_none, Option.map_some, Option.map_none, if_true, if_false, ite_true, ite_false, ↓reduceIte, Bool.not_true, Bool.not_false, ist, ln, l1, l2, i0, nt, slT_ok, c1, c2, it, r_lck sz, wipeR, lc, backR, al, nto, n33, q1, q2, m1, m2, m3, e_band_fan, e_band_tube, e_band_torus, e_band_klein, e_board_fan, e_board_tube, e_board_torus, e_board_klein, e_fan_fan, e_fan_tube, e_fan_torus, e_fan_klein, e_klein_fan, e_klein_tube, e_klein_torus, e_klein_klein, e_tube_fan, e_tube_tube, e_tube_torus, e_tube_klein, g, w3]
        · show _ = some (PyData.bool (even a && even b))
          cases hq : even a
          · rw [hq] at ea
            rw [Bool.false_and]
            unfold g_is_shape runP f_is_shape
            simp -implicitDefEqProofs only [rvs, eq_self, gNm, and_self, owk, List.getElem?_cons_zero, List.getElem?_cons_succ, List.length_cons, List.length_nil, List.set_cons_zero, List.set_cons_succ, List.map_cons, List.map_nil, List.cons_append, List.nil_append, List.replicate_succ, List.replicate_zero, Nat.reduceAdd, Nat.reduceSub, Nat.reduceLT, Nat.reduceEqDiff, Option.bind_some, Option.bind_none, Option.map_some, Option.map_none, if_true, if_false, ite_true, ite_false, ↓reduceIte, Bool.not_true, Bool.not_false, ist, ln, l1, l2, i0, nt, slT_ok, c1, c2, it, r_lck sz, wipeR, lc, backR, al, nto, n33, q1, q2, m1, m2, m3, e_band_fan, e_band_tube, e_band_torus, e_band_klein, e_board_fan, e_board_tube, e_board_torus, e_board_klein, e_fan_fan, e_fan_tube, e_fan_torus, e_fan_klein, e_klein_fan, e_klein_tube, e_klein_torus, e_klein_klein, e_tube_fan, e_tube_tube, e_tube_torus, e_tube_klein, g, ma, ea]
          · rw [hq] at ea
            rw [Bool.true_and]
            unfold g_is_shape runP f_is_shape
            simp -implicitDefEqProofs only [rvs, eq_self, gNm, and_self, owk, List.getElem?_cons_zero, List.getElem?_cons_succ, List.length_cons, List.length_nil, List.set_cons_zero, List.set_cons_succ, List.map_cons, List.map_nil, List.cons_append, List.nil_append, List.replicate_succ, List.replicate_zero, Nat.reduceAdd, Nat.reduceSub, Nat.reduceLT, Nat.reduceEqDiff, Option.bind_some, Option.bind_none, Option.map_some, Option.map_none, if_true, if_false, ite_true, ite_false, ↓reduceIte, Bool.not_true, Bool.not_false, ist, ln, l1, l2, i0, nt, slT_ok, c1, c2, it, r_lck sz, wipeR, lc, backR, al, nto, n33, q1, q2, m1, m2, m3, e_band_fan, e_band_tube, e_band_torus, e_band_klein, e_board_fan, e_board_tube, e_board_torus, e_board_klein, e_fan_fan, e_fan_tube, e_fan_torus, e_fan_klein, e_klein_fan, e_klein_tube, e_klein_torus, e_klein_klein, e_tube_fan, e_tube_tube, e_tube_torus, e_tube_klein, g, ma, ea, mb, eb]
        · show _ = some (PyData.bool (even b))
          unfold g_is_shape runP f_is_shape
          simp -implicitDefEqProofs only [rvs, eq_self, gNm, and_self, owk, List.getElem?_cons_zero, List.getElem?_cons_succ, List.length_cons, List.length_nil, List.set_cons_zero, List.set_cons_succ, List.map_cons, List.map_nil, List.cons_append, List.nil_append, List.replicate_succ, List.replicate_zero, Nat.reduceAdd, Nat.reduceSub, Nat.reduceLT, Nat.reduceEqDiff, Option.bind_some, Option.bind_none, Option.map_some, Option.map_none, if_true, if_false, ite_true, ite_false, ↓reduceIte, Bool.not_true, Bool.not_false, ist, ln, l1, l2, i0, nt, slT_ok, c1, c2, it, r_lck sz, wipeR, lc, backR, al, nto, n33, q1, q2, m1, m2, m3, e_band_fan, e_band_tube, e_band_torus, e_band_klein, e_board_fan, e_board_tube, e_board_torus, e_board_klein, e_fan_fan, e_fan_tube, e_fan_torus, e_fan_klein, e_klein_fan, e_klein_tube, e_klein_torus, e_klein_klein, e_tube_fan, e_tube_tube, e_tube_torus, e_tube_klein, g, mb, eb]
end Lw

set_option Elab.async false
set_option linter.all false
set_option maxRecDepth 100000
set_option maxHeartbeats 8000000
namespace Lw
open PySem PySem.Spec PyProof.Rows L2 Tw
/-! ### the law's judge of words with two numbers; words with three -/
abbrev sixL : PyData := .list [.str "band", .str "board", .str "fan", .str "klein", .str "torus", .str "tube"]
theorem even_par (a b : Int) : (a % 2 == b % 2) = even (a + b) := by
  unfold even
  rw [Bool.eq_iff_iff, beq_iff_eq, beq_iff_eq]
  omega
theorem odd_eq (a : Int) : eqD (.int (a % 2)) (.int 1) = some (.bool (!even a)) := by
  show some (PyData.bool (a % 2 == 1)) = _
  congr 2
  unfold even
  have h : a % 2 = 0 ∨ a % 2 = 1 := by omega
  rcases h with h | h <;> rw [h] <;> rfl
theorem f_band_band : eqD (.str "band") (.str "band") = some (.bool true) := rfl
theorem f_band_fan : eqD (.str "band") (.str "fan") = some (.bool false) := rfl
theorem f_band_torus : eqD (.str "band") (.str "torus") = some (.bool false) := rfl
theorem f_band_klein : eqD (.str "band") (.str "klein") = some (.bool false) := rfl
theorem f_band_tube : eqD (.str "band") (.str "tube") = some (.bool false) := rfl
theorem g_band : inD true (.str "band") sixL = some (.bool false) := rfl
theorem h_band : inD false (.str "band") (.tuple [.str "board", .str "fan"]) = some (.bool false) := rfl
theorem f_board_band : eqD (.str "board") (.str "band") = some (.bool false) := rfl
theorem f_board_fan : eqD (.str "board") (.str "fan") = some (.bool false) := rfl
theorem f_board_torus : eqD (.str "board") (.str "torus") = some (.bool false) := rfl
theorem f_board_klein : eqD (.str "board") (.str "klein") = some (.bool false) := rfl
theorem f_board_tube : eqD (.str "board") (.str "tube") = some (.bool false) := rfl
theorem g_board : inD true (.str "board") sixL = some (.bool false) := rfl
theorem h_board : inD false (.str "board") (.tuple [.str "board", .str "fan"]) = some (.bool true) := rfl
theorem f_fan_band : eqD (.str "fan") (.str "band") = some (.bool false) := rfl
theorem f_fan_fan : eqD (.str "fan") (.str "fan") = some (.bool true) := rfl
theorem f_fan_torus : eqD (.str "fan") (.str "torus") = some (.bool false) := rfl
theorem f_fan_klein : eqD (.str "fan") (.str "klein") = some (.bool false) := rfl
theorem f_fan_tube : eqD (.str "fan") (.str "tube") = some (.bool false) := rfl
theorem g_fan : inD true (.str "fan") sixL = some (.bool false) := rfl
theorem h_fan : inD false (.str "fan") (.tuple [.str "board", .str "fan"]) = some (.bool true) := rfl
theorem f_klein_band : eqD (.str "klein") (.str "band") = some (.bool false) := rfl
theorem f_klein_fan : eqD (.str "klein") (.str "fan") = some (.bool false) := rfl
theorem f_klein_torus : eqD (.str "klein") (.str "torus") = some (.bool false) := rfl
theorem f_klein_klein : eqD (.str "klein") (.str "klein") = some (.bool true) := rfl
theorem f_klein_tube : eqD (.str "klein") (.str "tube") = some (.bool false) := rfl
theorem g_klein : inD true (.str "klein") sixL = some (.bool false) := rfl
theorem h_klein : inD false (.str "klein") (.tuple [.str "board", .str "fan"]) = some (.bool false) := rfl
theorem f_tube_band : eqD (.str "tube") (.str "band") = some (.bool false) := rfl
theorem f_tube_fan : eqD (.str "tube") (.str "fan") = some (.bool false) := rfl
theorem f_tube_torus : eqD (.str "tube") (.str "torus") = some (.bool false) := rfl
theorem f_tube_klein : eqD (.str "tube") (.str "klein") = some (.bool false) := rfl
theorem f_tube_tube : eqD (.str "tube") (.str "tube") = some (.bool true) := rfl
theorem g_tube : inD true (.str "tube") sixL = some (.bool false) := rfl
theorem h_tube : inD false (.str "tube") (.tuple [.str "board", .str "fan"]) = some (.bool false) := rfl
theorem f_torus_band : eqD (.str "torus") (.str "band") = some (.bool false) := rfl
theorem f_torus_fan : eqD (.str "torus") (.str "fan") = some (.bool false) := rfl
theorem f_torus_torus : eqD (.str "torus") (.str "torus") = some (.bool true) := rfl
theorem f_torus_klein : eqD (.str "torus") (.str "klein") = some (.bool false) := rfl
theorem f_torus_tube : eqD (.str "torus") (.str "tube") = some (.bool false) := rfl
theorem g_torus : inD true (.str "torus") sixL = some (.bool false) := rfl
theorem h_torus : inD false (.str "torus") (.tuple [.str "board", .str "fan"]) = some (.bool false) := rfl
theorem law_two {s : Str} (hs : s ∈ (["band", "board", "fan", "klein", "tube"] : List Str)) {a b : Int} (ha : Sm a) (hb : Sm b) : g__law_is_shape [.tuple [.str s, .int a, .int b]] = some (.bool (two3 s a b)) := by
  have ist : isiD "tuple" (.tuple [.str s, .int a, .int b]) = some (.bool true) := rfl
  have iss : isiD "str" (.str s) = some (.bool true) := rfl
  have ln : lenD [.tuple [.str s, .int a, .int b]] = some (.int 3) := rfl
  have l1 : inD true (.int 3) (.tuple [.int 3, .int 4]) = some (.bool false) := rfl
  have i0 : ixD (.tuple [.str s, .int a, .int b]) (.int 0) = some (.str s) := ixT0
  have i1 : ixD (.tuple [.str s, .int a, .int b]) (.int 1) = some (.int a) := ixT1
  have i2 : ixD (.tuple [.str s, .int a, .int b]) (.int 2) = some (.int b) := ixTn (k := 2) rfl
  have c1 : Tw.cutD [.str s, .int a, .int b] (some 1) none = [a, b].map PyData.int := rfl
  have it : itemsOf (.tuple ([a, b].map PyData.int)) = some ([a, b].map PyData.int) := rfl
  have sz : Tw.sizeOk ([a, b].map PyData.int).length = true := rfl
  have lc := odds_lc (.d (.tuple [.str s, .int a, .int b])) .un [a, b]
  have n0 : neD (.list []) (.list []) = some (.bool false) := rfl
  have s0 : Tw.sizeOk 0 = true := rfl
  have s2 : Tw.sizeOk 2 = true := rfl
  have s6 : Tw.sizeOk 6 = true := rfl
  have e34 : eqD (.int 3) (.int 4) = some (.bool false) := rfl
  have e33 : eqD (.int 3) (.int 3) = some (.bool true) := rfl
  have nf : neD (.bool false) (.bool false) = some (.bool false) := rfl
  have b0 : intD [.bool false] = some (.int 0) := rfl
  have b1 : intD [.bool true] = some (.int 1) := rfl
  have x0 : ixD (.list [.int 1, .int b]) (.int 0) = some (.int 1) := ixLn (k := 0) rfl
  have x1 : ixD (.list [.int 1, .int b]) (.int 1) = some (.int b) := ixLn (k := 1) rfl
  have q1 := lt_int a 1
  have q2 := lt_int b 1
  generalize hL : [a, b].map PyData.int = L at c1 it sz lc
  unfold two3
  simp only [List.mem_cons, List.not_mem_nil, or_false] at hs
  by_cases a1 : a < 1
  · rw [decide_eq_true a1] at q1
    rw [decide_eq_false (by omega : ¬ 1 ≤ a), Bool.false_and, Bool.false_and, Bool.false_and]
    rcases hs with rfl | rfl | rfl | rfl | rfl
    all_goals
      unfold g__law_is_shape runP f__law_is_shape
      simp -implicitDefEqProofs only [rvs, eq_self, gNm, and_self, owk, List.getElem?_cons_zero, List.getElem?_cons_succ, List.length_cons, List.length_nil, List.set_cons_zero, List.set_cons_succ, List.map_cons, List.map_nil, List.cons_append, List.nil_append, List.replicate_succ, List.replicate_zero, Nat.reduceAdd, Nat.reduceSub, Nat.reduceLT, Nat.reduceEqDiff, Option.bind_some, Option.bind_none, Option.map_some, Option.map_none, if_true, if_false, ite_true, ite_false, ↓reduceIte, Bool.not_true, Bool.not_false, ist, iss, ln, l1, i0, i1, i2, slT_ok, c1, it, r_lck sz, wipeR, lc, backR, n0, s0, s2, s6, e34, nf, b0, b1, x0, x1, f_band_band, f_band_fan, f_band_torus, f_band_klein, f_band_tube, g_band, h_band, f_board_band, f_board_fan, f_board_torus, f_board_klein, f_board_tube, g_board, h_board, f_fan_band, f_fan_fan, f_fan_torus, f_fan_klein, f_fan_tube, g_fan, h_fan, f_klein_band, f_klein_fan, f_klein_torus, f_klein_klein, f_klein_tube, g_klein, h_klein, f_tube_band, f_tube_fan, f_tube_torus, f_tube_klein, f_tube_tube, g_tube, h_tube, f_torus_band, f_torus_fan, f_torus_torus, f_torus_klein, f_torus_tube, g_torus, h_torus, q1]
  · rw [decide_eq_false a1] at q1
    rw [decide_eq_true (by omega : 1 ≤ a), Bool.true_and]
    by_cases b1' : b < 1
    · rw [decide_eq_true b1'] at q2
      rw [decide_eq_false (by omega : ¬ 1 ≤ b), Bool.false_and, Bool.false_and]
      rcases hs with rfl | rfl | rfl | rfl | rfl
      all_goals
        unfold g__law_is_shape runP f__law_is_shape
        simp -implicitDefEqProofs only [rvs, eq_self, gNm, and_self, owk, List.getElem?_cons_zero, List.getElem?_cons_succ, List.length_cons, List.length_nil, List.set_cons_zero, List.set_cons_succ, List.map_cons, List.map_nil, List.cons_append, List.nil_append, List.replicate_succ, List.replicate_zero, Nat.reduceAdd, Nat.reduceSub, Nat.reduceLT, Nat.reduceEqDiff, Option.bind_some, Option.bind_none, Option.map_some, Option.map_none, if_true, if_false, ite_true, ite_false, ↓reduceIte, Bool.not_true, Bool.not_false, ist, iss, ln, l1, i0, i1, i2, slT_ok, c1, it, r_lck sz, wipeR, lc, backR, n0, s0, s2, s6, e34, nf, b0, b1, x0, x1, f_band_band, f_band_fan, f_band_torus, f_band_klein, f_band_tube, g_band, h_band, f_board_band, f_board_fan, f_board_torus, f_board_klein, f_board_tube, g_board, h_board, f_fan_band, f_fan_fan, f_fan_torus, f_fan_klein, f_fan_tube, g_fan, h_fan, f_klein_band, f_klein_fan, f_klein_torus, f_klein_klein, f_klein_tube, g_klein, h_klein, f_tube_band, f_tube_fan, f_tube_torus, f_tube_klein, f_tube_tube, g_tube, h_tube, f_torus_band, f_torus_fan, f_torus_torus, f_torus_klein, f_torus_tube, g_torus, h_torus, q1, q2]
    · rw [decide_eq_false b1'] at q2
      rw [decide_eq_true (by omega : 1 ≤ b), Bool.true_and]
      obtain ⟨ha1, ha2⟩ := ha
      obtain ⟨hb1, hb2⟩ := hb
      obtain ⟨p0, p1⟩ := mul_lt (a := a) (b := b) (by omega) ha2 (by omega) hb2
      have e400 : (2 : Int) ^ 200 < 2 ^ 400 := by decide +kernel
      have m1 := mul_big (i := a) (j := b) (by omega) (by omega) (by omega) hb2
      have m2 := mul_big (i := a * b) (j := b) p0 p1 (by omega) hb2
      have m3 := mul_big (i := a * b) (j := 1) p0 p1 (by decide) (by decide)
      have g := gt_int (a * b * (if s = "fan" then b else 1)) 60
      have ma := mod2 a
      have mb := mod2 b
      have oa := odd_eq a
      have ob := odd_eq b
      have pr : eqD (.int (a % 2)) (.int (b % 2)) = some (.bool (even (a + b))) := by
        rw [← even_par]
        rfl
      by_cases big : a * b * (if s = "fan" then b else 1) > 60
      · rw [decide_eq_true big] at g
        rw [decide_eq_false (by omega : ¬ a * b * (if s = "fan" then b else 1) ≤ 60), Bool.false_and]
        rcases hs with rfl | rfl | rfl | rfl | rfl
        all_goals
          first
          | rw [if_pos rfl] at g
          | rw [if_neg (by decide)] at g
        all_goals
          unfold g__law_is_shape runP f__law_is_shape
          simp -implicitDefEqProofs only [rvs, eq_self, gNm, and_self, owk, List.getElem?_cons_zero, List.getElem?_cons_succ, List.length_cons, List.length_nil, List.set_cons_zero, List.set_cons_succ, List.map_cons, List.map_nil, List.cons_append, List.nil_append, List.replicate_succ, List.replicate_zero, Nat.reduceAdd, Nat.reduceSub, Nat.reduceLT, Nat.reduceEqDiff, Option.bind_some, Option.bind_none, Option.map_some, Option.map_none, if_true, if_false, ite_true, ite_false, ↓reduceIte, Bool.not_true, Bool.not_false, ist, iss, ln, l1, i0, i1, i2, slT_ok, c1, it, r_lck sz, wipeR, lc, backR, n0, s0, s2, s6, e34, nf, b0, b1, x0, x1, f_band_band, f_band_fan, f_band_torus, f_band_klein, f_band_tube, g_band, h_band, f_board_band, f_board_fan, f_board_torus, f_board_klein, f_board_tube, g_board, h_board, f_fan_band, f_fan_fan, f_fan_torus, f_fan_klein, f_fan_tube, g_fan, h_fan, f_klein_band, f_klein_fan, f_klein_torus, f_klein_klein, f_klein_tube, g_klein, h_klein, f_tube_band, f_tube_fan, f_tube_torus, f_tube_klein, f_tube_tube, g_tube, h_tube, f_torus_band, f_torus_fan, f_torus_torus, f_torus_klein, f_torus_tube, g_torus, h_torus, q1, q2, m1, m2, m3, g]
      · rw [decide_eq_false big] at g
        rw [decide_eq_true (by omega : a * b * (if s = "fan" then b else 1) ≤ 60), Bool.true_and]
        rcases hs with rfl | rfl | rfl | rfl | rfl
        all_goals
          first
          | rw [if_pos rfl] at g
          | rw [if_neg (by decide)] at g
        · show _ = some (PyData.bool (even (a + b)))
          unfold g__law_is_shape runP f__law_is_shape
          simp -implicitDefEqProofs only [rvs, eq_self, gNm, and_self, owk, List.getElem?_cons_zero, List.getElem?_cons_succ, List.length_cons, List.length_nil, List.set_cons_zero, List.set_cons_succ, List.map_cons, List.map_nil, List.cons_append, List.nil_append, List.replicate_succ, List.replicate_zero, Nat.reduceAdd, Nat.reduceSub, Nat.reduceLT, Nat.reduceEqDiff, Option.bind_some, Option.bind_none, Option.map_some, Option.map_none, if_true, if_false, ite_true, ite_false, ↓reduceIte, Bool.not_true, Bool.not_false, ist, iss, ln, l1, i0, i1, i2, slT_ok, c1, it, r_lck sz, wipeR, lc, backR, n0, s0, s2, s6, e34, nf, b0, b1, x0, x1, f_band_band, f_band_fan, f_band_torus, f_band_klein, f_band_tube, g_band, h_band, f_board_band, f_board_fan, f_board_torus, f_board_klein, f_board_tube, g_board, h_board, f_fan_band, f_fan_fan, f_fan_torus, f_fan_klein, f_fan_tube, g_fan, h_fan, f_klein_band, f_klein_fan, f_klein_torus, f_klein_klein, f_klein_tube, g_klein, h_klein, f_tube_band, f_tube_fan, f_tube_torus, f_tube_klein, f_tube_tube, g_tube, h_tube, f_torus_band, f_torus_fan, f_torus_torus, f_torus_klein, f_torus_tube, g_torus, h_torus, q1, q2, m1, m2, m3, g, ma, mb, pr]
        · show _ = some (PyData.bool true)
          unfold g__law_is_shape runP f__law_is_shape
          simp -implicitDefEqProofs only [rvs, eq_self, gNm, and_self, owk, List.getElem?_cons_zero, List.getElem?_cons_succ, List.length_cons, List.length_nil, List.set_cons_zero, List.set_cons_succ, List.map_cons, List.map_nil, List.cons_append, List.nil_append, List.replicate_succ, List.replicate_zero, Nat.reduceAdd, Nat.reduceSub, Nat.reduceLT, Nat.reduceEqDiff, Option.bind_some, Option.bind_none, Option.map_some, Option.map_none, if_true, if_false, ite_true, ite_false, ↓reduceIte, Bool.not_true, Bool.not_false, ist, iss, ln, l1, i0, i1, i2, slT_ok, c1, it, r_lck sz, wipeR, lc, backR, n0, s0, s2, s6, e34, nf, b0, b1, x0, x1, f_band_band, f_band_fan, f_band_torus, f_band_klein, f_band_tube, g_band, h_band, f_board_band, f_board_fan, f_board_torus, f_board_klein, f_board_tube, g_board, h_board, f_fan_band, f_fan_fan, f_fan_torus, f_fan_klein, f_fan_tube, g_fan, h_fan, f_klein_band, f_klein_fan, f_klein_torus, f_klein_klein, f_klein_tube, g_klein, h_klein, f_tube_band, f_tube_fan, f_tube_torus, f_tube_klein, f_tube_tube, g_tube, h_tube, f_torus_band, f_torus_fan, f_torus_torus, f_torus_klein, f_torus_tube, g_torus, h_torus, q1, q2, m1, m2, m3, g]
        · show _ = some (PyData.bool true)
          unfold g__law_is_shape runP f__law_is_shape
          simp -implicitDefEqProofs only [rvs, eq_self, gNm, and_self, owk, List.getElem?_cons_zero, List.getElem?_cons_succ, List.length_cons, List.length_nil, List.set_cons_zero, List.set_cons_succ, List.map_cons, List.map_nil, List.cons_append, List.nil_append, List.replicate_succ, List.replicate_zero, Nat.reduceAdd, Nat.reduceSub, Nat.reduceLT, Nat.reduceEqDiff, Option.bind_some, Option.bind_none, Option.map_some, Option.map_none, if_true, if_false, ite_true, ite_false, ↓reduceIte, Bool.not_true, Bool.not_false, ist, iss, ln, l1, i0, i1, i2, slT_ok, c1, it, r_lck sz, wipeR, lc, backR, n0, s0, s2, s6, e34, nf, b0, b1, x0, x1, f_band_band, f_band_fan, f_band_torus, f_band_klein, f_band_tube, g_band, h_band, f_board_band, f_board_fan, f_board_torus, f_board_klein, f_board_tube, g_board, h_board, f_fan_band, f_fan_fan, f_fan_torus, f_fan_klein, f_fan_tube, g_fan, h_fan, f_klein_band, f_klein_fan, f_klein_torus, f_klein_klein, f_klein_tube, g_klein, h_klein, f_tube_band, f_tube_fan, f_tube_torus, f_tube_klein, f_tube_tube, g_tube, h_tube, f_torus_band, f_torus_fan, f_torus_torus, f_torus_klein, f_torus_tube, g_torus, h_torus, q1, q2, m1, m2, m3, g]
        · show _ = some (PyData.bool (even a && even b))
          cases hq : even b
          · rw [hq] at ob
            rw [Bool.and_false]
            unfold g__law_is_shape runP f__law_is_shape
            simp -implicitDefEqProofs only [rvs, eq_self, gNm, and_self, owk, List.getElem?_cons_zero, List.getElem?_cons_succ, List.length_cons, List.length_nil, List.set_cons_zero, List.set_cons_succ, List.map_cons, List.map_nil, List.cons_append, List.nil_append, List.replicate_succ, List.replicate_zero, Nat.reduceAdd, Nat.reduceSub, Nat.reduceLT, Nat.reduceEqDiff, Option.bind_some, Option.bind_none, Option.map_some, Option.map_none, if_true, if_false, ite_true, ite_false, ↓reduceIte, Bool.not_true, Bool.not_false, ist, iss, ln, l1, i0, i1, i2, slT_ok, c1, it, r_lck sz, wipeR, lc, backR, n0, s0, s2, s6, e34, nf, b0, b1, x0, x1, f_band_band, f_band_fan, f_band_torus, f_band_klein, f_band_tube, g_band, h_band, f_board_band, f_board_fan, f_board_torus, f_board_klein, f_board_tube, g_board, h_board, f_fan_band, f_fan_fan, f_fan_torus, f_fan_klein, f_fan_tube, g_fan, h_fan, f_klein_band, f_klein_fan, f_klein_torus, f_klein_klein, f_klein_tube, g_klein, h_klein, f_tube_band, f_tube_fan, f_tube_torus, f_tube_klein, f_tube_tube, g_tube, h_tube, f_torus_band, f_torus_fan, f_torus_torus, f_torus_klein, f_torus_tube, g_torus, h_torus, q1, q2, m1, m2, m3, g, ma, mb, ob]
          · rw [hq] at ob
            rw [Bool.and_true]
            cases hp : even a
            · rw [hp] at oa
              unfold g__law_is_shape runP f__law_is_shape
              simp -implicitDefEqProofs only [rvs, eq_self, gNm, and_self, owk, List.getElem?_cons_zero, List.getElem?_cons_succ, List.length_cons, List.length_nil, List.set_cons_zero, List.set_cons_succ, List.map_cons, List.map_nil, List.cons_append, List.nil_append, List.replicate_succ, List.replicate_zero, Nat.reduceAdd, Nat.reduceSub, Nat.reduceLT, Nat.reduceEqDiff, Option.bind_some, Option.bind_none, Option.map_some, Option.map_none, if_true, if_false, ite_true, ite_false, ↓reduceIte, Bool.not_true, Bool.not_false, ist, iss, ln, l1, i0, i1, i2, slT_ok, c1, it, r_lck sz, wipeR, lc, backR, n0, s0, s2, s6, e34, nf, b0, b1, x0, x1, f_band_band, f_band_fan, f_band_torus, f_band_klein, f_band_tube, g_band, h_band, f_board_band, f_board_fan, f_board_torus, f_board_klein, f_board_tube, g_board, h_board, f_fan_band, f_fan_fan, f_fan_torus, f_fan_klein, f_fan_tube, g_fan, h_fan, f_klein_band, f_klein_fan, f_klein_torus, f_klein_klein, f_klein_tube, g_klein, h_klein, f_tube_band, f_tube_fan, f_tube_torus, f_tube_klein, f_tube_tube, g_tube, h_tube, f_torus_band, f_torus_fan, f_torus_torus, f_torus_klein, f_torus_tube, g_torus, h_torus, q1, q2, m1, m2, m3, g, ma, mb, ob, oa]
            · rw [hp] at oa
              unfold g__law_is_shape runP f__law_is_shape
              simp -implicitDefEqProofs only [rvs, eq_self, gNm, and_self, owk, List.getElem?_cons_zero, List.getElem?_cons_succ, List.length_cons, List.length_nil, List.set_cons_zero, List.set_cons_succ, List.map_cons, List.map_nil, List.cons_append, List.nil_append, List.replicate_succ, List.replicate_zero, Nat.reduceAdd, Nat.reduceSub, Nat.reduceLT, Nat.reduceEqDiff, Option.bind_some, Option.bind_none, Option.map_some, Option.map_none, if_true, if_false, ite_true, ite_false, ↓reduceIte, Bool.not_true, Bool.not_false, ist, iss, ln, l1, i0, i1, i2, slT_ok, c1, it, r_lck sz, wipeR, lc, backR, n0, s0, s2, s6, e34, nf, b0, b1, x0, x1, f_band_band, f_band_fan, f_band_torus, f_band_klein, f_band_tube, g_band, h_band, f_board_band, f_board_fan, f_board_torus, f_board_klein, f_board_tube, g_board, h_board, f_fan_band, f_fan_fan, f_fan_torus, f_fan_klein, f_fan_tube, g_fan, h_fan, f_klein_band, f_klein_fan, f_klein_torus, f_klein_klein, f_klein_tube, g_klein, h_klein, f_tube_band, f_tube_fan, f_tube_torus, f_tube_klein, f_tube_tube, g_tube, h_tube, f_torus_band, f_torus_fan, f_torus_torus, f_torus_klein, f_torus_tube, g_torus, h_torus, q1, q2, m1, m2, m3, g, ma, mb, ob, oa, e33]
        · show _ = some (PyData.bool (even b))
          cases hq : even b
          · rw [hq] at ob
            unfold g__law_is_shape runP f__law_is_shape
            simp -implicitDefEqProofs only [rvs, eq_self, gNm, and_self, owk, List.getElem?_cons_zero, List.getElem?_cons_succ, List.length_cons, List.length_nil, List.set_cons_zero, List.set_cons_succ, List.map_cons, List.map_nil, List.cons_append, List.nil_append, List.replicate_succ, List.replicate_zero, Nat.reduceAdd, Nat.reduceSub, Nat.reduceLT, Nat.reduceEqDiff, Option.bind_some, Option.bind_none, Option.map_some, Option.map_none, if_true, if_false, ite_true, ite_false, ↓reduceIte, Bool.not_true, Bool.not_false, ist, iss, ln, l1, i0, i1, i2, slT_ok, c1, it, r_lck sz, wipeR, lc, backR, n0, s0, s2, s6, e34, nf, b0, b1, x0, x1, f_band_band, f_band_fan, f_band_torus, f_band_klein, f_band_tube, g_band, h_band, f_board_band, f_board_fan, f_board_torus, f_board_klein, f_board_tube, g_board, h_board, f_fan_band, f_fan_fan, f_fan_torus, f_fan_klein, f_fan_tube, g_fan, h_fan, f_klein_band, f_klein_fan, f_klein_torus, f_klein_klein, f_klein_tube, g_klein, h_klein, f_tube_band, f_tube_fan, f_tube_torus, f_tube_klein, f_tube_tube, g_tube, h_tube, f_torus_band, f_torus_fan, f_torus_torus, f_torus_klein, f_torus_tube, g_torus, h_torus, q1, q2, m1, m2, m3, g, ma, mb, ob]
          · rw [hq] at ob
            unfold g__law_is_shape runP f__law_is_shape
            simp -implicitDefEqProofs only [rvs, eq_self, gNm, and_self, owk, List.getElem?_cons_zero, List.getElem?_cons_succ, List.length_cons, List.length_nil, List.set_cons_zero, List.set_cons_succ, List.map_cons, List.map_nil, List.cons_append, List.nil_append, List.replicate_succ, List.replicate_zero, Nat.reduceAdd, Nat.reduceSub, Nat.reduceLT, Nat.reduceEqDiff, Option.bind_some, Option.bind_none, Option.map_some, Option.map_none, if_true, if_false, ite_true, ite_false, ↓reduceIte, Bool.not_true, Bool.not_false, ist, iss, ln, l1, i0, i1, i2, slT_ok, c1, it, r_lck sz, wipeR, lc, backR, n0, s0, s2, s6, e34, nf, b0, b1, x0, x1, f_band_band, f_band_fan, f_band_torus, f_band_klein, f_band_tube, g_band, h_band, f_board_band, f_board_fan, f_board_torus, f_board_klein, f_board_tube, g_board, h_board, f_fan_band, f_fan_fan, f_fan_torus, f_fan_klein, f_fan_tube, g_fan, h_fan, f_klein_band, f_klein_fan, f_klein_torus, f_klein_klein, f_klein_tube, g_klein, h_klein, f_tube_band, f_tube_fan, f_tube_torus, f_tube_klein, f_tube_tube, g_tube, h_tube, f_torus_band, f_torus_fan, f_torus_torus, f_torus_klein, f_torus_tube, g_torus, h_torus, q1, q2, m1, m2, m3, g, ma, mb, ob, e33]
end Lw

set_option Elab.async false
set_option linter.all false
set_option maxRecDepth 100000
set_option maxHeartbeats 8000000
namespace Lw
open PySem PySem.Spec PyProof.Rows L2 Tw
theorem both_three {a b c : Int} (ha : Sm a) (hb : Sm b) (hc : Sm c) : g_is_shape [.tuple [.str "torus", .int a, .int b, .int c]] = some (.bool (three4 a b c)) ∧ g__law_is_shape [.tuple [.str "torus", .int a, .int b, .int c]] = some (.bool (three4 a b c)) := by
  have ist : isiD "tuple" (.tuple [.str "torus", .int a, .int b, .int c]) = some (.bool true) := rfl
  have iss : isiD "str" (.str "torus") = some (.bool true) := rfl
  have ln : lenD [.tuple [.str "torus", .int a, .int b, .int c]] = some (.int 4) := rfl
  have l1 : leI (.int 3) (.int 4) = some (.bool true) := rfl
  have l2 : leI (.int 4) (.int 4) = some (.bool true) := rfl
  have l3 : inD true (.int 4) (.tuple [.int 3, .int 4]) = some (.bool false) := rfl
  have i0 : ixD (.tuple [.str "torus", .int a, .int b, .int c]) (.int 0) = some (.str "torus") := ixT0
  have i1 : ixD (.tuple [.str "torus", .int a, .int b, .int c]) (.int 1) = some (.int a) := ixT1
  have i2 : ixD (.tuple [.str "torus", .int a, .int b, .int c]) (.int 2) = some (.int b) := ixTn (k := 2) rfl
  have i3 : ixD (.tuple [.str "torus", .int a, .int b, .int c]) (.int 3) = some (.int c) := ixTn (k := 3) rfl
  have nt : ninT (.str "torus") shapesT = some (.bool false) := rfl
  have c1 : Tw.cutD [.str "torus", .int a, .int b, .int c] (some 1) none = [a, b, c].map PyData.int := rfl
  have c2 : Tw.cutD [.str "torus", .int a, .int b, .int c] none (some 3) = [.str "torus", .int a, .int b] := rfl
  have it : itemsOf (.tuple ([a, b, c].map PyData.int)) = some ([a, b, c].map PyData.int) := rfl
  have sz : Tw.sizeOk ([a, b, c].map PyData.int).length = true := rfl
  have lc := wholes_lc (.d (.tuple [.str "torus", .int a, .int b, .int c])) .un .un .un [a, b, c]
  have lo := odds_lc (.d (.tuple [.str "torus", .int a, .int b, .int c])) .un [a, b, c]
  have al : allD [.list [.bool true, .bool true, .bool true]] = some (.bool true) := rfl
  have n44 : neD (.int 4) (.int 4) = some (.bool false) := rfl
  have n0 : neD (.list []) (.list []) = some (.bool false) := rfl
  have s0 : Tw.sizeOk 0 = true := rfl
  have s2 : Tw.sizeOk 2 = true := rfl
  have s6 : Tw.sizeOk 6 = true := rfl
  have e44 : eqD (.int 4) (.int 4) = some (.bool true) := rfl
  have e43 : eqD (.int 4) (.int 3) = some (.bool false) := rfl
  have nf : neD (.bool true) (.bool true) = some (.bool false) := rfl
  have b0 : intD [.bool false] = some (.int 0) := rfl
  have x0 : ixD (.list [.int 1, .int b]) (.int 0) = some (.int 1) := ixLn (k := 0) rfl
  have q1 := lt_int a 1
  have q2 := lt_int b 1
  have zc : leI (.int 0) (.int c) = some (.bool (decide (0 ≤ c))) := le_int 0 c
  have zb : ltD (.int c) (.int b) = some (.bool (decide (c < b))) := lt_int c b
  have mb := mod2 b
  have mac := mod2 (a + c)
  have ad : addD (.int a) (.int c) = some (.int (a + c)) := rfl
  have eb := even_eq b
  have eac := even_eq (a + c)
  have ob := odd_eq b
  generalize hL : [a, b, c].map PyData.int = L at c1 it sz lc lo
  unfold three4
  by_cases a1 : a < 1
  · rw [decide_eq_true a1] at q1
    rw [decide_eq_false (by omega : ¬ 1 ≤ a), Bool.false_and, Bool.false_and, Bool.false_and, Bool.false_and, Bool.false_and]
    exact ⟨by unfold g_is_shape runP f_is_shape; simp -implicitDefEqProofs only [rvs, eq_self, gNm, and_self, owk, List.getElem?_cons_zero, List.getElem?_cons_succ, List.length_cons, List.length_nil, List.set_cons_zero, List.set_cons_succ, List.map_cons, List.map_nil, List.cons_append, List.nil_append, List.replicate_succ, List.replicate_zero, Nat.reduceAdd, Nat.reduceSub, Nat.reduceLT, Nat.reduceEqDiff, Option.bind_some, Option.bind_none, Option.map_some, Option.map_none, if_true, if_false, ite_true, ite_false, ↓reduceIte, Bool.not_true, Bool.not_false, ist, ln, l1, l2, i0, i3, nt, slT_ok, c1, c2, it, r_lck sz, wipeR, lc, backR, al, n44, f_torus_torus, f_torus_fan, f_torus_tube, q1], by unfold g__law_is_shape runP f__law_is_shape; simp -implicitDefEqProofs only [rvs, eq_self, gNm, and_self, owk, List.getElem?_cons_zero, List.getElem?_cons_succ, List.length_cons, List.length_nil, List.set_cons_zero, List.set_cons_succ, List.map_cons, List.map_nil, List.cons_append, List.nil_append, List.replicate_succ, List.replicate_zero, Nat.reduceAdd, Nat.reduceSub, Nat.reduceLT, Nat.reduceEqDiff, Option.bind_some, Option.bind_none, Option.map_some, Option.map_none, if_true, if_false, ite_true, ite_false, ↓reduceIte, Bool.not_true, Bool.not_false, ist, iss, ln, l3, i0, i1, i2, i3, slT_ok, c1, it, r_lck sz, wipeR, lo, backR, n0, s0, s2, s6, e44, e43, nf, b0, x0, f_torus_torus, f_torus_fan, f_torus_band, f_torus_klein, g_torus, h_torus, q1]⟩
  · rw [decide_eq_false a1] at q1
    rw [decide_eq_true (by omega : 1 ≤ a), Bool.true_and]
    by_cases b1' : b < 1
    · rw [decide_eq_true b1'] at q2
      rw [decide_eq_false (by omega : ¬ 1 ≤ b), Bool.false_and, Bool.false_and, Bool.false_and, Bool.false_and]
      exact ⟨by unfold g_is_shape runP f_is_shape; simp -implicitDefEqProofs only [rvs, eq_self, gNm, and_self, owk, List.getElem?_cons_zero, List.getElem?_cons_succ, List.length_cons, List.length_nil, List.set_cons_zero, List.set_cons_succ, List.map_cons, List.map_nil, List.cons_append, List.nil_append, List.replicate_succ, List.replicate_zero, Nat.reduceAdd, Nat.reduceSub, Nat.reduceLT, Nat.reduceEqDiff, Option.bind_some, Option.bind_none, Option.map_some, Option.map_none, if_true, if_false, ite_true, ite_false, ↓reduceIte, Bool.not_true, Bool.not_false, ist, ln, l1, l2, i0, i3, nt, slT_ok, c1, c2, it, r_lck sz, wipeR, lc, backR, al, n44, f_torus_torus, f_torus_fan, f_torus_tube, q1, q2], by unfold g__law_is_shape runP f__law_is_shape; simp -implicitDefEqProofs only [rvs, eq_self, gNm, and_self, owk, List.getElem?_cons_zero, List.getElem?_cons_succ, List.length_cons, List.length_nil, List.set_cons_zero, List.set_cons_succ, List.map_cons, List.map_nil, List.cons_append, List.nil_append, List.replicate_succ, List.replicate_zero, Nat.reduceAdd, Nat.reduceSub, Nat.reduceLT, Nat.reduceEqDiff, Option.bind_some, Option.bind_none, Option.map_some, Option.map_none, if_true, if_false, ite_true, ite_false, ↓reduceIte, Bool.not_true, Bool.not_false, ist, iss, ln, l3, i0, i1, i2, i3, slT_ok, c1, it, r_lck sz, wipeR, lo, backR, n0, s0, s2, s6, e44, e43, nf, b0, x0, f_torus_torus, f_torus_fan, f_torus_band, f_torus_klein, g_torus, h_torus, q1, q2]⟩
    · rw [decide_eq_false b1'] at q2
      rw [decide_eq_true (by omega : 1 ≤ b), Bool.true_and]
      obtain ⟨ha1, ha2⟩ := ha
      obtain ⟨hb1, hb2⟩ := hb
      obtain ⟨p0, p1⟩ := mul_lt (a := a) (b := b) (by omega) ha2 (by omega) hb2
      have e400 : (2 : Int) ^ 200 < 2 ^ 400 := by decide +kernel
      have m1 := mul_big (i := a) (j := b) (by omega) (by omega) (by omega) hb2
      have m3 := mul_big (i := a * b) (j := 1) p0 p1 (by decide) (by decide)
      have g := gt_int (a * b * 1) 60
      by_cases big : a * b * 1 > 60
      · rw [decide_eq_true big] at g
        rw [decide_eq_false (by omega : ¬ a * b ≤ 60), Bool.false_and, Bool.false_and, Bool.false_and]
        exact ⟨by unfold g_is_shape runP f_is_shape; simp -implicitDefEqProofs only [rvs, eq_self, gNm, and_self, owk, List.getElem?_cons_zero, List.getElem?_cons_succ, List.length_cons, List.length_nil, List.set_cons_zero, List.set_cons_succ, List.map_cons, List.map_nil, List.cons_append, List.nil_append, List.replicate_succ, List.replicate_zero, Nat.reduceAdd, Nat.reduceSub, Nat.reduceLT, Nat.reduceEqDiff, Option.bind_some, Option.bind_none, Option.map_some, Option.map_none, if_true, if_false, ite_true, ite_false, ↓reduceIte, Bool.not_true, Bool.not_false, ist, ln, l1, l2, i0, i3, nt, slT_ok, c1, c2, it, r_lck sz, wipeR, lc, backR, al, n44, f_torus_torus, f_torus_fan, f_torus_tube, q1, q2, m1, m3, g], by unfold g__law_is_shape runP f__law_is_shape; simp -implicitDefEqProofs only [rvs, eq_self, gNm, and_self, owk, List.getElem?_cons_zero, List.getElem?_cons_succ, List.length_cons, List.length_nil, List.set_cons_zero, List.set_cons_succ, List.map_cons, List.map_nil, List.cons_append, List.nil_append, List.replicate_succ, List.replicate_zero, Nat.reduceAdd, Nat.reduceSub, Nat.reduceLT, Nat.reduceEqDiff, Option.bind_some, Option.bind_none, Option.map_some, Option.map_none, if_true, if_false, ite_true, ite_false, ↓reduceIte, Bool.not_true, Bool.not_false, ist, iss, ln, l3, i0, i1, i2, i3, slT_ok, c1, it, r_lck sz, wipeR, lo, backR, n0, s0, s2, s6, e44, e43, nf, b0, x0, f_torus_torus, f_torus_fan, f_torus_band, f_torus_klein, g_torus, h_torus, q1, q2, m1, m3, g]⟩
      · rw [decide_eq_false big] at g
        rw [decide_eq_true (by omega : a * b ≤ 60), Bool.true_and]
        cases hq : even b
        · rw [hq] at eb ob
          rw [Bool.false_and, Bool.false_and]
          exact ⟨by unfold g_is_shape runP f_is_shape; simp -implicitDefEqProofs only [rvs, eq_self, gNm, and_self, owk, List.getElem?_cons_zero, List.getElem?_cons_succ, List.length_cons, List.length_nil, List.set_cons_zero, List.set_cons_succ, List.map_cons, List.map_nil, List.cons_append, List.nil_append, List.replicate_succ, List.replicate_zero, Nat.reduceAdd, Nat.reduceSub, Nat.reduceLT, Nat.reduceEqDiff, Option.bind_some, Option.bind_none, Option.map_some, Option.map_none, if_true, if_false, ite_true, ite_false, ↓reduceIte, Bool.not_true, Bool.not_false, ist, ln, l1, l2, i0, i3, nt, slT_ok, c1, c2, it, r_lck sz, wipeR, lc, backR, al, n44, f_torus_torus, f_torus_fan, f_torus_tube, q1, q2, m1, m3, g, mb, eb], by unfold g__law_is_shape runP f__law_is_shape; simp -implicitDefEqProofs only [rvs, eq_self, gNm, and_self, owk, List.getElem?_cons_zero, List.getElem?_cons_succ, List.length_cons, List.length_nil, List.set_cons_zero, List.set_cons_succ, List.map_cons, List.map_nil, List.cons_append, List.nil_append, List.replicate_succ, List.replicate_zero, Nat.reduceAdd, Nat.reduceSub, Nat.reduceLT, Nat.reduceEqDiff, Option.bind_some, Option.bind_none, Option.map_some, Option.map_none, if_true, if_false, ite_true, ite_false, ↓reduceIte, Bool.not_true, Bool.not_false, ist, iss, ln, l3, i0, i1, i2, i3, slT_ok, c1, it, r_lck sz, wipeR, lo, backR, n0, s0, s2, s6, e44, e43, nf, b0, x0, f_torus_torus, f_torus_fan, f_torus_band, f_torus_klein, g_torus, h_torus, q1, q2, m1, m3, g, mb, ob]⟩
        · rw [hq] at eb ob
          rw [Bool.true_and]
          by_cases c0 : 0 ≤ c
          · rw [decide_eq_true c0] at zc
            by_cases cb : c < b
            · rw [decide_eq_true cb] at zb
              rw [decide_eq_true ⟨c0, cb⟩, Bool.true_and]
              exact ⟨by unfold g_is_shape runP f_is_shape; simp -implicitDefEqProofs only [rvs, eq_self, gNm, and_self, owk, List.getElem?_cons_zero, List.getElem?_cons_succ, List.length_cons, List.length_nil, List.set_cons_zero, List.set_cons_succ, List.map_cons, List.map_nil, List.cons_append, List.nil_append, List.replicate_succ, List.replicate_zero, Nat.reduceAdd, Nat.reduceSub, Nat.reduceLT, Nat.reduceEqDiff, Option.bind_some, Option.bind_none, Option.map_some, Option.map_none, if_true, if_false, ite_true, ite_false, ↓reduceIte, Bool.not_true, Bool.not_false, ist, ln, l1, l2, i0, i3, nt, slT_ok, c1, c2, it, r_lck sz, wipeR, lc, backR, al, n44, f_torus_torus, f_torus_fan, f_torus_tube, q1, q2, m1, m3, g, mb, eb, zc, zb, mac, eac, ad], by unfold g__law_is_shape runP f__law_is_shape; simp -implicitDefEqProofs only [rvs, eq_self, gNm, and_self, owk, List.getElem?_cons_zero, List.getElem?_cons_succ, List.length_cons, List.length_nil, List.set_cons_zero, List.set_cons_succ, List.map_cons, List.map_nil, List.cons_append, List.nil_append, List.replicate_succ, List.replicate_zero, Nat.reduceAdd, Nat.reduceSub, Nat.reduceLT, Nat.reduceEqDiff, Option.bind_some, Option.bind_none, Option.map_some, Option.map_none, if_true, if_false, ite_true, ite_false, ↓reduceIte, Bool.not_true, Bool.not_false, ist, iss, ln, l3, i0, i1, i2, i3, slT_ok, c1, it, r_lck sz, wipeR, lo, backR, n0, s0, s2, s6, e44, e43, nf, b0, x0, f_torus_torus, f_torus_fan, f_torus_band, f_torus_klein, g_torus, h_torus, q1, q2, m1, m3, g, mb, ob, zc, zb, mac, eac, ad]⟩
            · rw [decide_eq_false cb] at zb
              rw [decide_eq_false (fun z => cb z.2), Bool.false_and]
              exact ⟨by unfold g_is_shape runP f_is_shape; simp -implicitDefEqProofs only [rvs, eq_self, gNm, and_self, owk, List.getElem?_cons_zero, List.getElem?_cons_succ, List.length_cons, List.length_nil, List.set_cons_zero, List.set_cons_succ, List.map_cons, List.map_nil, List.cons_append, List.nil_append, List.replicate_succ, List.replicate_zero, Nat.reduceAdd, Nat.reduceSub, Nat.reduceLT, Nat.reduceEqDiff, Option.bind_some, Option.bind_none, Option.map_some, Option.map_none, if_true, if_false, ite_true, ite_false, ↓reduceIte, Bool.not_true, Bool.not_false, ist, ln, l1, l2, i0, i3, nt, slT_ok, c1, c2, it, r_lck sz, wipeR, lc, backR, al, n44, f_torus_torus, f_torus_fan, f_torus_tube, q1, q2, m1, m3, g, mb, eb, zc, zb], by unfold g__law_is_shape runP f__law_is_shape; simp -implicitDefEqProofs only [rvs, eq_self, gNm, and_self, owk, List.getElem?_cons_zero, List.getElem?_cons_succ, List.length_cons, List.length_nil, List.set_cons_zero, List.set_cons_succ, List.map_cons, List.map_nil, List.cons_append, List.nil_append, List.replicate_succ, List.replicate_zero, Nat.reduceAdd, Nat.reduceSub, Nat.reduceLT, Nat.reduceEqDiff, Option.bind_some, Option.bind_none, Option.map_some, Option.map_none, if_true, if_false, ite_true, ite_false, ↓reduceIte, Bool.not_true, Bool.not_false, ist, iss, ln, l3, i0, i1, i2, i3, slT_ok, c1, it, r_lck sz, wipeR, lo, backR, n0, s0, s2, s6, e44, e43, nf, b0, x0, f_torus_torus, f_torus_fan, f_torus_band, f_torus_klein, g_torus, h_torus, q1, q2, m1, m3, g, mb, ob, zc, zb]⟩
          · rw [decide_eq_false c0] at zc
            rw [decide_eq_false (fun z => c0 z.1), Bool.false_and]
            exact ⟨by unfold g_is_shape runP f_is_shape; simp -implicitDefEqProofs only [rvs, eq_self, gNm, and_self, owk, List.getElem?_cons_zero, List.getElem?_cons_succ, List.length_cons, List.length_nil, List.set_cons_zero, List.set_cons_succ, List.map_cons, List.map_nil, List.cons_append, List.nil_append, List.replicate_succ, List.replicate_zero, Nat.reduceAdd, Nat.reduceSub, Nat.reduceLT, Nat.reduceEqDiff, Option.bind_some, Option.bind_none, Option.map_some, Option.map_none, if_true, if_false, ite_true, ite_false, ↓reduceIte, Bool.not_true, Bool.not_false, ist, ln, l1, l2, i0, i3, nt, slT_ok, c1, c2, it, r_lck sz, wipeR, lc, backR, al, n44, f_torus_torus, f_torus_fan, f_torus_tube, q1, q2, m1, m3, g, mb, eb, zc], by unfold g__law_is_shape runP f__law_is_shape; simp -implicitDefEqProofs only [rvs, eq_self, gNm, and_self, owk, List.getElem?_cons_zero, List.getElem?_cons_succ, List.length_cons, List.length_nil, List.set_cons_zero, List.set_cons_succ, List.map_cons, List.map_nil, List.cons_append, List.nil_append, List.replicate_succ, List.replicate_zero, Nat.reduceAdd, Nat.reduceSub, Nat.reduceLT, Nat.reduceEqDiff, Option.bind_some, Option.bind_none, Option.map_some, Option.map_none, if_true, if_false, ite_true, ite_false, ↓reduceIte, Bool.not_true, Bool.not_false, ist, iss, ln, l3, i0, i1, i2, i3, slT_ok, c1, it, r_lck sz, wipeR, lo, backR, n0, s0, s2, s6, e44, e43, nf, b0, x0, f_torus_torus, f_torus_fan, f_torus_band, f_torus_klein, g_torus, h_torus, q1, q2, m1, m3, g, mb, ob, zc]⟩
/-! what is no shape for its parts -/
def wh : PyData → Bool
  | .int _ => true
  | _ => false
theorem whole_any (p : PyData) : g_is_whole [p] = some (.bool (wh p)) := by
  cases p with
  | int i => exact whole_int i
  | bool b =>
    have w1 : isiD "int" (.bool b) = some (.bool true) := rfl
    have w2 : isiD "bool" (.bool b) = some (.bool true) := rfl
    unfold g_is_whole runP f_is_whole
    simp -implicitDefEqProofs only [rvs, eq_self, gNm, and_self, owk, List.getElem?_cons_zero, List.getElem?_cons_succ, List.length_cons, List.length_nil, List.set_cons_zero, List.set_cons_succ, List.map_cons, List.map_nil, List.cons_append, List.nil_append, List.replicate_succ, List.replicate_zero, Nat.reduceAdd, Nat.reduceSub, Nat.reduceLT, Nat.reduceEqDiff, Option.bind_some, Option.bind_none, Option.map_some, Option.map_none, if_true, if_false, ite_true, ite_false, ↓reduceIte, Bool.not_true, Bool.not_false, w1, w2]
    rfl
  | none => have w1 : isiD "int" .none = some (.bool false) := rfl
            unfold g_is_whole runP f_is_whole
            simp -implicitDefEqProofs only [rvs, eq_self, gNm, and_self, owk, List.getElem?_cons_zero, List.getElem?_cons_succ, List.length_cons, List.length_nil, List.set_cons_zero, List.set_cons_succ, List.map_cons, List.map_nil, List.cons_append, List.nil_append, List.replicate_succ, List.replicate_zero, Nat.reduceAdd, Nat.reduceSub, Nat.reduceLT, Nat.reduceEqDiff, Option.bind_some, Option.bind_none, Option.map_some, Option.map_none, if_true, if_false, ite_true, ite_false, ↓reduceIte, Bool.not_true, Bool.not_false, w1]
            rfl
  | str x => have w1 : isiD "int" (.str x) = some (.bool false) := rfl
             unfold g_is_whole runP f_is_whole
             simp -implicitDefEqProofs only [rvs, eq_self, gNm, and_self, owk, List.getElem?_cons_zero, List.getElem?_cons_succ, List.length_cons, List.length_nil, List.set_cons_zero, List.set_cons_succ, List.map_cons, List.map_nil, List.cons_append, List.nil_append, List.replicate_succ, List.replicate_zero, Nat.reduceAdd, Nat.reduceSub, Nat.reduceLT, Nat.reduceEqDiff, Option.bind_some, Option.bind_none, Option.map_some, Option.map_none, if_true, if_false, ite_true, ite_false, ↓reduceIte, Bool.not_true, Bool.not_false, w1]
             rfl
  | tuple x => have w1 : isiD "int" (.tuple x) = some (.bool false) := rfl
               unfold g_is_whole runP f_is_whole
               simp -implicitDefEqProofs only [rvs, eq_self, gNm, and_self, owk, List.getElem?_cons_zero, List.getElem?_cons_succ, List.length_cons, List.length_nil, List.set_cons_zero, List.set_cons_succ, List.map_cons, List.map_nil, List.cons_append, List.nil_append, List.replicate_succ, List.replicate_zero, Nat.reduceAdd, Nat.reduceSub, Nat.reduceLT, Nat.reduceEqDiff, Option.bind_some, Option.bind_none, Option.map_some, Option.map_none, if_true, if_false, ite_true, ite_false, ↓reduceIte, Bool.not_true, Bool.not_false, w1]
               rfl
  | list x => have w1 : isiD "int" (.list x) = some (.bool false) := rfl
              unfold g_is_whole runP f_is_whole
              simp -implicitDefEqProofs only [rvs, eq_self, gNm, and_self, owk, List.getElem?_cons_zero, List.getElem?_cons_succ, List.length_cons, List.length_nil, List.set_cons_zero, List.set_cons_succ, List.map_cons, List.map_nil, List.cons_append, List.nil_append, List.replicate_succ, List.replicate_zero, Nat.reduceAdd, Nat.reduceSub, Nat.reduceLT, Nat.reduceEqDiff, Option.bind_some, Option.bind_none, Option.map_some, Option.map_none, if_true, if_false, ite_true, ite_false, ↓reduceIte, Bool.not_true, Bool.not_false, w1]
              rfl
  | dict x => have w1 : isiD "int" (.dict x) = some (.bool false) := rfl
              unfold g_is_whole runP f_is_whole
              simp -implicitDefEqProofs only [rvs, eq_self, gNm, and_self, owk, List.getElem?_cons_zero, List.getElem?_cons_succ, List.length_cons, List.length_nil, List.set_cons_zero, List.set_cons_succ, List.map_cons, List.map_nil, List.cons_append, List.nil_append, List.replicate_succ, List.replicate_zero, Nat.reduceAdd, Nat.reduceSub, Nat.reduceLT, Nat.reduceEqDiff, Option.bind_some, Option.bind_none, Option.map_some, Option.map_none, if_true, if_false, ite_true, ite_false, ↓reduceIte, Bool.not_true, Bool.not_false, w1]
              rfl
def Jd (d : PyData) (z : Bool) : Prop := g_is_shape [d] = some (.bool z) ∧ g__law_is_shape [d] = some (.bool z)
theorem j_not {d : PyData} (h : isiD "tuple" d = some (.bool false)) : Jd d false := by
  refine ⟨?_, ?_⟩
  · unfold g_is_shape runP f_is_shape
    simp -implicitDefEqProofs only [rvs, eq_self, gNm, and_self, owk, List.getElem?_cons_zero, List.getElem?_cons_succ, List.length_cons, List.length_nil, List.set_cons_zero, List.set_cons_succ, List.map_cons, List.map_nil, List.cons_append, List.nil_append, List.replicate_succ, List.replicate_zero, Nat.reduceAdd, Nat.reduceSub, Nat.reduceLT, Nat.reduceEqDiff, Option.bind_some, Option.bind_none, Option.map_some, Option.map_none, if_true, if_false, ite_true, ite_false, ↓reduceIte, Bool.not_true, Bool.not_false, h]
  · unfold g__law_is_shape runP f__law_is_shape
    simp -implicitDefEqProofs only [rvs, eq_self, gNm, and_self, owk, List.getElem?_cons_zero, List.getElem?_cons_succ, List.length_cons, List.length_nil, List.set_cons_zero, List.set_cons_succ, List.map_cons, List.map_nil, List.cons_append, List.nil_append, List.replicate_succ, List.replicate_zero, Nat.reduceAdd, Nat.reduceSub, Nat.reduceLT, Nat.reduceEqDiff, Option.bind_some, Option.bind_none, Option.map_some, Option.map_none, if_true, if_false, ite_true, ite_false, ↓reduceIte, Bool.not_true, Bool.not_false, h]
theorem j_len {ds : List PyData} (h : ds.length < 3 ∨ 4 < ds.length) : Jd (.tuple ds) false := by
  have ist : isiD "tuple" (.tuple ds) = some (.bool true) := rfl
  have ln : lenD [.tuple ds] = some (.int ((ds.length : Nat) : Int)) := rfl
  have s2 : Tw.sizeOk 2 = true := rfl
  have l3 : inD true (.int ((ds.length : Nat) : Int)) (.tuple [.int 3, .int 4]) = some (.bool true) := by
    generalize hn : ((ds.length : Nat) : Int) = n
    have n3 : n ≠ 3 := by omega
    have n4 : n ≠ 4 := by omega
    show some (PyData.bool (!(PyData.eqv (.int 3) (.int n) || (PyData.eqv (.int 4) (.int n) || false)))) = _
    have q3 : PyData.eqv (.int 3) (.int n) = false := by simp [PyData.eqv]; omega
    have q4 : PyData.eqv (.int 4) (.int n) = false := by simp [PyData.eqv]; omega
    rw [q3, q4]
    rfl
  have l1 := le_int 3 ((ds.length : Nat) : Int)
  have l2 := le_int ((ds.length : Nat) : Int) 4
  refine ⟨?_, ?_⟩
  · by_cases c : (3 : Int) ≤ ((ds.length : Nat) : Int)
    · rw [decide_eq_true c] at l1
      rw [decide_eq_false (by omega)] at l2
      unfold g_is_shape runP f_is_shape
      simp -implicitDefEqProofs only [rvs, eq_self, gNm, and_self, owk, List.getElem?_cons_zero, List.getElem?_cons_succ, List.length_cons, List.length_nil, List.set_cons_zero, List.set_cons_succ, List.map_cons, List.map_nil, List.cons_append, List.nil_append, List.replicate_succ, List.replicate_zero, Nat.reduceAdd, Nat.reduceSub, Nat.reduceLT, Nat.reduceEqDiff, Option.bind_some, Option.bind_none, Option.map_some, Option.map_none, if_true, if_false, ite_true, ite_false, ↓reduceIte, Bool.not_true, Bool.not_false, ist, ln, l1, l2]
    · rw [decide_eq_false c] at l1
      unfold g_is_shape runP f_is_shape
      simp -implicitDefEqProofs only [rvs, eq_self, gNm, and_self, owk, List.getElem?_cons_zero, List.getElem?_cons_succ, List.length_cons, List.length_nil, List.set_cons_zero, List.set_cons_succ, List.map_cons, List.map_nil, List.cons_append, List.nil_append, List.replicate_succ, List.replicate_zero, Nat.reduceAdd, Nat.reduceSub, Nat.reduceLT, Nat.reduceEqDiff, Option.bind_some, Option.bind_none, Option.map_some, Option.map_none, if_true, if_false, ite_true, ite_false, ↓reduceIte, Bool.not_true, Bool.not_false, ist, ln, l1]
  · unfold g__law_is_shape runP f__law_is_shape
    simp -implicitDefEqProofs only [rvs, eq_self, gNm, and_self, owk, List.getElem?_cons_zero, List.getElem?_cons_succ, List.length_cons, List.length_nil, List.set_cons_zero, List.set_cons_succ, List.map_cons, List.map_nil, List.cons_append, List.nil_append, List.replicate_succ, List.replicate_zero, Nat.reduceAdd, Nat.reduceSub, Nat.reduceLT, Nat.reduceEqDiff, Option.bind_some, Option.bind_none, Option.map_some, Option.map_none, if_true, if_false, ite_true, ite_false, ↓reduceIte, Bool.not_true, Bool.not_false, ist, ln, s2, l3]
/-- what is no word of shapes -/
def BadW (w : PyData) : Prop := ninT w shapesT = some (.bool true) ∧ (isiD "str" w = some (.bool false) ∨ isiD "str" w = some (.bool true) ∧ inD true w sixL = some (.bool true))
theorem j_word {w : PyData} {ps : List PyData} (hl : ps.length = 2 ∨ ps.length = 3) (h : BadW w) : Jd (.tuple (w :: ps)) false := by
  obtain ⟨h1, h2⟩ := h
  have ist : isiD "tuple" (.tuple (w :: ps)) = some (.bool true) := rfl
  have i0 : ixD (.tuple (w :: ps)) (.int 0) = some w := ixTn (k := 0) rfl
  have s2 : Tw.sizeOk 2 = true := rfl
  have s6 : Tw.sizeOk 6 = true := rfl
  have ln : lenD [.tuple (w :: ps)] = some (.int 3) ∨ lenD [.tuple (w :: ps)] = some (.int 4) := by
    rcases hl with h | h
    · left; show some (PyData.int ((ps.length + 1 : Nat) : Int)) = _; rw [h]; rfl
    · right; show some (PyData.int ((ps.length + 1 : Nat) : Int)) = _; rw [h]; rfl
  have a1 : leI (.int 3) (.int 3) = some (.bool true) := rfl
  have a2 : leI (.int 3) (.int 4) = some (.bool true) := rfl
  have a3 : leI (.int 4) (.int 4) = some (.bool true) := rfl
  have d3 : inD true (.int 3) (.tuple [.int 3, .int 4]) = some (.bool false) := rfl
  have d4 : inD true (.int 4) (.tuple [.int 3, .int 4]) = some (.bool false) := rfl
  refine ⟨?_, ?_⟩
  · rcases ln with ln | ln
    · unfold g_is_shape runP f_is_shape
      simp -implicitDefEqProofs only [rvs, eq_self, gNm, and_self, owk, List.getElem?_cons_zero, List.getElem?_cons_succ, List.length_cons, List.length_nil, List.set_cons_zero, List.set_cons_succ, List.map_cons, List.map_nil, List.cons_append, List.nil_append, List.replicate_succ, List.replicate_zero, Nat.reduceAdd, Nat.reduceSub, Nat.reduceLT, Nat.reduceEqDiff, Option.bind_some, Option.bind_none, Option.map_some, Option.map_none, if_true, if_false, ite_true, ite_false, ↓reduceIte, Bool.not_true, Bool.not_false, ist, ln, a1, a2, a3, i0, h1]
    · unfold g_is_shape runP f_is_shape
      simp -implicitDefEqProofs only [rvs, eq_self, gNm, and_self, owk, List.getElem?_cons_zero, List.getElem?_cons_succ, List.length_cons, List.length_nil, List.set_cons_zero, List.set_cons_succ, List.map_cons, List.map_nil, List.cons_append, List.nil_append, List.replicate_succ, List.replicate_zero, Nat.reduceAdd, Nat.reduceSub, Nat.reduceLT, Nat.reduceEqDiff, Option.bind_some, Option.bind_none, Option.map_some, Option.map_none, if_true, if_false, ite_true, ite_false, ↓reduceIte, Bool.not_true, Bool.not_false, ist, ln, a1, a2, a3, i0, h1]
  · rcases ln with ln | ln <;> rcases h2 with h2 | ⟨h2, h3⟩
    · unfold g__law_is_shape runP f__law_is_shape
      simp -implicitDefEqProofs only [rvs, eq_self, gNm, and_self, owk, List.getElem?_cons_zero, List.getElem?_cons_succ, List.length_cons, List.length_nil, List.set_cons_zero, List.set_cons_succ, List.map_cons, List.map_nil, List.cons_append, List.nil_append, List.replicate_succ, List.replicate_zero, Nat.reduceAdd, Nat.reduceSub, Nat.reduceLT, Nat.reduceEqDiff, Option.bind_some, Option.bind_none, Option.map_some, Option.map_none, if_true, if_false, ite_true, ite_false, ↓reduceIte, Bool.not_true, Bool.not_false, ist, ln, d3, d4, s2, i0, h2]
    · unfold g__law_is_shape runP f__law_is_shape
      simp -implicitDefEqProofs only [rvs, eq_self, gNm, and_self, owk, List.getElem?_cons_zero, List.getElem?_cons_succ, List.length_cons, List.length_nil, List.set_cons_zero, List.set_cons_succ, List.map_cons, List.map_nil, List.cons_append, List.nil_append, List.replicate_succ, List.replicate_zero, Nat.reduceAdd, Nat.reduceSub, Nat.reduceLT, Nat.reduceEqDiff, Option.bind_some, Option.bind_none, Option.map_some, Option.map_none, if_true, if_false, ite_true, ite_false, ↓reduceIte, Bool.not_true, Bool.not_false, ist, ln, d3, d4, s2, i0, h2, s6, h3]
    · unfold g__law_is_shape runP f__law_is_shape
      simp -implicitDefEqProofs only [rvs, eq_self, gNm, and_self, owk, List.getElem?_cons_zero, List.getElem?_cons_succ, List.length_cons, List.length_nil, List.set_cons_zero, List.set_cons_succ, List.map_cons, List.map_nil, List.cons_append, List.nil_append, List.replicate_succ, List.replicate_zero, Nat.reduceAdd, Nat.reduceSub, Nat.reduceLT, Nat.reduceEqDiff, Option.bind_some, Option.bind_none, Option.map_some, Option.map_none, if_true, if_false, ite_true, ite_false, ↓reduceIte, Bool.not_true, Bool.not_false, ist, ln, d3, d4, s2, i0, h2]
    · unfold g__law_is_shape runP f__law_is_shape
      simp -implicitDefEqProofs only [rvs, eq_self, gNm, and_self, owk, List.getElem?_cons_zero, List.getElem?_cons_succ, List.length_cons, List.length_nil, List.set_cons_zero, List.set_cons_succ, List.map_cons, List.map_nil, List.cons_append, List.nil_append, List.replicate_succ, List.replicate_zero, Nat.reduceAdd, Nat.reduceSub, Nat.reduceLT, Nat.reduceEqDiff, Option.bind_some, Option.bind_none, Option.map_some, Option.map_none, if_true, if_false, ite_true, ite_false, ↓reduceIte, Bool.not_true, Bool.not_false, ist, ln, d3, d4, s2, i0, h2, s6, h3]
end Lw

set_option Elab.async false
set_option linter.all false
set_option maxRecDepth 100000
set_option maxHeartbeats 8000000
namespace Lw
open PySem PySem.Spec PyProof.Rows L2 Tw
theorem wh_lc (s0 s1 s2 s3 : Sl) (ps : List PyData) : lcF (gNm 4) (Tw.ret true) (fCall (lenIs 1 g_is_whole) (fCons (fVar 4) fNil)) [4] ps [s0, s1, s2, s3, .un] = some (ps.map fun p => PyData.bool (wh p), [s0, s1, s2, s3, .un]) := by
  have := lc_all (ft := gNm 4) (fe := fCall (lenIs 1 g_is_whole) (fCons (fVar 4) fNil)) (vs := [4]) (r0 := [s0, s1, s2, s3, .un]) (id : PyData → PyData) (fun p => [s0, s1, s2, s3, .d p]) (fun p => .bool (wh p)) ps (fun _ _ => rfl) (fun p _ => by
    have w := whole_any p
    simp -implicitDefEqProofs only [rvs, eq_self, gNm, and_self, owk, List.getElem?_cons_zero, List.getElem?_cons_succ, List.length_cons, List.length_nil, List.set_cons_zero, List.set_cons_succ, List.map_cons, List.map_nil, List.cons_append, List.nil_append, List.replicate_succ, List.replicate_zero, Nat.reduceAdd, Nat.reduceSub, Nat.reduceLT, Nat.reduceEqDiff, Option.bind_some, Option.bind_none, Option.map_some, Option.map_none, if_true, if_false, ite_true, ite_false, ↓reduceIte, Bool.not_true, Bool.not_false, w]) fun _ _ => rfl
  rw [List.map_id] at this
  exact this
theorem wh_or (p : PyData) (s0 s2 : Sl) : (tdOr (tdNot (fTst (fUn (isiD "int") (fVar 1)))) (fTst (fUn (isiD "bool") (fVar 1)))) [s0, .d p, s2] = some (!wh p, [s0, .d p, s2]) := by
  cases p with
  | int i =>
    have w1 : isiD "int" (.int i) = some (.bool true) := rfl
    have w2 : isiD "bool" (.int i) = some (.bool false) := rfl
    simp -implicitDefEqProofs only [rvs, eq_self, gNm, and_self, owk, List.getElem?_cons_zero, List.getElem?_cons_succ, List.length_cons, List.length_nil, List.set_cons_zero, List.set_cons_succ, List.map_cons, List.map_nil, List.cons_append, List.nil_append, List.replicate_succ, List.replicate_zero, Nat.reduceAdd, Nat.reduceSub, Nat.reduceLT, Nat.reduceEqDiff, Option.bind_some, Option.bind_none, Option.map_some, Option.map_none, if_true, if_false, ite_true, ite_false, ↓reduceIte, Bool.not_true, Bool.not_false, w1, w2]
    rfl
  | bool b =>
    have w1 : isiD "int" (.bool b) = some (.bool true) := rfl
    have w2 : isiD "bool" (.bool b) = some (.bool true) := rfl
    simp -implicitDefEqProofs only [rvs, eq_self, gNm, and_self, owk, List.getElem?_cons_zero, List.getElem?_cons_succ, List.length_cons, List.length_nil, List.set_cons_zero, List.set_cons_succ, List.map_cons, List.map_nil, List.cons_append, List.nil_append, List.replicate_succ, List.replicate_zero, Nat.reduceAdd, Nat.reduceSub, Nat.reduceLT, Nat.reduceEqDiff, Option.bind_some, Option.bind_none, Option.map_some, Option.map_none, if_true, if_false, ite_true, ite_false, ↓reduceIte, Bool.not_true, Bool.not_false, w1, w2]
    rfl
  | none => have w1 : isiD "int" .none = some (.bool false) := rfl
            simp -implicitDefEqProofs only [rvs, eq_self, gNm, and_self, owk, List.getElem?_cons_zero, List.getElem?_cons_succ, List.length_cons, List.length_nil, List.set_cons_zero, List.set_cons_succ, List.map_cons, List.map_nil, List.cons_append, List.nil_append, List.replicate_succ, List.replicate_zero, Nat.reduceAdd, Nat.reduceSub, Nat.reduceLT, Nat.reduceEqDiff, Option.bind_some, Option.bind_none, Option.map_some, Option.map_none, if_true, if_false, ite_true, ite_false, ↓reduceIte, Bool.not_true, Bool.not_false, w1]
            rfl
  | str x => have w1 : isiD "int" (.str x) = some (.bool false) := rfl
             simp -implicitDefEqProofs only [rvs, eq_self, gNm, and_self, owk, List.getElem?_cons_zero, List.getElem?_cons_succ, List.length_cons, List.length_nil, List.set_cons_zero, List.set_cons_succ, List.map_cons, List.map_nil, List.cons_append, List.nil_append, List.replicate_succ, List.replicate_zero, Nat.reduceAdd, Nat.reduceSub, Nat.reduceLT, Nat.reduceEqDiff, Option.bind_some, Option.bind_none, Option.map_some, Option.map_none, if_true, if_false, ite_true, ite_false, ↓reduceIte, Bool.not_true, Bool.not_false, w1]
             rfl
  | tuple x => have w1 : isiD "int" (.tuple x) = some (.bool false) := rfl
               simp -implicitDefEqProofs only [rvs, eq_self, gNm, and_self, owk, List.getElem?_cons_zero, List.getElem?_cons_succ, List.length_cons, List.length_nil, List.set_cons_zero, List.set_cons_succ, List.map_cons, List.map_nil, List.cons_append, List.nil_append, List.replicate_succ, List.replicate_zero, Nat.reduceAdd, Nat.reduceSub, Nat.reduceLT, Nat.reduceEqDiff, Option.bind_some, Option.bind_none, Option.map_some, Option.map_none, if_true, if_false, ite_true, ite_false, ↓reduceIte, Bool.not_true, Bool.not_false, w1]
               rfl
  | list x => have w1 : isiD "int" (.list x) = some (.bool false) := rfl
              simp -implicitDefEqProofs only [rvs, eq_self, gNm, and_self, owk, List.getElem?_cons_zero, List.getElem?_cons_succ, List.length_cons, List.length_nil, List.set_cons_zero, List.set_cons_succ, List.map_cons, List.map_nil, List.cons_append, List.nil_append, List.replicate_succ, List.replicate_zero, Nat.reduceAdd, Nat.reduceSub, Nat.reduceLT, Nat.reduceEqDiff, Option.bind_some, Option.bind_none, Option.map_some, Option.map_none, if_true, if_false, ite_true, ite_false, ↓reduceIte, Bool.not_true, Bool.not_false, w1]
              rfl
  | dict x => have w1 : isiD "int" (.dict x) = some (.bool false) := rfl
              simp -implicitDefEqProofs only [rvs, eq_self, gNm, and_self, owk, List.getElem?_cons_zero, List.getElem?_cons_succ, List.length_cons, List.length_nil, List.set_cons_zero, List.set_cons_succ, List.map_cons, List.map_nil, List.cons_append, List.nil_append, List.replicate_succ, List.replicate_zero, Nat.reduceAdd, Nat.reduceSub, Nat.reduceLT, Nat.reduceEqDiff, Option.bind_some, Option.bind_none, Option.map_some, Option.map_none, if_true, if_false, ite_true, ite_false, ↓reduceIte, Bool.not_true, Bool.not_false, w1]
              rfl
theorem od_lc (s0 s2 : Sl) (ps : List PyData) : lcF (gNm 1) (tdOr (tdNot (fTst (fUn (isiD "int") (fVar 1)))) (fTst (fUn (isiD "bool") (fVar 1)))) (Tw.ret (.int 1)) [1] ps [s0, .un, s2] = some ((ps.filter fun p => !wh p).map fun _ => .int 1, [s0, .un, s2]) := by
  have := lc_list (ft := gNm 1) (tt := (tdOr (tdNot (fTst (fUn (isiD "int") (fVar 1)))) (fTst (fUn (isiD "bool") (fVar 1))))) (fe := Tw.ret (.int 1)) (vs := [1]) (r0 := [s0, .un, s2]) (id : PyData → PyData) (fun p => [s0, .d p, s2]) (fun p => !wh p) (fun _ => .int 1) ps (fun _ _ => rfl) (fun p _ => wh_or p s0 s2) (fun _ _ _ => rfl) fun _ _ => rfl
  rw [List.map_id] at this
  exact this
theorem all_wh (ps : List PyData) : allD [.list (ps.map fun p => PyData.bool (wh p))] = some (.bool (ps.all wh)) := by
  have e : (ps.map fun p => PyData.bool (wh p)) = (ps.map wh).map PyData.bool := by rw [List.map_map]; rfl
  show (boolsOf _).map (fun bs => PyData.bool (bs.all id)) = _
  rw [e, boolsOf_map]
  show some (PyData.bool ((ps.map wh).all id)) = _
  rw [List.all_map]
  rfl
theorem odd_ne {ps : List PyData} (h : ps.all wh = false) : neD (.list ((ps.filter fun p => !wh p).map fun _ => PyData.int 1)) (.list []) = some (.bool true) := by
  have ne : (ps.filter fun p => !wh p) ≠ [] := fun q => by
    have : ps.all wh = true := List.all_eq_true.mpr fun p hp => by
      have := List.filter_eq_nil_iff.mp q p hp
      simpa using this
    rw [this] at h
    cases h
  cases q : ps.filter fun p => !wh p with
  | nil => exact absurd q ne
  | cons a l => rfl
theorem cut_tail (w : PyData) (ps : List PyData) : Tw.cutD (w :: ps) (some 1) none = ps := by
  have e1 : HT.sIx (w :: ps).length 0 (some 1) = 1 := by
    show (if (1 : Int) < 0 then ((1 : Int) + ((w :: ps).length : Int)).toNat else min (1 : Int).toNat (w :: ps).length) = _
    rw [if_neg (by decide), List.length_cons]
    show min 1 _ = 1
    omega
  have e2 : HT.sIx (w :: ps).length (w :: ps).length none = (w :: ps).length := rfl
  unfold Tw.cutD
  rw [e1, e2, List.length_cons]
  show List.take _ ps = ps
  exact List.take_of_length_le (by omega)
theorem j_band_3 {ps : List PyData} (hl : ps.length = 2) (h : ps.all wh = false) : Jd (.tuple (.str "band" :: ps)) false := by
  have ist : isiD "tuple" (.tuple (.str "band" :: ps)) = some (.bool true) := rfl
  have iss : isiD "str" (.str "band") = some (.bool true) := rfl
  have i0 : ixD (.tuple (.str "band" :: ps)) (.int 0) = some (.str "band") := ixTn (k := 0) rfl
  have ln : lenD [.tuple (.str "band" :: ps)] = some (.int 3) := by
    show some (PyData.int ((ps.length + 1 : Nat) : Int)) = _
    rw [hl]
    rfl
  have a1 : leI (.int 3) (.int 3) = some (.bool true) := rfl
  have a2 : leI (.int 3) (.int 4) = some (.bool true) := rfl
  have d3 : inD true (.int 3) (.tuple [.int 3, .int 4]) = some (.bool false) := rfl
  have nt : ninT (.str "band") shapesT = some (.bool false) := rfl
  have c1 := cut_tail (.str "band") ps
  have it : itemsOf (.tuple ps) = some ps := rfl
  have sz : Tw.sizeOk ps.length = true := sz_of_len (by omega)
  have lc := wh_lc (.d (.tuple (.str "band" :: ps))) .un .un .un ps
  have lo := od_lc (.d (.tuple (.str "band" :: ps))) .un ps
  have al := all_wh ps
  have s0 : Tw.sizeOk 0 = true := rfl
  have s2 : Tw.sizeOk 2 = true := rfl
  have s6 : Tw.sizeOk 6 = true := rfl
  have e4 : eqD (.int 3) (.int 4) = some (.bool false) := rfl
  have et : eqD (.str "band") (.str "torus") = some (.bool false) := rfl
  have nb : neD (.bool false) (.bool false) = some (.bool false) := rfl
  have on := odd_ne h
  rw [h] at al
  generalize hA : (ps.map fun p => PyData.bool (wh p)) = A at lc al
  generalize hO : ((ps.filter fun p => !wh p).map fun _ => PyData.int 1) = O at lo on
  refine ⟨?_, ?_⟩
  · unfold g_is_shape runP f_is_shape
    simp -implicitDefEqProofs only [rvs, eq_self, gNm, and_self, owk, List.getElem?_cons_zero, List.getElem?_cons_succ, List.length_cons, List.length_nil, List.set_cons_zero, List.set_cons_succ, List.map_cons, List.map_nil, List.cons_append, List.nil_append, List.replicate_succ, List.replicate_zero, Nat.reduceAdd, Nat.reduceSub, Nat.reduceLT, Nat.reduceEqDiff, Option.bind_some, Option.bind_none, Option.map_some, Option.map_none, if_true, if_false, ite_true, ite_false, ↓reduceIte, Bool.not_true, Bool.not_false, ist, ln, a1, a2, i0, nt, slT_ok, c1, it, r_lck sz, wipeR, lc, backR, al]
  · unfold g__law_is_shape runP f__law_is_shape
    simp -implicitDefEqProofs only [rvs, eq_self, gNm, and_self, owk, List.getElem?_cons_zero, List.getElem?_cons_succ, List.length_cons, List.length_nil, List.set_cons_zero, List.set_cons_succ, List.map_cons, List.map_nil, List.cons_append, List.nil_append, List.replicate_succ, List.replicate_zero, Nat.reduceAdd, Nat.reduceSub, Nat.reduceLT, Nat.reduceEqDiff, Option.bind_some, Option.bind_none, Option.map_some, Option.map_none, if_true, if_false, ite_true, ite_false, ↓reduceIte, Bool.not_true, Bool.not_false, ist, ln, d3, s2, i0, iss, s6, g_band, e4, et, nb, slT_ok, c1, it, r_lck sz, wipeR, lo, backR, s0, on]
theorem j_band_4 {ps : List PyData} (hl : ps.length = 3) : Jd (.tuple (.str "band" :: ps)) false := by
  have ist : isiD "tuple" (.tuple (.str "band" :: ps)) = some (.bool true) := rfl
  have iss : isiD "str" (.str "band") = some (.bool true) := rfl
  have i0 : ixD (.tuple (.str "band" :: ps)) (.int 0) = some (.str "band") := ixTn (k := 0) rfl
  have ln : lenD [.tuple (.str "band" :: ps)] = some (.int 4) := by
    show some (PyData.int ((ps.length + 1 : Nat) : Int)) = _
    rw [hl]
    rfl
  have a1 : leI (.int 3) (.int 4) = some (.bool true) := rfl
  have a2 : leI (.int 4) (.int 4) = some (.bool true) := rfl
  have d3 : inD true (.int 4) (.tuple [.int 3, .int 4]) = some (.bool false) := rfl
  have nt : ninT (.str "band") shapesT = some (.bool false) := rfl
  have c1 := cut_tail (.str "band") ps
  have it : itemsOf (.tuple ps) = some ps := rfl
  have sz : Tw.sizeOk ps.length = true := sz_of_len (by omega)
  have lc := wh_lc (.d (.tuple (.str "band" :: ps))) .un .un .un ps
  have lo := od_lc (.d (.tuple (.str "band" :: ps))) .un ps
  have al := all_wh ps
  have s0 : Tw.sizeOk 0 = true := rfl
  have s2 : Tw.sizeOk 2 = true := rfl
  have s6 : Tw.sizeOk 6 = true := rfl
  have e4 : eqD (.int 4) (.int 4) = some (.bool true) := rfl
  have et : eqD (.str "band") (.str "torus") = some (.bool false) := rfl
  have nb : neD (.bool true) (.bool false) = some (.bool true) := rfl
  have nn : neD (.int 4) (.int 3) = some (.bool true) := rfl
  generalize hA : (ps.map fun p => PyData.bool (wh p)) = A at lc al
  refine ⟨?_, ?_⟩
  · cases hq : ps.all wh
    · rw [hq] at al
      unfold g_is_shape runP f_is_shape
      simp -implicitDefEqProofs only [rvs, eq_self, gNm, and_self, owk, List.getElem?_cons_zero, List.getElem?_cons_succ, List.length_cons, List.length_nil, List.set_cons_zero, List.set_cons_succ, List.map_cons, List.map_nil, List.cons_append, List.nil_append, List.replicate_succ, List.replicate_zero, Nat.reduceAdd, Nat.reduceSub, Nat.reduceLT, Nat.reduceEqDiff, Option.bind_some, Option.bind_none, Option.map_some, Option.map_none, if_true, if_false, ite_true, ite_false, ↓reduceIte, Bool.not_true, Bool.not_false, ist, ln, a1, a2, i0, nt, slT_ok, c1, it, r_lck sz, wipeR, lc, backR, al]
    · rw [hq] at al
      unfold g_is_shape runP f_is_shape
      simp -implicitDefEqProofs only [rvs, eq_self, gNm, and_self, owk, List.getElem?_cons_zero, List.getElem?_cons_succ, List.length_cons, List.length_nil, List.set_cons_zero, List.set_cons_succ, List.map_cons, List.map_nil, List.cons_append, List.nil_append, List.replicate_succ, List.replicate_zero, Nat.reduceAdd, Nat.reduceSub, Nat.reduceLT, Nat.reduceEqDiff, Option.bind_some, Option.bind_none, Option.map_some, Option.map_none, if_true, if_false, ite_true, ite_false, ↓reduceIte, Bool.not_true, Bool.not_false, ist, ln, a1, a2, i0, nt, slT_ok, c1, it, r_lck sz, wipeR, lc, backR, al, et, nn]
  · unfold g__law_is_shape runP f__law_is_shape
    simp -implicitDefEqProofs only [rvs, eq_self, gNm, and_self, owk, List.getElem?_cons_zero, List.getElem?_cons_succ, List.length_cons, List.length_nil, List.set_cons_zero, List.set_cons_succ, List.map_cons, List.map_nil, List.cons_append, List.nil_append, List.replicate_succ, List.replicate_zero, Nat.reduceAdd, Nat.reduceSub, Nat.reduceLT, Nat.reduceEqDiff, Option.bind_some, Option.bind_none, Option.map_some, Option.map_none, if_true, if_false, ite_true, ite_false, ↓reduceIte, Bool.not_true, Bool.not_false, ist, ln, d3, s2, i0, iss, s6, g_band, e4, et, nb]
theorem j_board_3 {ps : List PyData} (hl : ps.length = 2) (h : ps.all wh = false) : Jd (.tuple (.str "board" :: ps)) false := by
  have ist : isiD "tuple" (.tuple (.str "board" :: ps)) = some (.bool true) := rfl
  have iss : isiD "str" (.str "board") = some (.bool true) := rfl
  have i0 : ixD (.tuple (.str "board" :: ps)) (.int 0) = some (.str "board") := ixTn (k := 0) rfl
  have ln : lenD [.tuple (.str "board" :: ps)] = some (.int 3) := by
    show some (PyData.int ((ps.length + 1 : Nat) : Int)) = _
    rw [hl]
    rfl
  have a1 : leI (.int 3) (.int 3) = some (.bool true) := rfl
  have a2 : leI (.int 3) (.int 4) = some (.bool true) := rfl
  have d3 : inD true (.int 3) (.tuple [.int 3, .int 4]) = some (.bool false) := rfl
  have nt : ninT (.str "board") shapesT = some (.bool false) := rfl
  have c1 := cut_tail (.str "board") ps
  have it : itemsOf (.tuple ps) = some ps := rfl
  have sz : Tw.sizeOk ps.length = true := sz_of_len (by omega)
  have lc := wh_lc (.d (.tuple (.str "board" :: ps))) .un .un .un ps
  have lo := od_lc (.d (.tuple (.str "board" :: ps))) .un ps
  have al := all_wh ps
  have s0 : Tw.sizeOk 0 = true := rfl
  have s2 : Tw.sizeOk 2 = true := rfl
  have s6 : Tw.sizeOk 6 = true := rfl
  have e4 : eqD (.int 3) (.int 4) = some (.bool false) := rfl
  have et : eqD (.str "board") (.str "torus") = some (.bool false) := rfl
  have nb : neD (.bool false) (.bool false) = some (.bool false) := rfl
  have on := odd_ne h
  rw [h] at al
  generalize hA : (ps.map fun p => PyData.bool (wh p)) = A at lc al
  generalize hO : ((ps.filter fun p => !wh p).map fun _ => PyData.int 1) = O at lo on
  refine ⟨?_, ?_⟩
  · unfold g_is_shape runP f_is_shape
    simp -implicitDefEqProofs only [rvs, eq_self, gNm, and_self, owk, List.getElem?_cons_zero, List.getElem?_cons_succ, List.length_cons, List.length_nil, List.set_cons_zero, List.set_cons_succ, List.map_cons, List.map_nil, List.cons_append, List.nil_append, List.replicate_succ, List.replicate_zero, Nat.reduceAdd, Nat.reduceSub, Nat.reduceLT, Nat.reduceEqDiff, Option.bind_some, Option.bind_none, Option.map_some, Option.map_none, if_true, if_false, ite_true, ite_false, ↓reduceIte, Bool.not_true, Bool.not_false, ist, ln, a1, a2, i0, nt, slT_ok, c1, it, r_lck sz, wipeR, lc, backR, al]
  · unfold g__law_is_shape runP f__law_is_shape
    simp -implicitDefEqProofs only [rvs, eq_self, gNm, and_self, owk, List.getElem?_cons_zero, List.getElem?_cons_succ, List.length_cons, List.length_nil, List.set_cons_zero, List.set_cons_succ, List.map_cons, List.map_nil, List.cons_append, List.nil_append, List.replicate_succ, List.replicate_zero, Nat.reduceAdd, Nat.reduceSub, Nat.reduceLT, Nat.reduceEqDiff, Option.bind_some, Option.bind_none, Option.map_some, Option.map_none, if_true, if_false, ite_true, ite_false, ↓reduceIte, Bool.not_true, Bool.not_false, ist, ln, d3, s2, i0, iss, s6, g_board, e4, et, nb, slT_ok, c1, it, r_lck sz, wipeR, lo, backR, s0, on]
theorem j_board_4 {ps : List PyData} (hl : ps.length = 3) : Jd (.tuple (.str "board" :: ps)) false := by
  have ist : isiD "tuple" (.tuple (.str "board" :: ps)) = some (.bool true) := rfl
  have iss : isiD "str" (.str "board") = some (.bool true) := rfl
  have i0 : ixD (.tuple (.str "board" :: ps)) (.int 0) = some (.str "board") := ixTn (k := 0) rfl
  have ln : lenD [.tuple (.str "board" :: ps)] = some (.int 4) := by
    show some (PyData.int ((ps.length + 1 : Nat) : Int)) = _
    rw [hl]
    rfl
  have a1 : leI (.int 3) (.int 4) = some (.bool true) := rfl
  have a2 : leI (.int 4) (.int 4) = some (.bool true) := rfl
  have d3 : inD true (.int 4) (.tuple [.int 3, .int 4]) = some (.bool false) := rfl
  have nt : ninT (.str "board") shapesT = some (.bool false) := rfl
  have c1 := cut_tail (.str "board") ps
  have it : itemsOf (.tuple ps) = some ps := rfl
  have sz : Tw.sizeOk ps.length = true := sz_of_len (by omega)
  have lc := wh_lc (.d (.tuple (.str "board" :: ps))) .un .un .un ps
  have lo := od_lc (.d (.tuple (.str "board" :: ps))) .un ps
  have al := all_wh ps
  have s0 : Tw.sizeOk 0 = true := rfl
  have s2 : Tw.sizeOk 2 = true := rfl
  have s6 : Tw.sizeOk 6 = true := rfl
  have e4 : eqD (.int 4) (.int 4) = some (.bool true) := rfl
  have et : eqD (.str "board") (.str "torus") = some (.bool false) := rfl
  have nb : neD (.bool true) (.bool false) = some (.bool true) := rfl
  have nn : neD (.int 4) (.int 3) = some (.bool true) := rfl
  generalize hA : (ps.map fun p => PyData.bool (wh p)) = A at lc al
  refine ⟨?_, ?_⟩
  · cases hq : ps.all wh
    · rw [hq] at al
      unfold g_is_shape runP f_is_shape
      simp -implicitDefEqProofs only [rvs, eq_self, gNm, and_self, owk, List.getElem?_cons_zero, List.getElem?_cons_succ, List.length_cons, List.length_nil, List.set_cons_zero, List.set_cons_succ, List.map_cons, List.map_nil, List.cons_append, List.nil_append, List.replicate_succ, List.replicate_zero, Nat.reduceAdd, Nat.reduceSub, Nat.reduceLT, Nat.reduceEqDiff, Option.bind_some, Option.bind_none, Option.map_some, Option.map_none, if_true, if_false, ite_true, ite_false, ↓reduceIte, Bool.not_true, Bool.not_false, ist, ln, a1, a2, i0, nt, slT_ok, c1, it, r_lck sz, wipeR, lc, backR, al]
    · rw [hq] at al
      unfold g_is_shape runP f_is_shape
      simp -implicitDefEqProofs only [rvs, eq_self, gNm, and_self, owk, List.getElem?_cons_zero, List.getElem?_cons_succ, List.length_cons, List.length_nil, List.set_cons_zero, List.set_cons_succ, List.map_cons, List.map_nil, List.cons_append, List.nil_append, List.replicate_succ, List.replicate_zero, Nat.reduceAdd, Nat.reduceSub, Nat.reduceLT, Nat.reduceEqDiff, Option.bind_some, Option.bind_none, Option.map_some, Option.map_none, if_true, if_false, ite_true, ite_false, ↓reduceIte, Bool.not_true, Bool.not_false, ist, ln, a1, a2, i0, nt, slT_ok, c1, it, r_lck sz, wipeR, lc, backR, al, et, nn]
  · unfold g__law_is_shape runP f__law_is_shape
    simp -implicitDefEqProofs only [rvs, eq_self, gNm, and_self, owk, List.getElem?_cons_zero, List.getElem?_cons_succ, List.length_cons, List.length_nil, List.set_cons_zero, List.set_cons_succ, List.map_cons, List.map_nil, List.cons_append, List.nil_append, List.replicate_succ, List.replicate_zero, Nat.reduceAdd, Nat.reduceSub, Nat.reduceLT, Nat.reduceEqDiff, Option.bind_some, Option.bind_none, Option.map_some, Option.map_none, if_true, if_false, ite_true, ite_false, ↓reduceIte, Bool.not_true, Bool.not_false, ist, ln, d3, s2, i0, iss, s6, g_board, e4, et, nb]
theorem j_fan_3 {ps : List PyData} (hl : ps.length = 2) (h : ps.all wh = false) : Jd (.tuple (.str "fan" :: ps)) false := by
  have ist : isiD "tuple" (.tuple (.str "fan" :: ps)) = some (.bool true) := rfl
  have iss : isiD "str" (.str "fan") = some (.bool true) := rfl
  have i0 : ixD (.tuple (.str "fan" :: ps)) (.int 0) = some (.str "fan") := ixTn (k := 0) rfl
  have ln : lenD [.tuple (.str "fan" :: ps)] = some (.int 3) := by
    show some (PyData.int ((ps.length + 1 : Nat) : Int)) = _
    rw [hl]
    rfl
  have a1 : leI (.int 3) (.int 3) = some (.bool true) := rfl
  have a2 : leI (.int 3) (.int 4) = some (.bool true) := rfl
  have d3 : inD true (.int 3) (.tuple [.int 3, .int 4]) = some (.bool false) := rfl
  have nt : ninT (.str "fan") shapesT = some (.bool false) := rfl
  have c1 := cut_tail (.str "fan") ps
  have it : itemsOf (.tuple ps) = some ps := rfl
  have sz : Tw.sizeOk ps.length = true := sz_of_len (by omega)
  have lc := wh_lc (.d (.tuple (.str "fan" :: ps))) .un .un .un ps
  have lo := od_lc (.d (.tuple (.str "fan" :: ps))) .un ps
  have al := all_wh ps
  have s0 : Tw.sizeOk 0 = true := rfl
  have s2 : Tw.sizeOk 2 = true := rfl
  have s6 : Tw.sizeOk 6 = true := rfl
  have e4 : eqD (.int 3) (.int 4) = some (.bool false) := rfl
  have et : eqD (.str "fan") (.str "torus") = some (.bool false) := rfl
  have nb : neD (.bool false) (.bool false) = some (.bool false) := rfl
  have on := odd_ne h
  rw [h] at al
  generalize hA : (ps.map fun p => PyData.bool (wh p)) = A at lc al
  generalize hO : ((ps.filter fun p => !wh p).map fun _ => PyData.int 1) = O at lo on
  refine ⟨?_, ?_⟩
  · unfold g_is_shape runP f_is_shape
    simp -implicitDefEqProofs only [rvs, eq_self, gNm, and_self, owk, List.getElem?_cons_zero, List.getElem?_cons_succ, List.length_cons, List.length_nil, List.set_cons_zero, List.set_cons_succ, List.map_cons, List.map_nil, List.cons_append, List.nil_append, List.replicate_succ, List.replicate_zero, Nat.reduceAdd, Nat.reduceSub, Nat.reduceLT, Nat.reduceEqDiff, Option.bind_some, Option.bind_none, Option.map_some, Option.map_none, if_true, if_false, ite_true, ite_false, ↓reduceIte, Bool.not_true, Bool.not_false, ist, ln, a1, a2, i0, nt, slT_ok, c1, it, r_lck sz, wipeR, lc, backR, al]
  · unfold g__law_is_shape runP f__law_is_shape
    simp -implicitDefEqProofs only [rvs, eq_self, gNm, and_self, owk, List.getElem?_cons_zero, List.getElem?_cons_succ, List.length_cons, List.length_nil, List.set_cons_zero, List.set_cons_succ, List.map_cons, List.map_nil, List.cons_append, List.nil_append, List.replicate_succ, List.replicate_zero, Nat.reduceAdd, Nat.reduceSub, Nat.reduceLT, Nat.reduceEqDiff, Option.bind_some, Option.bind_none, Option.map_some, Option.map_none, if_true, if_false, ite_true, ite_false, ↓reduceIte, Bool.not_true, Bool.not_false, ist, ln, d3, s2, i0, iss, s6, g_fan, e4, et, nb, slT_ok, c1, it, r_lck sz, wipeR, lo, backR, s0, on]
theorem j_fan_4 {ps : List PyData} (hl : ps.length = 3) : Jd (.tuple (.str "fan" :: ps)) false := by
  have ist : isiD "tuple" (.tuple (.str "fan" :: ps)) = some (.bool true) := rfl
  have iss : isiD "str" (.str "fan") = some (.bool true) := rfl
  have i0 : ixD (.tuple (.str "fan" :: ps)) (.int 0) = some (.str "fan") := ixTn (k := 0) rfl
  have ln : lenD [.tuple (.str "fan" :: ps)] = some (.int 4) := by
    show some (PyData.int ((ps.length + 1 : Nat) : Int)) = _
    rw [hl]
    rfl
  have a1 : leI (.int 3) (.int 4) = some (.bool true) := rfl
  have a2 : leI (.int 4) (.int 4) = some (.bool true) := rfl
  have d3 : inD true (.int 4) (.tuple [.int 3, .int 4]) = some (.bool false) := rfl
  have nt : ninT (.str "fan") shapesT = some (.bool false) := rfl
  have c1 := cut_tail (.str "fan") ps
  have it : itemsOf (.tuple ps) = some ps := rfl
  have sz : Tw.sizeOk ps.length = true := sz_of_len (by omega)
  have lc := wh_lc (.d (.tuple (.str "fan" :: ps))) .un .un .un ps
  have lo := od_lc (.d (.tuple (.str "fan" :: ps))) .un ps
  have al := all_wh ps
  have s0 : Tw.sizeOk 0 = true := rfl
  have s2 : Tw.sizeOk 2 = true := rfl
  have s6 : Tw.sizeOk 6 = true := rfl
  have e4 : eqD (.int 4) (.int 4) = some (.bool true) := rfl
  have et : eqD (.str "fan") (.str "torus") = some (.bool false) := rfl
  have nb : neD (.bool true) (.bool false) = some (.bool true) := rfl
  have nn : neD (.int 4) (.int 3) = some (.bool true) := rfl
  generalize hA : (ps.map fun p => PyData.bool (wh p)) = A at lc al
  refine ⟨?_, ?_⟩
  · cases hq : ps.all wh
    · rw [hq] at al
      unfold g_is_shape runP f_is_shape
      simp -implicitDefEqProofs only [rvs, eq_self, gNm, and_self, owk, List.getElem?_cons_zero, List.getElem?_cons_succ, List.length_cons, List.length_nil, List.set_cons_zero, List.set_cons_succ, List.map_cons, List.map_nil, List.cons_append, List.nil_append, List.replicate_succ, List.replicate_zero, Nat.reduceAdd, Nat.reduceSub, Nat.reduceLT, Nat.reduceEqDiff, Option.bind_some, Option.bind_none, Option.map_some, Option.map_none, if_true, if_false, ite_true, ite_false, ↓reduceIte, Bool.not_true, Bool.not_false, ist, ln, a1, a2, i0, nt, slT_ok, c1, it, r_lck sz, wipeR, lc, backR, al]
    · rw [hq] at al
      unfold g_is_shape runP f_is_shape
      simp -implicitDefEqProofs only [rvs, eq_self, gNm, and_self, owk, List.getElem?_cons_zero, List.getElem?_cons_succ, List.length_cons, List.length_nil, List.set_cons_zero, List.set_cons_succ, List.map_cons, List.map_nil, List.cons_append, List.nil_append, List.replicate_succ, List.replicate_zero, Nat.reduceAdd, Nat.reduceSub, Nat.reduceLT, Nat.reduceEqDiff, Option.bind_some, Option.bind_none, Option.map_some, Option.map_none, if_true, if_false, ite_true, ite_false, ↓reduceIte, Bool.not_true, Bool.not_false, ist, ln, a1, a2, i0, nt, slT_ok, c1, it, r_lck sz, wipeR, lc, backR, al, et, nn]
  · unfold g__law_is_shape runP f__law_is_shape
    simp -implicitDefEqProofs only [rvs, eq_self, gNm, and_self, owk, List.getElem?_cons_zero, List.getElem?_cons_succ, List.length_cons, List.length_nil, List.set_cons_zero, List.set_cons_succ, List.map_cons, List.map_nil, List.cons_append, List.nil_append, List.replicate_succ, List.replicate_zero, Nat.reduceAdd, Nat.reduceSub, Nat.reduceLT, Nat.reduceEqDiff, Option.bind_some, Option.bind_none, Option.map_some, Option.map_none, if_true, if_false, ite_true, ite_false, ↓reduceIte, Bool.not_true, Bool.not_false, ist, ln, d3, s2, i0, iss, s6, g_fan, e4, et, nb]
theorem j_klein_3 {ps : List PyData} (hl : ps.length = 2) (h : ps.all wh = false) : Jd (.tuple (.str "klein" :: ps)) false := by
  have ist : isiD "tuple" (.tuple (.str "klein" :: ps)) = some (.bool true) := rfl
  have iss : isiD "str" (.str "klein") = some (.bool true) := rfl
  have i0 : ixD (.tuple (.str "klein" :: ps)) (.int 0) = some (.str "klein") := ixTn (k := 0) rfl
  have ln : lenD [.tuple (.str "klein" :: ps)] = some (.int 3) := by
    show some (PyData.int ((ps.length + 1 : Nat) : Int)) = _
    rw [hl]
    rfl
  have a1 : leI (.int 3) (.int 3) = some (.bool true) := rfl
  have a2 : leI (.int 3) (.int 4) = some (.bool true) := rfl
  have d3 : inD true (.int 3) (.tuple [.int 3, .int 4]) = some (.bool false) := rfl
  have nt : ninT (.str "klein") shapesT = some (.bool false) := rfl
  have c1 := cut_tail (.str "klein") ps
  have it : itemsOf (.tuple ps) = some ps := rfl
  have sz : Tw.sizeOk ps.length = true := sz_of_len (by omega)
  have lc := wh_lc (.d (.tuple (.str "klein" :: ps))) .un .un .un ps
  have lo := od_lc (.d (.tuple (.str "klein" :: ps))) .un ps
  have al := all_wh ps
  have s0 : Tw.sizeOk 0 = true := rfl
  have s2 : Tw.sizeOk 2 = true := rfl
  have s6 : Tw.sizeOk 6 = true := rfl
  have e4 : eqD (.int 3) (.int 4) = some (.bool false) := rfl
  have et : eqD (.str "klein") (.str "torus") = some (.bool false) := rfl
  have nb : neD (.bool false) (.bool false) = some (.bool false) := rfl
  have on := odd_ne h
  rw [h] at al
  generalize hA : (ps.map fun p => PyData.bool (wh p)) = A at lc al
  generalize hO : ((ps.filter fun p => !wh p).map fun _ => PyData.int 1) = O at lo on
  refine ⟨?_, ?_⟩
  · unfold g_is_shape runP f_is_shape
    simp -implicitDefEqProofs only [rvs, eq_self, gNm, and_self, owk, List.getElem?_cons_zero, List.getElem?_cons_succ, List.length_cons, List.length_nil, List.set_cons_zero, List.set_cons_succ, List.map_cons, List.map_nil, List.cons_append, List.nil_append, List.replicate_succ, List.replicate_zero, Nat.reduceAdd, Nat.reduceSub, Nat.reduceLT, Nat.reduceEqDiff, Option.bind_some, Option.bind_none, Option.map_some, Option.map_none, if_true, if_false, ite_true, ite_false, ↓reduceIte, Bool.not_true, Bool.not_false, ist, ln, a1, a2, i0, nt, slT_ok, c1, it, r_lck sz, wipeR, lc, backR, al]
  · unfold g__law_is_shape runP f__law_is_shape
    simp -implicitDefEqProofs only [rvs, eq_self, gNm, and_self, owk, List.getElem?_cons_zero, List.getElem?_cons_succ, List.length_cons, List.length_nil, List.set_cons_zero, List.set_cons_succ, List.map_cons, List.map_nil, List.cons_append, List.nil_append, List.replicate_succ, List.replicate_zero, Nat.reduceAdd, Nat.reduceSub, Nat.reduceLT, Nat.reduceEqDiff, Option.bind_some, Option.bind_none, Option.map_some, Option.map_none, if_true, if_false, ite_true, ite_false, ↓reduceIte, Bool.not_true, Bool.not_false, ist, ln, d3, s2, i0, iss, s6, g_klein, e4, et, nb, slT_ok, c1, it, r_lck sz, wipeR, lo, backR, s0, on]
theorem j_klein_4 {ps : List PyData} (hl : ps.length = 3) : Jd (.tuple (.str "klein" :: ps)) false := by
  have ist : isiD "tuple" (.tuple (.str "klein" :: ps)) = some (.bool true) := rfl
  have iss : isiD "str" (.str "klein") = some (.bool true) := rfl
  have i0 : ixD (.tuple (.str "klein" :: ps)) (.int 0) = some (.str "klein") := ixTn (k := 0) rfl
  have ln : lenD [.tuple (.str "klein" :: ps)] = some (.int 4) := by
    show some (PyData.int ((ps.length + 1 : Nat) : Int)) = _
    rw [hl]
    rfl
  have a1 : leI (.int 3) (.int 4) = some (.bool true) := rfl
  have a2 : leI (.int 4) (.int 4) = some (.bool true) := rfl
  have d3 : inD true (.int 4) (.tuple [.int 3, .int 4]) = some (.bool false) := rfl
  have nt : ninT (.str "klein") shapesT = some (.bool false) := rfl
  have c1 := cut_tail (.str "klein") ps
  have it : itemsOf (.tuple ps) = some ps := rfl
  have sz : Tw.sizeOk ps.length = true := sz_of_len (by omega)
  have lc := wh_lc (.d (.tuple (.str "klein" :: ps))) .un .un .un ps
  have lo := od_lc (.d (.tuple (.str "klein" :: ps))) .un ps
  have al := all_wh ps
  have s0 : Tw.sizeOk 0 = true := rfl
  have s2 : Tw.sizeOk 2 = true := rfl
  have s6 : Tw.sizeOk 6 = true := rfl
  have e4 : eqD (.int 4) (.int 4) = some (.bool true) := rfl
  have et : eqD (.str "klein") (.str "torus") = some (.bool false) := rfl
  have nb : neD (.bool true) (.bool false) = some (.bool true) := rfl
  have nn : neD (.int 4) (.int 3) = some (.bool true) := rfl
  generalize hA : (ps.map fun p => PyData.bool (wh p)) = A at lc al
  refine ⟨?_, ?_⟩
  · cases hq : ps.all wh
    · rw [hq] at al
      unfold g_is_shape runP f_is_shape
      simp -implicitDefEqProofs only [rvs, eq_self, gNm, and_self, owk, List.getElem?_cons_zero, List.getElem?_cons_succ, List.length_cons, List.length_nil, List.set_cons_zero, List.set_cons_succ, List.map_cons, List.map_nil, List.cons_append, List.nil_append, List.replicate_succ, List.replicate_zero, Nat.reduceAdd, Nat.reduceSub, Nat.reduceLT, Nat.reduceEqDiff, Option.bind_some, Option.bind_none, Option.map_some, Option.map_none, if_true, if_false, ite_true, ite_false, ↓reduceIte, Bool.not_true, Bool.not_false, ist, ln, a1, a2, i0, nt, slT_ok, c1, it, r_lck sz, wipeR, lc, backR, al]
    · rw [hq] at al
      unfold g_is_shape runP f_is_shape
      simp -implicitDefEqProofs only [rvs, eq_self, gNm, and_self, owk, List.getElem?_cons_zero, List.getElem?_cons_succ, List.length_cons, List.length_nil, List.set_cons_zero, List.set_cons_succ, List.map_cons, List.map_nil, List.cons_append, List.nil_append, List.replicate_succ, List.replicate_zero, Nat.reduceAdd, Nat.reduceSub, Nat.reduceLT, Nat.reduceEqDiff, Option.bind_some, Option.bind_none, Option.map_some, Option.map_none, if_true, if_false, ite_true, ite_false, ↓reduceIte, Bool.not_true, Bool.not_false, ist, ln, a1, a2, i0, nt, slT_ok, c1, it, r_lck sz, wipeR, lc, backR, al, et, nn]
  · unfold g__law_is_shape runP f__law_is_shape
    simp -implicitDefEqProofs only [rvs, eq_self, gNm, and_self, owk, List.getElem?_cons_zero, List.getElem?_cons_succ, List.length_cons, List.length_nil, List.set_cons_zero, List.set_cons_succ, List.map_cons, List.map_nil, List.cons_append, List.nil_append, List.replicate_succ, List.replicate_zero, Nat.reduceAdd, Nat.reduceSub, Nat.reduceLT, Nat.reduceEqDiff, Option.bind_some, Option.bind_none, Option.map_some, Option.map_none, if_true, if_false, ite_true, ite_false, ↓reduceIte, Bool.not_true, Bool.not_false, ist, ln, d3, s2, i0, iss, s6, g_klein, e4, et, nb]
theorem j_torus_3 {ps : List PyData} (hl : ps.length = 2) : Jd (.tuple (.str "torus" :: ps)) false := by
  have ist : isiD "tuple" (.tuple (.str "torus" :: ps)) = some (.bool true) := rfl
  have iss : isiD "str" (.str "torus") = some (.bool true) := rfl
  have i0 : ixD (.tuple (.str "torus" :: ps)) (.int 0) = some (.str "torus") := ixTn (k := 0) rfl
  have ln : lenD [.tuple (.str "torus" :: ps)] = some (.int 3) := by
    show some (PyData.int ((ps.length + 1 : Nat) : Int)) = _
    rw [hl]
    rfl
  have a1 : leI (.int 3) (.int 3) = some (.bool true) := rfl
  have a2 : leI (.int 3) (.int 4) = some (.bool true) := rfl
  have d3 : inD true (.int 3) (.tuple [.int 3, .int 4]) = some (.bool false) := rfl
  have nt : ninT (.str "torus") shapesT = some (.bool false) := rfl
  have c1 := cut_tail (.str "torus") ps
  have it : itemsOf (.tuple ps) = some ps := rfl
  have sz : Tw.sizeOk ps.length = true := sz_of_len (by omega)
  have lc := wh_lc (.d (.tuple (.str "torus" :: ps))) .un .un .un ps
  have lo := od_lc (.d (.tuple (.str "torus" :: ps))) .un ps
  have al := all_wh ps
  have s0 : Tw.sizeOk 0 = true := rfl
  have s2 : Tw.sizeOk 2 = true := rfl
  have s6 : Tw.sizeOk 6 = true := rfl
  have e4 : eqD (.int 3) (.int 4) = some (.bool false) := rfl
  have et : eqD (.str "torus") (.str "torus") = some (.bool true) := rfl
  have nb : neD (.bool false) (.bool true) = some (.bool true) := rfl
  have nn : neD (.int 3) (.int 4) = some (.bool true) := rfl
  generalize hA : (ps.map fun p => PyData.bool (wh p)) = A at lc al
  refine ⟨?_, ?_⟩
  · cases hq : ps.all wh
    · rw [hq] at al
      unfold g_is_shape runP f_is_shape
      simp -implicitDefEqProofs only [rvs, eq_self, gNm, and_self, owk, List.getElem?_cons_zero, List.getElem?_cons_succ, List.length_cons, List.length_nil, List.set_cons_zero, List.set_cons_succ, List.map_cons, List.map_nil, List.cons_append, List.nil_append, List.replicate_succ, List.replicate_zero, Nat.reduceAdd, Nat.reduceSub, Nat.reduceLT, Nat.reduceEqDiff, Option.bind_some, Option.bind_none, Option.map_some, Option.map_none, if_true, if_false, ite_true, ite_false, ↓reduceIte, Bool.not_true, Bool.not_false, ist, ln, a1, a2, i0, nt, slT_ok, c1, it, r_lck sz, wipeR, lc, backR, al]
    · rw [hq] at al
      unfold g_is_shape runP f_is_shape
      simp -implicitDefEqProofs only [rvs, eq_self, gNm, and_self, owk, List.getElem?_cons_zero, List.getElem?_cons_succ, List.length_cons, List.length_nil, List.set_cons_zero, List.set_cons_succ, List.map_cons, List.map_nil, List.cons_append, List.nil_append, List.replicate_succ, List.replicate_zero, Nat.reduceAdd, Nat.reduceSub, Nat.reduceLT, Nat.reduceEqDiff, Option.bind_some, Option.bind_none, Option.map_some, Option.map_none, if_true, if_false, ite_true, ite_false, ↓reduceIte, Bool.not_true, Bool.not_false, ist, ln, a1, a2, i0, nt, slT_ok, c1, it, r_lck sz, wipeR, lc, backR, al, et, nn]
  · unfold g__law_is_shape runP f__law_is_shape
    simp -implicitDefEqProofs only [rvs, eq_self, gNm, and_self, owk, List.getElem?_cons_zero, List.getElem?_cons_succ, List.length_cons, List.length_nil, List.set_cons_zero, List.set_cons_succ, List.map_cons, List.map_nil, List.cons_append, List.nil_append, List.replicate_succ, List.replicate_zero, Nat.reduceAdd, Nat.reduceSub, Nat.reduceLT, Nat.reduceEqDiff, Option.bind_some, Option.bind_none, Option.map_some, Option.map_none, if_true, if_false, ite_true, ite_false, ↓reduceIte, Bool.not_true, Bool.not_false, ist, ln, d3, s2, i0, iss, s6, g_torus, e4, et, nb]
theorem j_torus_4 {ps : List PyData} (hl : ps.length = 3) (h : ps.all wh = false) : Jd (.tuple (.str "torus" :: ps)) false := by
  have ist : isiD "tuple" (.tuple (.str "torus" :: ps)) = some (.bool true) := rfl
  have iss : isiD "str" (.str "torus") = some (.bool true) := rfl
  have i0 : ixD (.tuple (.str "torus" :: ps)) (.int 0) = some (.str "torus") := ixTn (k := 0) rfl
  have ln : lenD [.tuple (.str "torus" :: ps)] = some (.int 4) := by
    show some (PyData.int ((ps.length + 1 : Nat) : Int)) = _
    rw [hl]
    rfl
  have a1 : leI (.int 3) (.int 4) = some (.bool true) := rfl
  have a2 : leI (.int 4) (.int 4) = some (.bool true) := rfl
  have d3 : inD true (.int 4) (.tuple [.int 3, .int 4]) = some (.bool false) := rfl
  have nt : ninT (.str "torus") shapesT = some (.bool false) := rfl
  have c1 := cut_tail (.str "torus") ps
  have it : itemsOf (.tuple ps) = some ps := rfl
  have sz : Tw.sizeOk ps.length = true := sz_of_len (by omega)
  have lc := wh_lc (.d (.tuple (.str "torus" :: ps))) .un .un .un ps
  have lo := od_lc (.d (.tuple (.str "torus" :: ps))) .un ps
  have al := all_wh ps
  have s0 : Tw.sizeOk 0 = true := rfl
  have s2 : Tw.sizeOk 2 = true := rfl
  have s6 : Tw.sizeOk 6 = true := rfl
  have e4 : eqD (.int 4) (.int 4) = some (.bool true) := rfl
  have et : eqD (.str "torus") (.str "torus") = some (.bool true) := rfl
  have nb : neD (.bool true) (.bool true) = some (.bool false) := rfl
  have on := odd_ne h
  rw [h] at al
  generalize hA : (ps.map fun p => PyData.bool (wh p)) = A at lc al
  generalize hO : ((ps.filter fun p => !wh p).map fun _ => PyData.int 1) = O at lo on
  refine ⟨?_, ?_⟩
  · unfold g_is_shape runP f_is_shape
    simp -implicitDefEqProofs only [rvs, eq_self, gNm, and_self, owk, List.getElem?_cons_zero, List.getElem?_cons_succ, List.length_cons, List.length_nil, List.set_cons_zero, List.set_cons_succ, List.map_cons, List.map_nil, List.cons_append, List.nil_append, List.replicate_succ, List.replicate_zero, Nat.reduceAdd, Nat.reduceSub, Nat.reduceLT, Nat.reduceEqDiff, Option.bind_some, Option.bind_none, Option.map_some, Option.map_none, if_true, if_false, ite_true, ite_false, ↓reduceIte, Bool.not_true, Bool.not_false, ist, ln, a1, a2, i0, nt, slT_ok, c1, it, r_lck sz, wipeR, lc, backR, al]
  · unfold g__law_is_shape runP f__law_is_shape
    simp -implicitDefEqProofs only [rvs, eq_self, gNm, and_self, owk, List.getElem?_cons_zero, List.getElem?_cons_succ, List.length_cons, List.length_nil, List.set_cons_zero, List.set_cons_succ, List.map_cons, List.map_nil, List.cons_append, List.nil_append, List.replicate_succ, List.replicate_zero, Nat.reduceAdd, Nat.reduceSub, Nat.reduceLT, Nat.reduceEqDiff, Option.bind_some, Option.bind_none, Option.map_some, Option.map_none, if_true, if_false, ite_true, ite_false, ↓reduceIte, Bool.not_true, Bool.not_false, ist, ln, d3, s2, i0, iss, s6, g_torus, e4, et, nb, slT_ok, c1, it, r_lck sz, wipeR, lo, backR, s0, on]
theorem j_tube_3 {ps : List PyData} (hl : ps.length = 2) (h : ps.all wh = false) : Jd (.tuple (.str "tube" :: ps)) false := by
  have ist : isiD "tuple" (.tuple (.str "tube" :: ps)) = some (.bool true) := rfl
  have iss : isiD "str" (.str "tube") = some (.bool true) := rfl
  have i0 : ixD (.tuple (.str "tube" :: ps)) (.int 0) = some (.str "tube") := ixTn (k := 0) rfl
  have ln : lenD [.tuple (.str "tube" :: ps)] = some (.int 3) := by
    show some (PyData.int ((ps.length + 1 : Nat) : Int)) = _
    rw [hl]
    rfl
  have a1 : leI (.int 3) (.int 3) = some (.bool true) := rfl
  have a2 : leI (.int 3) (.int 4) = some (.bool true) := rfl
  have d3 : inD true (.int 3) (.tuple [.int 3, .int 4]) = some (.bool false) := rfl
  have nt : ninT (.str "tube") shapesT = some (.bool false) := rfl
  have c1 := cut_tail (.str "tube") ps
  have it : itemsOf (.tuple ps) = some ps := rfl
  have sz : Tw.sizeOk ps.length = true := sz_of_len (by omega)
  have lc := wh_lc (.d (.tuple (.str "tube" :: ps))) .un .un .un ps
  have lo := od_lc (.d (.tuple (.str "tube" :: ps))) .un ps
  have al := all_wh ps
  have s0 : Tw.sizeOk 0 = true := rfl
  have s2 : Tw.sizeOk 2 = true := rfl
  have s6 : Tw.sizeOk 6 = true := rfl
  have e4 : eqD (.int 3) (.int 4) = some (.bool false) := rfl
  have et : eqD (.str "tube") (.str "torus") = some (.bool false) := rfl
  have nb : neD (.bool false) (.bool false) = some (.bool false) := rfl
  have on := odd_ne h
  rw [h] at al
  generalize hA : (ps.map fun p => PyData.bool (wh p)) = A at lc al
  generalize hO : ((ps.filter fun p => !wh p).map fun _ => PyData.int 1) = O at lo on
  refine ⟨?_, ?_⟩
  · unfold g_is_shape runP f_is_shape
    simp -implicitDefEqProofs only [rvs, eq_self, gNm, and_self, owk, List.getElem?_cons_zero, List.getElem?_cons_succ, List.length_cons, List.length_nil, List.set_cons_zero, List.set_cons_succ, List.map_cons, List.map_nil, List.cons_append, List.nil_append, List.replicate_succ, List.replicate_zero, Nat.reduceAdd, Nat.reduceSub, Nat.reduceLT, Nat.reduceEqDiff, Option.bind_some, Option.bind_none, Option.map_some, Option.map_none, if_true, if_false, ite_true, ite_false, ↓reduceIte, Bool.not_true, Bool.not_false, ist, ln, a1, a2, i0, nt, slT_ok, c1, it, r_lck sz, wipeR, lc, backR, al]
  · unfold g__law_is_shape runP f__law_is_shape
    simp -implicitDefEqProofs only [rvs, eq_self, gNm, and_self, owk, List.getElem?_cons_zero, List.getElem?_cons_succ, List.length_cons, List.length_nil, List.set_cons_zero, List.set_cons_succ, List.map_cons, List.map_nil, List.cons_append, List.nil_append, List.replicate_succ, List.replicate_zero, Nat.reduceAdd, Nat.reduceSub, Nat.reduceLT, Nat.reduceEqDiff, Option.bind_some, Option.bind_none, Option.map_some, Option.map_none, if_true, if_false, ite_true, ite_false, ↓reduceIte, Bool.not_true, Bool.not_false, ist, ln, d3, s2, i0, iss, s6, g_tube, e4, et, nb, slT_ok, c1, it, r_lck sz, wipeR, lo, backR, s0, on]
theorem j_tube_4 {ps : List PyData} (hl : ps.length = 3) : Jd (.tuple (.str "tube" :: ps)) false := by
  have ist : isiD "tuple" (.tuple (.str "tube" :: ps)) = some (.bool true) := rfl
  have iss : isiD "str" (.str "tube") = some (.bool true) := rfl
  have i0 : ixD (.tuple (.str "tube" :: ps)) (.int 0) = some (.str "tube") := ixTn (k := 0) rfl
  have ln : lenD [.tuple (.str "tube" :: ps)] = some (.int 4) := by
    show some (PyData.int ((ps.length + 1 : Nat) : Int)) = _
    rw [hl]
    rfl
  have a1 : leI (.int 3) (.int 4) = some (.bool true) := rfl
  have a2 : leI (.int 4) (.int 4) = some (.bool true) := rfl
  have d3 : inD true (.int 4) (.tuple [.int 3, .int 4]) = some (.bool false) := rfl
  have nt : ninT (.str "tube") shapesT = some (.bool false) := rfl
  have c1 := cut_tail (.str "tube") ps
  have it : itemsOf (.tuple ps) = some ps := rfl
  have sz : Tw.sizeOk ps.length = true := sz_of_len (by omega)
  have lc := wh_lc (.d (.tuple (.str "tube" :: ps))) .un .un .un ps
  have lo := od_lc (.d (.tuple (.str "tube" :: ps))) .un ps
  have al := all_wh ps
  have s0 : Tw.sizeOk 0 = true := rfl
  have s2 : Tw.sizeOk 2 = true := rfl
  have s6 : Tw.sizeOk 6 = true := rfl
  have e4 : eqD (.int 4) (.int 4) = some (.bool true) := rfl
  have et : eqD (.str "tube") (.str "torus") = some (.bool false) := rfl
  have nb : neD (.bool true) (.bool false) = some (.bool true) := rfl
  have nn : neD (.int 4) (.int 3) = some (.bool true) := rfl
  generalize hA : (ps.map fun p => PyData.bool (wh p)) = A at lc al
  refine ⟨?_, ?_⟩
  · cases hq : ps.all wh
    · rw [hq] at al
      unfold g_is_shape runP f_is_shape
      simp -implicitDefEqProofs only [rvs, eq_self, gNm, and_self, owk, List.getElem?_cons_zero, List.getElem?_cons_succ, List.length_cons, List.length_nil, List.set_cons_zero, List.set_cons_succ, List.map_cons, List.map_nil, List.cons_append, List.nil_append, List.replicate_succ, List.replicate_zero, Nat.reduceAdd, Nat.reduceSub, Nat.reduceLT, Nat.reduceEqDiff, Option.bind_some, Option.bind_none, Option.map_some, Option.map_none, if_true, if_false, ite_true, ite_false, ↓reduceIte, Bool.not_true, Bool.not_false, ist, ln, a1, a2, i0, nt, slT_ok, c1, it, r_lck sz, wipeR, lc, backR, al]
    · rw [hq] at al
      unfold g_is_shape runP f_is_shape
      simp -implicitDefEqProofs only [rvs, eq_self, gNm, and_self, owk, List.getElem?_cons_zero, List.getElem?_cons_succ, List.length_cons, List.length_nil, List.set_cons_zero, List.set_cons_succ, List.map_cons, List.map_nil, List.cons_append, List.nil_append, List.replicate_succ, List.replicate_zero, Nat.reduceAdd, Nat.reduceSub, Nat.reduceLT, Nat.reduceEqDiff, Option.bind_some, Option.bind_none, Option.map_some, Option.map_none, if_true, if_false, ite_true, ite_false, ↓reduceIte, Bool.not_true, Bool.not_false, ist, ln, a1, a2, i0, nt, slT_ok, c1, it, r_lck sz, wipeR, lc, backR, al, et, nn]
  · unfold g__law_is_shape runP f__law_is_shape
    simp -implicitDefEqProofs only [rvs, eq_self, gNm, and_self, owk, List.getElem?_cons_zero, List.getElem?_cons_succ, List.length_cons, List.length_nil, List.set_cons_zero, List.set_cons_succ, List.map_cons, List.map_nil, List.cons_append, List.nil_append, List.replicate_succ, List.replicate_zero, Nat.reduceAdd, Nat.reduceSub, Nat.reduceLT, Nat.reduceEqDiff, Option.bind_some, Option.bind_none, Option.map_some, Option.map_none, if_true, if_false, ite_true, ite_false, ↓reduceIte, Bool.not_true, Bool.not_false, ist, ln, d3, s2, i0, iss, s6, g_tube, e4, et, nb]
/-- numbers, or what is none -/
def OkP (p : PyData) : Prop := (∃ i : Int, p = .int i ∧ Sm i) ∨ wh p = false
/-- what both judges tell alike -/
theorem j_str {s : Str} (hs : s ∈ wordsL) {ps : List PyData} (hl : ps.length = 2 ∨ ps.length = 3) (hp : ∀ p ∈ ps, OkP p) : ∃ z, Jd (.tuple (.str s :: ps)) z := by
  have two : ∀ p q : PyData, ps = [p, q] → ps.all wh = true → ∃ a b : Int, ps = [.int a, .int b] ∧ Sm a ∧ Sm b := fun p q e h => by
    subst e
    have h1 : wh p = true := List.all_eq_true.mp h p (by simp)
    have h2 : wh q = true := List.all_eq_true.mp h q (by simp)
    rcases hp p (by simp) with ⟨a, rfl, ha⟩ | c
    · rcases hp q (by simp) with ⟨b, rfl, hb⟩ | c
      · exact ⟨a, b, rfl, ha, hb⟩
      · rw [c] at h2; cases h2
    · rw [c] at h1; cases h1
  rcases hl with hl | hl
  · by_cases ht : s = "torus"
    · subst ht
      exact ⟨false, j_torus_3 hl⟩
    · have hs5 : s ∈ (["band", "board", "fan", "klein", "tube"] : List Str) := by
        simp only [wordsL, List.mem_cons, List.not_mem_nil, or_false] at hs ⊢
        rcases hs with h | h | h | h | h | h
        · exact .inl h
        · exact .inr (.inl h)
        · exact .inr (.inr (.inl h))
        · exact .inr (.inr (.inr (.inl h)))
        · exact absurd h ht
        · exact .inr (.inr (.inr (.inr h)))
      cases hq : ps.all wh with
      | true =>
        match ps, hl with
        | [p, q], _ =>
          obtain ⟨a, b, e, ha, hb⟩ := two p q rfl hq
          rw [e]
          exact ⟨_, prog_two hs5 ha hb, law_two hs5 ha hb⟩
      | false =>
        simp only [List.mem_cons, List.not_mem_nil, or_false] at hs5
        rcases hs5 with rfl | rfl | rfl | rfl | rfl
        · exact ⟨false, j_band_3 hl hq⟩
        · exact ⟨false, j_board_3 hl hq⟩
        · exact ⟨false, j_fan_3 hl hq⟩
        · exact ⟨false, j_klein_3 hl hq⟩
        · exact ⟨false, j_tube_3 hl hq⟩
  · simp only [wordsL, List.mem_cons, List.not_mem_nil, or_false] at hs
    rcases hs with rfl | rfl | rfl | rfl | rfl | rfl
    · exact ⟨false, j_band_4 hl⟩
    · exact ⟨false, j_board_4 hl⟩
    · exact ⟨false, j_fan_4 hl⟩
    · exact ⟨false, j_klein_4 hl⟩
    · cases hq : ps.all wh with
      | false => exact ⟨false, j_torus_4 hl hq⟩
      | true =>
        match ps, hl with
        | [p, q, r], _ =>
          have h1 : wh p = true := List.all_eq_true.mp hq p (by simp)
          have h2 : wh q = true := List.all_eq_true.mp hq q (by simp)
          have h3 : wh r = true := List.all_eq_true.mp hq r (by simp)
          rcases hp p (by simp) with ⟨a, rfl, ha⟩ | c
          · rcases hp q (by simp) with ⟨b, rfl, hb⟩ | c
            · rcases hp r (by simp) with ⟨e, rfl, he⟩ | c
              · exact ⟨_, both_three ha hb he⟩
              · rw [c] at h3; cases h3
            · rw [c] at h2; cases h2
          · rw [c] at h1; cases h1
    · exact ⟨false, j_tube_4 hl⟩
theorem j_tuple {w : PyData} (hw : (∃ s ∈ wordsL, w = .str s) ∨ BadW w) {ps : List PyData} (hp : ∀ p ∈ ps, OkP p) : ∃ z, Jd (.tuple (w :: ps)) z := by
  by_cases hl : ps.length = 2 ∨ ps.length = 3
  · rcases hw with ⟨s, hs, rfl⟩ | h
    · exact j_str hs hl hp
    · exact ⟨false, j_word hl h⟩
  · exact ⟨false, j_len (by rw [List.length_cons]; omega)⟩
end Lw

set_option Elab.async false
set_option linter.all false
set_option maxRecDepth 100000
set_option maxHeartbeats 8000000
namespace Lw
open PySem PySem.Spec PyProof.Rows L2 Tw
/-! ### shapes by draws -/
abbrev five : List Str := ["band", "board", "fan", "klein", "tube"]
/-- a shape: its parts are few -/
inductive Shp : PyData → Prop
  | two (s : Str) (a b : Int) (hs : s ∈ five) (h : two3 s a b = true) (ha : 1 ≤ a ∧ a ≤ 60) (hb : 1 ≤ b ∧ b ≤ 60) : Shp (.tuple [.str s, .int a, .int b])
  | tor (a b c : Int) (h : three4 a b c = true) (ha : 1 ≤ a ∧ a ≤ 60) (hb : 1 ≤ b ∧ b ≤ 60) (hc : 0 ≤ c ∧ c ≤ 60) : Shp (.tuple [.str "torus", .int a, .int b, .int c])
theorem sm_small {a : Int} (h : -1000 ≤ a ∧ a ≤ 1000) : Sm a := by
  have : (1000 : Int) < 2 ^ 200 := by decide +kernel
  unfold Sm
  omega
theorem Shp.is {d : PyData} (h : Shp d) : g_is_shape [d] = some (.bool true) := by
  cases h with
  | two s a b hs h ha hb =>
    have := prog_two hs (sm_small (a := a) (by omega)) (sm_small (a := b) (by omega))
    rw [h] at this
    exact this
  | tor a b c h ha hb hc =>
    have := (both_three (sm_small (a := a) (by omega)) (sm_small (a := b) (by omega)) (sm_small (a := c) (by omega))).1
    rw [h] at this
    exact this
def cnt (top one : Int) : Nat := (([1, 2, 3, 4, 5, 6, 7, 8] : List Int).filter fun t => decide (one * t * t ≤ top)).length
def cntAll (top : Int) : Bool := (List.range 60).all fun o => decide (top < (o : Int) + 1) || (decide (0 < cnt top ((o : Int) + 1)) && (List.range 8).all fun u => !decide (u < cnt top ((o : Int) + 1)) || decide (((o : Int) + 1) * (1 + (u : Int)) * (1 + (u : Int)) ≤ top))
theorem cnt_ok {top one : Int} (hT : cntAll top = true) (h1 : 1 ≤ one) (h2 : one ≤ top) (h3 : top ≤ 60) : 0 < cnt top one ∧ cnt top one ≤ 8 ∧ ∀ u : Int, 0 ≤ u → u < (cnt top one : Int) → one * (1 + u) * (1 + u) ≤ top := by
  have c8 : cnt top one ≤ 8 := List.length_filter_le ..
  obtain ⟨o, ho⟩ : ∃ o : Nat, one = (o : Int) + 1 := ⟨(one - 1).toNat, by omega⟩
  have a := List.all_eq_true.mp hT o (List.mem_range.mpr (by omega))
  rw [← ho, decide_eq_false (by omega), Bool.false_or] at a
  obtain ⟨a1, a2⟩ := Bool.and_eq_true_iff.mp a
  refine ⟨of_decide_eq_true a1, c8, fun u u0 u1 => ?_⟩
  have b := List.all_eq_true.mp a2 u.toNat (List.mem_range.mpr (by omega))
  rw [decide_eq_true (by omega), Bool.not_true, Bool.false_or] at b
  have := of_decide_eq_true b
  rw [show ((u.toNat : Nat) : Int) = u by omega] at this
  exact this
theorem mulS {i j : Int} (h0 : 0 ≤ i ∧ i ≤ 10000) (h1 : 0 ≤ j ∧ j ≤ 1000) : mulI (.int i) (.int j) = some (.int (i * j)) := by
  have a : (10000 : Int) < 2 ^ 400 := by decide +kernel
  have b : (1000 : Int) < 2 ^ 200 := by decide +kernel
  exact mul_big h0.1 (by omega) h1.1 (by omega)
theorem min_int (i j : Int) : minD [.int i, .int j] = some (.int (if j < i then j else i)) := rfl
theorem max_int (i j : Int) : maxD [.int i, .int j] = some (.int (if j > i then j else i)) := rfl
theorem fan_lc {top one : Int} (h1 : 1 ≤ one ∧ one ≤ 60) (s0 s2 : Sl) : lcF (gNm 3) (fTst (fBin leI (fBin mulI (fBin mulI (fVar 4) (fVar 3)) (fVar 3)) (fVar 1))) (Tw.ret (.int 1)) [3] (([1, 2, 3, 4, 5, 6, 7, 8] : List Int).map PyData.int) [s0, .d (.int top), s2, .un, .d (.int one)] = some ((([1, 2, 3, 4, 5, 6, 7, 8] : List Int).filter fun t => decide (one * t * t ≤ top)).map fun _ => .int 1, [s0, .d (.int top), s2, .un, .d (.int one)]) :=
  lc_list (r0 := [s0, .d (.int top), s2, .un, .d (.int one)]) PyData.int (fun t => [s0, .d (.int top), s2, .d (.int t), .d (.int one)]) (fun t => decide (one * t * t ≤ top)) (fun _ => .int 1) [1, 2, 3, 4, 5, 6, 7, 8] (fun _ _ => rfl) (fun t ht => by
    have t8 : 1 ≤ t ∧ t ≤ 8 := by
      simp only [List.mem_cons, List.not_mem_nil, or_false] at ht
      omega
    have p1 : 0 ≤ one * t := Int.mul_nonneg (by omega) (by omega)
    have p2 : one * t ≤ 60 * 8 := Int.mul_le_mul h1.2 t8.2 (by omega) (by omega)
    have m1 := mulS (i := one) (j := t) (by omega) (by omega)
    have m2 := mulS (i := one * t) (j := t) (by omega) (by omega)
    have l := le_int (one * t * t) top
    simp -implicitDefEqProofs only [rvs, eq_self, gNm, and_self, owk, List.getElem?_cons_zero, List.getElem?_cons_succ, List.length_cons, List.length_nil, List.set_cons_zero, List.set_cons_succ, List.map_cons, List.map_nil, List.cons_append, List.nil_append, List.replicate_succ, List.replicate_zero, Nat.reduceAdd, Nat.reduceSub, Nat.reduceLT, Nat.reduceEqDiff, Option.bind_some, Option.bind_none, Option.map_some, Option.map_none, if_true, if_false, ite_true, ite_false, ↓reduceIte, Bool.not_true, Bool.not_false, m1, m2, l]) (fun _ _ _ => rfl) fun _ _ => rfl
theorem fan_ok {k : Nat} {ms : List PyData} {top : Int} (hT : cntAll top = true) (ht : top = 9 ∨ top = 24 ∨ top = 60) (P : Pot k ms) (hk : k < 2 ^ 60) {ms1 : List PyData} (e1 : g__law_take ms [.int 6] = some (.int 2, ms1)) (P1 : Pot (k + 1) ms1) :
    ∃ d, ∃ ms' : List PyData, g__law_shape ms [.int top] = some (d, ms') ∧ Shp d ∧ Pot (k + 10) ms' := by
  have w : ixD sixL (.int 2) = some (.str "fan") := ixLn (k := 2) rfl
  have ef : eqD (.str "fan") (.str "fan") = some (.bool true) := rfl
  have s3 : Tw.sizeOk 3 = true := rfl
  have s6 : Tw.sizeOk 6 = true := rfl
  obtain ⟨j, ms2, e2, j0, j1, P2⟩ := take_ok (n := 3) P1 (by omega) (by decide) (by decide)
  obtain ⟨n, hn, ix, n0⟩ : ∃ n : Int, n ≤ 60 ∧ ixD (.list [.int 4, .int 7, .int top]) (.int j) = some (.int n) ∧ 0 < n := by
    have : j = 0 ∨ j = 1 ∨ j = 2 := by omega
    rcases this with rfl | rfl | rfl
    · exact ⟨4, by decide, ixLn (k := 0) rfl, by decide⟩
    · exact ⟨7, by decide, ixLn (k := 1) rfl, by decide⟩
    · exact ⟨top, by omega, ixLn (k := 2) rfl, by omega⟩
  obtain ⟨t, ms3, e3, t0, t1, P3⟩ := take_ok (n := n) P2 (by omega) n0 (by omega)
  have a1 : addD (.int 1) (.int t) = some (.int (1 + t)) := rfl
  have mn := min_int (1 + t) top
  obtain ⟨one, ho⟩ : ∃ one : Int, (if top < 1 + t then top else 1 + t) = one := ⟨_, rfl⟩
  rw [ho] at mn
  have ob : 1 ≤ one ∧ one ≤ top ∧ one ≤ 60 := by
    by_cases c : top < 1 + t
    · rw [if_pos c] at ho; omega
    · rw [if_neg c] at ho; omega
  obtain ⟨c0, c8, cu⟩ := cnt_ok hT ob.1 ob.2.1 (by omega)
  have rg : rng2 [.int 1, .int 9] = some (([1, 2, 3, 4, 5, 6, 7, 8] : List Int).map PyData.int) := by
    unfold rng2
    dsimp only
    rw [if_pos (by omega)]
    rfl
  have sz : Tw.sizeOk (([1, 2, 3, 4, 5, 6, 7, 8] : List Int).map PyData.int).length = true := rfl
  have lc := fan_lc (top := top) (one := one) ⟨ob.1, ob.2.2⟩ (.m (.l ms3)) (.d (.str "fan"))
  have ln : lenD [.list ((([1, 2, 3, 4, 5, 6, 7, 8] : List Int).filter fun t => decide (one * t * t ≤ top)).map fun _ => PyData.int 1)] = some (.int ((cnt top one : Nat) : Int)) := by
    show some (PyData.int ((_ : List PyData).length : Nat)) = _
    rw [List.length_map]
    rfl
  obtain ⟨u, ms4, e4, u0, u1, P4⟩ := take_ok (n := ((cnt top one : Nat) : Int)) P3 (by omega) (by omega) (by omega)
  have a2 : addD (.int 1) (.int u) = some (.int (1 + u)) := rfl
  have cu := cu u u0 u1
  generalize hX : ([1, 2, 3, 4, 5, 6, 7, 8] : List Int).map PyData.int = X at rg sz lc
  generalize hF : ((([1, 2, 3, 4, 5, 6, 7, 8] : List Int).filter fun t => decide (one * t * t ≤ top)).map fun _ => PyData.int 1) = F at lc ln
  refine ⟨.tuple [.str "fan", .int one, .int (1 + u)], ms4, ?_, .two "fan" one (1 + u) (by decide +kernel) ?_ ⟨ob.1, ob.2.2⟩ (by omega), P4.wide (by omega)⟩
  · unfold g__law_shape runM f__law_shape
    simp -implicitDefEqProofs only [rvs, eq_self, gNm, and_self, owk, List.getElem?_cons_zero, List.getElem?_cons_succ, List.length_cons, List.length_nil, List.set_cons_zero, List.set_cons_succ, List.map_cons, List.map_nil, List.cons_append, List.nil_append, List.replicate_succ, List.replicate_zero, Nat.reduceAdd, Nat.reduceSub, Nat.reduceLT, Nat.reduceEqDiff, Option.bind_some, Option.bind_none, Option.map_some, Option.map_none, if_true, if_false, ite_true, ite_false, ↓reduceIte, Bool.not_true, Bool.not_false, s6, e1, w, ef, s3, e2, ix, e3, a1, mn, rg, r_lck sz, wipeR, lc, backR, ln, e4, a2]
  · unfold two3
    rw [decide_eq_true ob.1, decide_eq_true (by omega : 1 ≤ 1 + u), if_pos rfl, decide_eq_true (by omega : one * (1 + u) * (1 + u) ≤ 60)]
    rfl
end Lw

set_option Elab.async false
set_option linter.all false
set_option maxRecDepth 100000
set_option maxHeartbeats 8000000
namespace Lw
open PySem PySem.Spec PyProof.Rows L2 Tw
/-! ### shapes by draws: those with an even number, bands and boards -/
theorem sub_int (i j : Int) : subD (.int i) (.int j) = some (.int (i - j)) := rfl
theorem add_int (i j : Int) : addD (.int i) (.int j) = some (.int (i + j)) := rfl
theorem t_tube {a b : Int} (h1 : 1 ≤ a) (h2 : 1 ≤ b) (h3 : a * b ≤ 60) (h4 : b % 2 = 0) : two3 "tube" a b = true := by
  have n1 : ¬ (("tube" : Str) = "fan") := by decide +kernel
  unfold two3 even
  rw [if_neg n1, if_pos rfl, decide_eq_true h1, decide_eq_true h2, Int.mul_one, decide_eq_true h3, h4]
  rfl
theorem t_klein {a b : Int} (h1 : 1 ≤ a) (h2 : 1 ≤ b) (h3 : a * b ≤ 60) (h4 : b % 2 = 0) (h5 : a % 2 = 0) : two3 "klein" a b = true := by
  have n1 : ¬ (("klein" : Str) = "fan") := by decide +kernel
  have n2 : ¬ (("klein" : Str) = "tube") := by decide +kernel
  unfold two3 even
  rw [if_neg n1, if_neg n2, if_pos rfl, decide_eq_true h1, decide_eq_true h2, Int.mul_one, decide_eq_true h3, h4, h5]
  rfl
theorem t_band {a b : Int} (h1 : 1 ≤ a) (h2 : 1 ≤ b) (h3 : a * b ≤ 60) (h4 : (a + b) % 2 = 0) : two3 "band" a b = true := by
  have n1 : ¬ (("band" : Str) = "fan") := by decide +kernel
  have n2 : ¬ (("band" : Str) = "tube") := by decide +kernel
  have n3 : ¬ (("band" : Str) = "klein") := by decide +kernel
  unfold two3 even
  rw [if_neg n1, if_neg n2, if_neg n3, if_pos rfl, decide_eq_true h1, decide_eq_true h2, Int.mul_one, decide_eq_true h3, h4]
  rfl
theorem t_board {a b : Int} (h1 : 1 ≤ a) (h2 : 1 ≤ b) (h3 : a * b ≤ 60) : two3 "board" a b = true := by
  have n1 : ¬ (("board" : Str) = "fan") := by decide +kernel
  have n2 : ¬ (("board" : Str) = "tube") := by decide +kernel
  have n3 : ¬ (("board" : Str) = "klein") := by decide +kernel
  have n4 : ¬ (("board" : Str) = "band") := by decide +kernel
  unfold two3
  rw [if_neg n1, if_neg n2, if_neg n3, if_neg n4, decide_eq_true h1, decide_eq_true h2, Int.mul_one, decide_eq_true h3]
  rfl
theorem t_torus {a b c : Int} (h1 : 1 ≤ a) (h2 : 1 ≤ b) (h3 : a * b ≤ 60) (h4 : b % 2 = 0) (h5 : 0 ≤ c ∧ c < b) (h6 : (a + c) % 2 = 0) : three4 a b c = true := by
  unfold three4 even
  rw [decide_eq_true h1, decide_eq_true h2, decide_eq_true h3, decide_eq_true h5, h4, h6]
  rfl
theorem le_top {a b c : Int} (h1 : 1 ≤ a) (h2 : 1 ≤ b) (h3 : a * b ≤ c) : a ≤ c ∧ b ≤ c := by
  have q1 : a * 1 ≤ a * b := Int.mul_le_mul_of_nonneg_left h2 (by omega)
  have q2 : 1 * b ≤ a * b := Int.mul_le_mul_of_nonneg_right h1 (by omega)
  omega
theorem evn_ok {k : Nat} {ms : List PyData} {top x : Int} (ht : top = 9 ∨ top = 24 ∨ top = 60) (P : Pot k ms) (hk : k < 2 ^ 60) {ms1 : List PyData} (hx : x = 3 ∨ x = 4 ∨ x = 5) (e1 : g__law_take ms [.int 6] = some (.int x, ms1)) (P1 : Pot (k + 1) ms1) :
    ∃ d, ∃ ms' : List PyData, g__law_shape ms [.int top] = some (d, ms') ∧ Shp d ∧ Pot (k + 10) ms' := by
  have s2 : Tw.sizeOk 2 = true := rfl
  have s3 : Tw.sizeOk 3 = true := rfl
  have s4 : Tw.sizeOk 4 = true := rfl
  have s6 : Tw.sizeOk 6 = true := rfl
  obtain ⟨j, ms2, e2, j0, j1, P2⟩ := take_ok (n := 2) P1 (by omega) (by decide) (by decide)
  have d4 : fdivD (.int top) (.int 4) = some (.int (top / 4)) := fdiv_ok 3 (by decide) (by decide) (by decide) (by decide)
  have t15 : 2 ≤ top / 4 ∧ top / 4 ≤ 15 := by omega
  obtain ⟨n, ix, n0, nt⟩ : ∃ n : Int, ixD (.list [.int 2, .int (top / 4)]) (.int j) = some (.int n) ∧ 0 < n ∧ n ≤ top / 4 := by
    have : j = 0 ∨ j = 1 := by omega
    rcases this with rfl | rfl
    · exact ⟨2, ixLn (k := 0) rfl, by omega, by omega⟩
    · exact ⟨top / 4, ixLn (k := 1) rfl, by omega, by omega⟩
  obtain ⟨t, ms3, e3, t0, t1, P3⟩ := take_ok (n := n) P2 (by omega) n0 (by omega)
  have m1 := mulS (i := 2) (j := t) (by omega) (by omega)
  have a1 := add_int 2 (2 * t)
  obtain ⟨two, htw⟩ : ∃ two : Int, 2 + 2 * t = two := ⟨_, rfl⟩
  rw [htw] at a1
  have w1 : 2 ≤ two ∧ two ≤ 30 ∧ 2 * two ≤ top ∧ two % 2 = 0 := by omega
  have d2 : fdivD (.int top) (.int two) = some (.int (top / two)) := fdiv_ok 9 (by omega) (by decide) (by omega) (by decide)
  have q2 : 2 ≤ top / two := Int.le_ediv_of_mul_le (by omega) w1.2.2.1
  have q3 : top / two ≤ top := Int.ediv_le_self _ (by omega)
  obtain ⟨o, ms4, e4, o0, o1, P4⟩ := take_ok (n := top / two) P3 (by omega) (by omega) (by omega)
  have a2 := add_int 1 o
  obtain ⟨one, ho⟩ : ∃ one : Int, 1 + o = one := ⟨_, rfl⟩
  rw [ho] at a2
  have pr : one * two ≤ top := Int.mul_le_of_le_ediv (by omega) (by omega)
  have lt := le_top (a := one) (b := two) (by omega) (by omega) pr
  have md := mod2 one
  rcases hx with rfl | rfl | rfl
  · have w : ixD sixL (.int 3) = some (.str "klein") := ixLn (k := 3) rfl
    have q : inD false (.str "klein") (.tuple [.str "klein", .str "torus", .str "tube"]) = some (.bool true) := rfl
    have sb := sub_int one (one % 2)
    have mx := max_int 2 (one - one % 2)
    obtain ⟨b, hb⟩ : ∃ b : Int, (if one - one % 2 > 2 then one - one % 2 else 2) = b := ⟨_, rfl⟩
    rw [hb] at mx
    have bb : 2 ≤ b ∧ b ≤ 60 ∧ b % 2 = 0 ∧ b * two ≤ 60 := by
      by_cases c : one - one % 2 > 2
      · rw [if_pos c] at hb
        have : b * two ≤ one * two := Int.mul_le_mul_of_nonneg_right (by omega) (by omega)
        omega
      · rw [if_neg c] at hb
        rw [← hb]
        omega
    refine ⟨.tuple [.str "klein", .int b, .int two], ms4, ?_, .two "klein" b two (by decide +kernel) (t_klein (by omega) (by omega) bb.2.2.2 w1.2.2.2 bb.2.2.1) (by omega) (by omega), P4.wide (by omega)⟩
    unfold g__law_shape runM f__law_shape
    simp -implicitDefEqProofs only [rvs, eq_self, gNm, and_self, owk, List.getElem?_cons_zero, List.getElem?_cons_succ, List.length_cons, List.length_nil, List.set_cons_zero, List.set_cons_succ, List.map_cons, List.map_nil, List.cons_append, List.nil_append, List.replicate_succ, List.replicate_zero, Nat.reduceAdd, Nat.reduceSub, Nat.reduceLT, Nat.reduceEqDiff, Option.bind_some, Option.bind_none, Option.map_some, Option.map_none, if_true, if_false, ite_true, ite_false, ↓reduceIte, Bool.not_true, Bool.not_false, s3, s4, s6, e1, w, f_klein_fan, f_klein_klein, f_klein_torus, q, s2, d4, e2, ix, e3, m1, a1, d2, e4, a2, md, sb, mx]
  · have w : ixD sixL (.int 4) = some (.str "torus") := ixLn (k := 4) rfl
    have q : inD false (.str "torus") (.tuple [.str "klein", .str "torus", .str "tube"]) = some (.bool true) := rfl
    have d5 : fdivD (.int two) (.int 2) = some (.int (two / 2)) := fdiv_ok 2 (by decide) (by decide) (by decide) (by decide)
    obtain ⟨u, ms5, e5, u0, u1, P5⟩ := take_ok (n := two / 2) P4 (by omega) (by omega) (by omega)
    have m2 := mulS (i := 2) (j := u) (by omega) (by omega)
    have a3 := add_int (one % 2) (2 * u)
    refine ⟨.tuple [.str "torus", .int one, .int two, .int (one % 2 + 2 * u)], ms5, ?_, .tor one two (one % 2 + 2 * u) (t_torus (by omega) (by omega) (by omega) w1.2.2.2 (by omega) (by omega)) (by omega) (by omega) (by omega), P5.wide (by omega)⟩
    unfold g__law_shape runM f__law_shape
    simp -implicitDefEqProofs only [rvs, eq_self, gNm, and_self, owk, List.getElem?_cons_zero, List.getElem?_cons_succ, List.length_cons, List.length_nil, List.set_cons_zero, List.set_cons_succ, List.map_cons, List.map_nil, List.cons_append, List.nil_append, List.replicate_succ, List.replicate_zero, Nat.reduceAdd, Nat.reduceSub, Nat.reduceLT, Nat.reduceEqDiff, Option.bind_some, Option.bind_none, Option.map_some, Option.map_none, if_true, if_false, ite_true, ite_false, ↓reduceIte, Bool.not_true, Bool.not_false, s3, s4, s6, e1, w, f_torus_fan, f_torus_klein, f_torus_torus, q, s2, d4, e2, ix, e3, m1, a1, d2, e4, a2, md, d5, e5, m2, a3]
  · have w : ixD sixL (.int 5) = some (.str "tube") := ixLn (k := 5) rfl
    have q : inD false (.str "tube") (.tuple [.str "klein", .str "torus", .str "tube"]) = some (.bool true) := rfl
    refine ⟨.tuple [.str "tube", .int one, .int two], ms4, ?_, .two "tube" one two (by decide +kernel) (t_tube (by omega) (by omega) (by omega) w1.2.2.2) (by omega) (by omega), P4.wide (by omega)⟩
    unfold g__law_shape runM f__law_shape
    simp -implicitDefEqProofs only [rvs, eq_self, gNm, and_self, owk, List.getElem?_cons_zero, List.getElem?_cons_succ, List.length_cons, List.length_nil, List.set_cons_zero, List.set_cons_succ, List.map_cons, List.map_nil, List.cons_append, List.nil_append, List.replicate_succ, List.replicate_zero, Nat.reduceAdd, Nat.reduceSub, Nat.reduceLT, Nat.reduceEqDiff, Option.bind_some, Option.bind_none, Option.map_some, Option.map_none, if_true, if_false, ite_true, ite_false, ↓reduceIte, Bool.not_true, Bool.not_false, s3, s4, s6, e1, w, f_tube_fan, f_tube_klein, f_tube_torus, q, s2, d4, e2, ix, e3, m1, a1, d2, e4, a2]
theorem odd_ok {k : Nat} {ms : List PyData} {top x : Int} (ht : top = 9 ∨ top = 24 ∨ top = 60) (P : Pot k ms) (hk : k < 2 ^ 60) {ms1 : List PyData} (hx : x = 0 ∨ x = 1) (e1 : g__law_take ms [.int 6] = some (.int x, ms1)) (P1 : Pot (k + 1) ms1) :
    ∃ d, ∃ ms' : List PyData, g__law_shape ms [.int top] = some (d, ms') ∧ Shp d ∧ Pot (k + 10) ms' := by
  have s2 : Tw.sizeOk 2 = true := rfl
  have s3 : Tw.sizeOk 3 = true := rfl
  have s4 : Tw.sizeOk 4 = true := rfl
  have s6 : Tw.sizeOk 6 = true := rfl
  obtain ⟨j, ms2, e2, j0, j1, P2⟩ := take_ok (n := 2) P1 (by omega) (by decide) (by decide)
  obtain ⟨n, ix, n0, nt⟩ : ∃ n : Int, ixD (.list [.int 4, .int top]) (.int j) = some (.int n) ∧ 0 < n ∧ n ≤ top := by
    have : j = 0 ∨ j = 1 := by omega
    rcases this with rfl | rfl
    · exact ⟨4, ixLn (k := 0) rfl, by omega, by omega⟩
    · exact ⟨top, ixLn (k := 1) rfl, by omega, by omega⟩
  obtain ⟨t, ms3, e3, t0, t1, P3⟩ := take_ok (n := n) P2 (by omega) n0 (by omega)
  have a1 := add_int 1 t
  obtain ⟨two, htw⟩ : ∃ two : Int, 1 + t = two := ⟨_, rfl⟩
  rw [htw] at a1
  have w1 : 1 ≤ two ∧ two ≤ 60 ∧ 1 * two ≤ top := by omega
  have d2 : fdivD (.int top) (.int two) = some (.int (top / two)) := fdiv_ok 9 (by omega) (by decide) (by omega) (by decide)
  have q2 : 1 ≤ top / two := Int.le_ediv_of_mul_le (by omega) w1.2.2
  have q3 : top / two ≤ top := Int.ediv_le_self _ (by omega)
  obtain ⟨o, ms4, e4, o0, o1, P4⟩ := take_ok (n := top / two) P3 (by omega) (by omega) (by omega)
  have a2 := add_int 1 o
  obtain ⟨one, ho⟩ : ∃ one : Int, 1 + o = one := ⟨_, rfl⟩
  rw [ho] at a2
  have pr : one * two ≤ top := Int.mul_le_of_le_ediv (by omega) (by omega)
  have lt := le_top (a := one) (b := two) (by omega) (by omega) pr
  have ad := add_int one two
  have md := mod2 (one + two)
  rcases hx with rfl | rfl
  · have w : ixD sixL (.int 0) = some (.str "band") := ixLn (k := 0) rfl
    have q : inD false (.str "band") (.tuple [.str "klein", .str "torus", .str "tube"]) = some (.bool false) := rfl
    have fb : eqD (.str "band") (.str "board") = some (.bool false) := rfl
    by_cases c : (one + two) % 2 = 1
    · have o1 : eqD (.int 1) (.int 1) = some (.bool true) := rfl
      rw [c] at md
      by_cases d : one > 1
      · have g1 := gt_int one 1
        rw [decide_eq_true d] at g1
        have sb := sub_int one 1
        have ad2 := add_int (one - 1) two
        have md2 := mod2 (one - 1 + two)
        rw [show (one - 1 + two) % 2 = 0 by omega] at md2
        have z : eqD (.int 0) (.int 0) = some (.bool true) := rfl
        have : (one - 1) * two ≤ one * two := Int.mul_le_mul_of_nonneg_right (by omega) (by omega)
        refine ⟨.tuple [.str "band", .int (one - 1), .int two], ms4, ?_, .two "band" (one - 1) two (by decide +kernel) (t_band (by omega) (by omega) (by omega) (by omega)) (by omega) (by omega), P4.wide (by omega)⟩
        unfold g__law_shape runM f__law_shape
        simp -implicitDefEqProofs only [rvs, eq_self, gNm, and_self, owk, List.getElem?_cons_zero, List.getElem?_cons_succ, List.length_cons, List.length_nil, List.set_cons_zero, List.set_cons_succ, List.map_cons, List.map_nil, List.cons_append, List.nil_append, List.replicate_succ, List.replicate_zero, Nat.reduceAdd, Nat.reduceSub, Nat.reduceLT, Nat.reduceEqDiff, Option.bind_some, Option.bind_none, Option.map_some, Option.map_none, if_true, if_false, ite_true, ite_false, ↓reduceIte, Bool.not_true, Bool.not_false, s3, s4, s6, e1, w, f_band_fan, q, s2, e2, ix, e3, a1, d2, e4, a2, f_band_band, ad, md, o1, g1, sb, ad2, md2, z, fb]
      · have g1 := gt_int one 1
        rw [decide_eq_false d] at g1
        have h1 : one = 1 := by omega
        have ad2 := add_int 1 two
        have md2 := mod2 (1 + two)
        rw [show (1 + two) % 2 = 1 by omega] at md2
        have z : eqD (.int 1) (.int 0) = some (.bool false) := rfl
        have sb := sub_int two 1
        refine ⟨.tuple [.str "band", .int 1, .int (two - 1)], ms4, ?_, .two "band" 1 (two - 1) (by decide +kernel) (t_band (by omega) (by omega) (by omega) (by omega)) (by omega) (by omega), P4.wide (by omega)⟩
        unfold g__law_shape runM f__law_shape
        simp -implicitDefEqProofs only [rvs, eq_self, gNm, and_self, owk, List.getElem?_cons_zero, List.getElem?_cons_succ, List.length_cons, List.length_nil, List.set_cons_zero, List.set_cons_succ, List.map_cons, List.map_nil, List.cons_append, List.nil_append, List.replicate_succ, List.replicate_zero, Nat.reduceAdd, Nat.reduceSub, Nat.reduceLT, Nat.reduceEqDiff, Option.bind_some, Option.bind_none, Option.map_some, Option.map_none, if_true, if_false, ite_true, ite_false, ↓reduceIte, Bool.not_true, Bool.not_false, s3, s4, s6, e1, w, f_band_fan, q, s2, e2, ix, e3, a1, d2, e4, a2, f_band_band, ad, md, o1, g1, sb, ad2, md2, z, fb]
    · rw [show (one + two) % 2 = 0 by omega] at md
      have z : eqD (.int 0) (.int 1) = some (.bool false) := rfl
      refine ⟨.tuple [.str "band", .int one, .int two], ms4, ?_, .two "band" one two (by decide +kernel) (t_band (by omega) (by omega) (by omega) (by omega)) (by omega) (by omega), P4.wide (by omega)⟩
      unfold g__law_shape runM f__law_shape
      simp -implicitDefEqProofs only [rvs, eq_self, gNm, and_self, owk, List.getElem?_cons_zero, List.getElem?_cons_succ, List.length_cons, List.length_nil, List.set_cons_zero, List.set_cons_succ, List.map_cons, List.map_nil, List.cons_append, List.nil_append, List.replicate_succ, List.replicate_zero, Nat.reduceAdd, Nat.reduceSub, Nat.reduceLT, Nat.reduceEqDiff, Option.bind_some, Option.bind_none, Option.map_some, Option.map_none, if_true, if_false, ite_true, ite_false, ↓reduceIte, Bool.not_true, Bool.not_false, s3, s4, s6, e1, w, f_band_fan, q, s2, e2, ix, e3, a1, d2, e4, a2, f_band_band, ad, md, z, fb]
  · have w : ixD sixL (.int 1) = some (.str "board") := ixLn (k := 1) rfl
    have q : inD false (.str "board") (.tuple [.str "klein", .str "torus", .str "tube"]) = some (.bool false) := rfl
    have fb : eqD (.str "board") (.str "board") = some (.bool true) := rfl
    obtain ⟨u, ms5, e5, u0, u1, P5⟩ := take_ok (n := 3) P4 (by omega) (by decide) (by decide)
    by_cases c : u = 0
    · subst c
      have z : eqD (.int 0) (.int 0) = some (.bool true) := rfl
      have mn := min_int one two
      obtain ⟨b, hb⟩ : ∃ b : Int, (if two < one then two else one) = b := ⟨_, rfl⟩
      rw [hb] at mn
      have bb : 1 ≤ b ∧ b ≤ one ∧ b ≤ two := by
        by_cases c : two < one
        · rw [if_pos c] at hb; omega
        · rw [if_neg c] at hb; omega
      have : b * b ≤ one * two := Int.mul_le_mul bb.2.1 bb.2.2 (by omega) (by omega)
      refine ⟨.tuple [.str "board", .int b, .int b], ms5, ?_, .two "board" b b (by decide +kernel) (t_board (by omega) (by omega) (by omega)) (by omega) (by omega), P5.wide (by omega)⟩
      unfold g__law_shape runM f__law_shape
      simp -implicitDefEqProofs only [rvs, eq_self, gNm, and_self, owk, List.getElem?_cons_zero, List.getElem?_cons_succ, List.length_cons, List.length_nil, List.set_cons_zero, List.set_cons_succ, List.map_cons, List.map_nil, List.cons_append, List.nil_append, List.replicate_succ, List.replicate_zero, Nat.reduceAdd, Nat.reduceSub, Nat.reduceLT, Nat.reduceEqDiff, Option.bind_some, Option.bind_none, Option.map_some, Option.map_none, if_true, if_false, ite_true, ite_false, ↓reduceIte, Bool.not_true, Bool.not_false, s3, s4, s6, e1, w, f_board_fan, q, s2, e2, ix, e3, a1, d2, e4, a2, f_board_band, fb, e5, z, mn]
    · have z := eqI2 u 0
      rw [show (u == (0 : Int)) = false from beq_false_of_ne c] at z
      refine ⟨.tuple [.str "board", .int one, .int two], ms5, ?_, .two "board" one two (by decide +kernel) (t_board (by omega) (by omega) (by omega)) (by omega) (by omega), P5.wide (by omega)⟩
      unfold g__law_shape runM f__law_shape
      simp -implicitDefEqProofs only [rvs, eq_self, gNm, and_self, owk, List.getElem?_cons_zero, List.getElem?_cons_succ, List.length_cons, List.length_nil, List.set_cons_zero, List.set_cons_succ, List.map_cons, List.map_nil, List.cons_append, List.nil_append, List.replicate_succ, List.replicate_zero, Nat.reduceAdd, Nat.reduceSub, Nat.reduceLT, Nat.reduceEqDiff, Option.bind_some, Option.bind_none, Option.map_some, Option.map_none, if_true, if_false, ite_true, ite_false, ↓reduceIte, Bool.not_true, Bool.not_false, s3, s4, s6, e1, w, f_board_fan, q, s2, e2, ix, e3, a1, d2, e4, a2, f_board_band, fb, e5, z]
theorem shape_ok {k : Nat} {ms : List PyData} {top : Int} (ht : top = 9 ∨ top = 24 ∨ top = 60) (P : Pot k ms) (hk : k < 2 ^ 60) :
    ∃ d, ∃ ms' : List PyData, g__law_shape ms [.int top] = some (d, ms') ∧ Shp d ∧ Pot (k + 10) ms' := by
  obtain ⟨x, ms1, e1, x0, x1, P1⟩ := take_ok (n := 6) P (by omega) (by decide) (by decide)
  have hx : x = 2 ∨ (x = 3 ∨ x = 4 ∨ x = 5) ∨ (x = 0 ∨ x = 1) := by omega
  rcases hx with rfl | hx | hx
  · have hT : cntAll top = true := by
      rcases ht with rfl | rfl | rfl <;> decide +kernel
    exact fan_ok hT ht P hk e1 P1
  · exact evn_ok ht P hk hx e1 P1
  · exact odd_ok ht P hk hx e1 P1
end Lw

set_option Elab.async false
set_option linter.all false
set_option maxRecDepth 100000
set_option maxHeartbeats 8000000
namespace Lw
open PySem PySem.Spec PyProof.Rows L2 Tw
/-! ### what is no shape -/
/-- one's own list and a new one, put together; a place of one's own list -/
def oaK (o : Option Sl) (x : Option (PyData × Rho)) (i : Nat) : Option (List PyData × Rho) := match o with
  | some (.m (.l _)) => x.bind fun p => match p.2[i]? with
    | some (.m (.l ms)) => (match p.1 with
      | .list es => if Tw.sizeOk (ms.length + es.length) = true then some (ms ++ es) else none
      | _ => none).map fun d => (d, p.2)
    | _ => none
  | _ => none
theorem r_ownAdd (i : Nat) (fb : FE PyData) (ρ : Rho) : fOwnAdd i fb ρ = oaK ρ[i]? (fb ρ) i := rfl
def oaL (o : Option Sl) (es : List PyData) (ρ : Rho) : Option (List PyData × Rho) := match o with
  | some (.m (.l ms)) => if Tw.sizeOk (ms.length + es.length) = true then some (ms ++ es, ρ) else none
  | _ => none
theorem oa1 (ms0 es : List PyData) (ρ : Rho) (i : Nat) : oaK (some (.m (.l ms0))) (some (.list es, ρ)) i = oaL ρ[i]? es ρ := by
  unfold oaK oaL
  dsimp only [Option.bind_some]
  split
  · rename_i ms h
    by_cases c : Tw.sizeOk (ms.length + es.length) = true
    · rw [if_pos c, if_pos c]
      rfl
    · rw [if_neg c, if_neg c]
      rfl
  · rfl
theorem oa2 (ms es : List PyData) (ρ : Rho) : oaL (some (.m (.l ms))) es ρ = if Tw.sizeOk (ms.length + es.length) = true then some (ms ++ es, ρ) else none := rfl
def ioL (o : Option Sl) (j : Int) (ρ : Rho) : Option (PyData × Rho) := match o with
  | some (.m (.l ms)) => (atI ms j).map fun d => (d, ρ)
  | _ => none
def ioK (o : Option Sl) (x : Option (PyData × Rho)) (i : Nat) : Option (PyData × Rho) := match o with
  | some (.m (.l _)) => x.bind fun p => match p.2[i]? with
    | some (.m (.l ms)) => (match p.1 with
      | .int j => atI ms j
      | _ => none).map fun d => (d, p.2)
    | _ => none
  | _ => none
theorem r_ixOwn (i : Nat) (fb : FE PyData) (ρ : Rho) : fIxOwn i fb ρ = ioK ρ[i]? (fb ρ) i := rfl
theorem io1 (ms0 : List PyData) (j : Int) (ρ : Rho) (i : Nat) : ioK (some (.m (.l ms0))) (some (.int j, ρ)) i = ioL ρ[i]? j ρ := rfl
theorem io2 (ms : List PyData) (j : Int) (ρ : Rho) : ioL (some (.m (.l ms))) j ρ = (atI ms j).map fun d => (d, ρ) := rfl
def shapesB : List PyData := [.str "band", .str "board", .str "fan", .str "klein", .str "torus", .str "tube"]
theorem nin_ok {d : PyData} (h1 : atom d = false) (h2 : layB d shapesB = true) (h3 : inA d shapesB = false) : ninT d shapesT = some (.bool true) := by
  have e1 : inD true d shapesT = none := by
    show (if (atom d && _) = true then _ else _) = none
    rw [h1]
    rfl
  have e2 : inP true d shapesT = some (.bool true) := by
    show (if layB d shapesB = true then some (PyData.bool (!inA d shapesB)) else none) = _
    rw [if_pos h2, h3]
    rfl
  unfold ninT inG
  rw [e1, e2]
  rfl
theorem badw_tup : BadW (.tuple [.str "fan"]) := ⟨nin_ok rfl (by decide +kernel) (by decide +kernel), .inl rfl⟩
theorem badw_fan : BadW (.list [.str "fan"]) := ⟨nin_ok rfl (by decide +kernel) (by decide +kernel), .inl rfl⟩
theorem badw_torus : BadW (.list [.str "torus"]) := ⟨nin_ok rfl (by decide +kernel) (by decide +kernel), .inl rfl⟩
theorem badw_nil : BadW (.list []) := ⟨nin_ok rfl (by decide +kernel) (by decide +kernel), .inl rfl⟩
theorem badw_dict : BadW (.dict []) := ⟨rfl, .inl rfl⟩
/-- the words and how many parts they have -/
def Wd (s : Str) (tl : List PyData) : Prop := (s ∈ five ∧ tl = []) ∨ (s = "torus" ∧ ∃ c : Int, tl = [.int c] ∧ 0 ≤ c ∧ c ≤ 60)
theorem Wd.len {s : Str} {tl : List PyData} (h : Wd s tl) : tl.length ≤ 1 := by
  rcases h with ⟨_, rfl⟩ | ⟨_, c, rfl, _⟩ <;> simp
theorem bad_parts {s : Str} {tl : List PyData} (hw : Wd s tl) {p q : PyData} (h : wh p = false ∨ wh q = false) : Jd (.tuple (.str s :: p :: q :: tl)) false := by
  rcases hw with ⟨hs, rfl⟩ | ⟨rfl, c, rfl, _⟩
  · have hq : ([p, q] : List PyData).all wh = false := by
      rcases h with h | h <;> simp [h]
    simp only [five, List.mem_cons, List.not_mem_nil, or_false] at hs
    rcases hs with rfl | rfl | rfl | rfl | rfl
    · exact j_band_3 rfl hq
    · exact j_board_3 rfl hq
    · exact j_fan_3 rfl hq
    · exact j_klein_3 rfl hq
    · exact j_tube_3 rfl hq
  · exact j_torus_4 rfl (by rcases h with h | h <;> simp [h])
theorem zero_part {s : Str} {tl : List PyData} (hw : Wd s tl) {b : Int} (hb : 1 ≤ b ∧ b ≤ 60) : g_is_shape [.tuple (.str s :: .int 0 :: .int b :: tl)] = some (.bool false) := by
  rcases hw with ⟨hs, rfl⟩ | ⟨rfl, c, rfl, h0, h1⟩
  · have := prog_two hs (sm_small (a := 0) (by omega)) (sm_small (a := b) (by omega))
    rw [this]
    rfl
  · have := (both_three (sm_small (a := 0) (by omega)) (sm_small (a := b) (by omega)) (sm_small (a := c) (by omega))).1
    rw [this]
    rfl
theorem less_part {s : Str} {tl : List PyData} (hw : Wd s tl) {a : Int} (ha : 1 ≤ a ∧ a ≤ 60) : g_is_shape [.tuple [.str s, .int a, .int (-2)]] = some (.bool false) := by
  rcases hw with ⟨hs, rfl⟩ | ⟨rfl, c, rfl, h0, h1⟩
  · have := prog_two hs (sm_small (a := a) (by omega)) (sm_small (a := -2) (by omega))
    rw [this]
    unfold two3
    rw [decide_eq_false (by decide : ¬ (1 : Int) ≤ -2), Bool.and_false]
    rfl
  · exact (j_torus_3 rfl).1
theorem five_no {s : Str} (hs : s ∈ five) {a b : Int} (ha : -1000 ≤ a ∧ a ≤ 1000) (hb : -1000 ≤ b ∧ b ≤ 1000) (h : two3 s a b = false) : g_is_shape [.tuple [.str s, .int a, .int b]] = some (.bool false) := by
  rw [prog_two hs (sm_small ha) (sm_small hb), h]
theorem torus_no {a b c : Int} (ha : -1000 ≤ a ∧ a ≤ 1000) (hb : -1000 ≤ b ∧ b ≤ 1000) (hc : -1000 ≤ c ∧ c ≤ 1000) (h : three4 a b c = false) : g_is_shape [.tuple [.str "torus", .int a, .int b, .int c]] = some (.bool false) := by
  rw [(both_three (sm_small ha) (sm_small hb) (sm_small hc)).1, h]
def noL (s : Str) (a b : Int) (tl : List PyData) : List PyData :=
  [.none, .int 7, .str "fan", .tuple [], .tuple [.str s], .tuple [.str s, .int a], .list (.str s :: .int a :: .int b :: tl), .tuple (.str s :: .int a :: .int b :: (tl ++ [.int 0, .int 0])), .tuple [.int a, .int b, .str s], .dict [],
   .tuple [.str "Board", .int 2, .int 2], .tuple (.str s :: .int 0 :: .int b :: tl), .tuple (.str s :: .int a :: .bool true :: tl), .tuple [.str s, .int a, .int (-2)],
   .tuple [.str "tube", .int 2, .int 3], .tuple [.str "klein", .int 3, .int 2], .tuple [.str "klein", .int 2, .int 3], .tuple [.str "band", .int 2, .int 3], .tuple [.str "torus", .int 2, .int 2],
   .tuple [.str "fan", .int 2, .int 6], .tuple [.str "fan", .int 61, .int 1], .tuple [.str "torus", .int 2, .int 2, .int 1], .tuple [.str "torus", .int 1, .int 2, .int 3], .tuple [.str "torus", .int 1, .int 2, .int (-1)],
   .tuple [.str "torus", .int 2, .int 3, .int 0], .tuple [.str "board", .int 2, .int 2, .int 0], .tuple [.str "board", .str "2", .int 2], .tuple [.str "board", .int (10 ^ 30), .int 1],
   .tuple [.str "cube", .int 2, .int 2], .tuple [.str "board", .int 61, .int 1], .tuple [.tuple [.str "fan"], .int 2, .int 2], .tuple [.list [.str "fan"], .int 2, .int 2], .tuple [.dict [], .int 2, .int 2],
   .tuple [.list [.str "torus"], .int 1, .int 2, .int 1], .tuple (.str s :: .list [] :: .int b :: tl), .tuple (.str s :: .int a :: .dict [] :: tl), .tuple [.str "torus", .int 1, .int 2, .list []]]
theorem noL_all {s : Str} {tl : List PyData} (hw : Wd s tl) {a b : Int} (ha : 1 ≤ a ∧ a ≤ 60) (hb : 1 ≤ b ∧ b ≤ 60) : ∀ d ∈ noL s a b tl, g_is_shape [d] = some (.bool false) := by
  have ln := hw.len
  unfold noL
  simp only [List.forall_mem_cons]
  refine ⟨(j_not rfl).1, (j_not rfl).1, (j_not rfl).1, (j_len (.inl (by decide))).1, (j_len (.inl (by simp))).1, (j_len (.inl (by simp))).1, (j_not rfl).1, (j_len (.inr (by simp only [List.length_cons, List.length_append, List.length_nil]; omega))).1, (j_word (.inl rfl) ⟨rfl, .inl rfl⟩).1, (j_not rfl).1, (j_word (.inl rfl) ⟨rfl, .inr ⟨rfl, rfl⟩⟩).1, zero_part hw hb, (bad_parts hw (.inr rfl)).1, less_part hw ha, ?_⟩
  refine ⟨five_no (by decide +kernel) (by decide) (by decide) (by decide +kernel), five_no (by decide +kernel) (by decide) (by decide) (by decide +kernel), five_no (by decide +kernel) (by decide) (by decide) (by decide +kernel), five_no (by decide +kernel) (by decide) (by decide) (by decide +kernel), (j_torus_3 rfl).1, ?_⟩
  refine ⟨five_no (by decide +kernel) (by decide) (by decide) (by decide +kernel), five_no (by decide +kernel) (by decide) (by decide) (by decide +kernel), torus_no (by decide) (by decide) (by decide) (by decide +kernel), torus_no (by decide) (by decide) (by decide) (by decide +kernel), torus_no (by decide) (by decide) (by decide) (by decide +kernel), ?_⟩
  have big : Sm (10 ^ 30) := by
    unfold Sm
    decide +kernel
  have fb := prog_two (s := "board") (by decide +kernel) big (sm_small (a := 1) (by decide))
  refine ⟨torus_no (by decide) (by decide) (by decide) (by decide +kernel), (j_board_4 rfl).1, (j_board_3 rfl rfl).1, ?_, ?_⟩
  · rw [fb, show two3 "board" (10 ^ 30) 1 = false by decide +kernel]
  · refine ⟨(j_word (.inl rfl) ⟨rfl, .inr ⟨rfl, rfl⟩⟩).1, five_no (by decide +kernel) (by decide) (by decide) (by decide +kernel), (j_word (.inl rfl) badw_tup).1, (j_word (.inl rfl) badw_fan).1, (j_word (.inl rfl) badw_dict).1, ?_⟩
    refine ⟨(j_word (.inr rfl) badw_torus).1, (bad_parts hw (.inl rfl)).1, (bad_parts hw (.inr rfl)).1, (j_torus_4 rfl rfl).1, ?_⟩
    intro d hd
    cases hd
theorem no_ok {k : Nat} {ms : List PyData} {s : Str} {tl : List PyData} (hw : Wd s tl) {a b : Int} (ha : 1 ≤ a ∧ a ≤ 60) (hb : 1 ≤ b ∧ b ≤ 60) (P : Pot k ms) (hk : k < 2 ^ 60) :
    ∃ d, ∃ ms' : List PyData, g__law_no_shape ms [.tuple (.str s :: .int a :: .int b :: tl)] = some (d, ms') ∧ g_is_shape [d] = some (.bool false) ∧ Pot (k + 1) ms' := by
  obtain ⟨r, ms1, e1, r0, r1, P1⟩ := take_ok (n := 37) P (by omega) (by decide) (by decide)
  obtain ⟨d, hd, dm⟩ := pick (L := noL s a b tl) r0 (show r < ((37 : Nat) : Int) by omega)
  have sl3 : slD (.tuple (.str s :: .int a :: .int b :: tl)) none (some 3) = some (.tuple [.str s, .int a, .int b]) := by
    rcases hw with ⟨_, rfl⟩ | ⟨_, c, rfl, _⟩ <;> rfl
  have slr : slD (.tuple (.str s :: .int a :: .int b :: tl)) (some 3) none = some (.tuple tl) := by
    rcases hw with ⟨_, rfl⟩ | ⟨_, c, rfl, _⟩ <;> rfl
  have ln := hw.len
  have at3 : ∀ x y z : PyData, addD (.tuple [x, y, z]) (.tuple tl) = some (.tuple (x :: y :: z :: tl)) := fun x y z => addT_all (by simp only [List.length_cons, List.length_nil]; omega)
  have at00 : addD (.tuple (.str s :: .int a :: .int b :: tl)) (.tuple [.int 0, .int 0]) = some (.tuple (.str s :: .int a :: .int b :: (tl ++ [.int 0, .int 0]))) := addT_all (by simp only [List.length_cons, List.length_nil]; omega)
  have ls : listD [.tuple (.str s :: .int a :: .int b :: tl)] = some (.list (.str s :: .int a :: .int b :: tl)) := rfl
  have n2 : negD (.int 2) = some (.int (-2)) := rfl
  have n1 : negD (.int 1) = some (.int (-1)) := rfl
  have pw : powD (.int 10) (.int 30) = some (.int (10 ^ 30)) := pow_ok 4 (by decide) (by decide) (by decide) (by decide)
  have z : ∀ n : Nat, n ≤ 90000 → Tw.sizeOk n = true := fun n h => sz_of_len h
  have z0 := z 0 (by decide)
  have z1 := z 1 (by decide)
  have z2 := z 2 (by decide)
  have z3 := z 3 (by decide)
  have z4 := z 4 (by decide)
  have z5 := z 5 (by decide)
  have z10 := z 10 (by decide)
  have z14 := z 14 (by decide)
  have z19 := z 19 (by decide)
  have z24 := z 24 (by decide)
  have z28 := z 28 (by decide)
  have z33 := z 33 (by decide)
  have z36 := z 36 (by decide)
  have ap : ∀ L : List PyData, L.length = 36 → ∀ d : PyData, appG L [d] = some (.none, L ++ [d]) := fun L h d => app_ok (by omega)
  refine ⟨d, ms1, ?_, noL_all hw ha hb d dm, P1⟩
  unfold noL at hd
  unfold g__law_no_shape runM f__law_no_shape
  simp -implicitDefEqProofs only [rvs, eq_self, gNm, and_self, owk, List.getElem?_cons_zero, List.getElem?_cons_succ, List.length_cons, List.length_nil, List.set_cons_zero, List.set_cons_succ, List.map_cons, List.map_nil, List.cons_append, List.nil_append, List.replicate_succ, List.replicate_zero, Nat.reduceAdd, Nat.reduceSub, Nat.reduceLT, Nat.reduceEqDiff, Option.bind_some, Option.bind_none, Option.map_some, Option.map_none, if_true, if_false, ite_true, ite_false, ↓reduceIte, Bool.not_true, Bool.not_false, sl3, slr, at3, at00, ls, n2, n1, pw, z0, z1, z2, z3, z4, z5, z10, z14, z19, z24, z28, z33, z36, r_ownAdd, oa1, oa2, ap, e1, hd]
end Lw

set_option Elab.async false
set_option linter.all false
set_option maxRecDepth 100000
set_option maxHeartbeats 8000000
namespace Lw
open PySem PySem.Spec PyProof.Rows L2 Tw
/-! ### a shape with one thing otherwise -/
theorem Shp.form {d : PyData} (h : Shp d) : ∃ (s : Str) (a b : Int) (tl : List PyData), d = .tuple (.str s :: .int a :: .int b :: tl) ∧ Wd s tl ∧ (1 ≤ a ∧ a ≤ 60) ∧ (1 ≤ b ∧ b ≤ 60) := by
  cases h with
  | two s a b hs h ha hb => exact ⟨s, a, b, [], rfl, .inl ⟨hs, rfl⟩, ha, hb⟩
  | tor a b c h ha hb hc => exact ⟨"torus", a, b, [.int c], rfl, .inr ⟨rfl, c, rfl, hc⟩, ha, hb⟩
theorem Wd.word {s : Str} {tl : List PyData} (h : Wd s tl) : s ∈ wordsL := by
  rcases h with ⟨h, _⟩ | ⟨rfl, _⟩
  · simp only [five, wordsL, List.mem_cons, List.not_mem_nil, or_false] at h ⊢
    rcases h with h | h | h | h | h
    · exact .inl h
    · exact .inr (.inl h)
    · exact .inr (.inr (.inl h))
    · exact .inr (.inr (.inr (.inl h)))
    · exact .inr (.inr (.inr (.inr (.inr h))))
  · decide +kernel
/-- a small whole number -/
def SI (p : PyData) : Prop := ∃ i : Int, p = .int i ∧ -1000 ≤ i ∧ i ≤ 1000
theorem SI.ok {p : PyData} (h : SI p) : OkP p := by
  obtain ⟨i, rfl, h⟩ := h
  exact .inl ⟨i, rfl, sm_small h⟩
/-- it may be shown beside lists, or beside dicts -/
def Sn (d : PyData) : Prop := ∃ l c : Bool, (l && c) = false ∧ Fn l c 300 5 d
def Pl (d : PyData) : Prop := ∀ l c : Bool, Fn l c 300 5 d
theorem SI.pl {p : PyData} (h : SI p) : Pl p := by
  obtain ⟨i, rfl, h0, h1⟩ := h
  exact fun l c => .int (Nat.lt_of_lt_of_le (m := 1001) (by omega) (by decide)) (by decide)
theorem Pl.sn {d : PyData} (h : Pl d) : Sn d := ⟨true, false, rfl, h true false⟩
theorem word_pl {s : Str} (h : s ∈ wordsL) : Pl (.str s) := by
  simp only [wordsL, List.mem_cons, List.not_mem_nil, or_false] at h
  rcases h with rfl | rfl | rfl | rfl | rfl | rfl <;> exact fun l c => .str (by decide +kernel) (by decide +kernel)
theorem mid_shown {P Q : List PyData} {x : PyData} (hP : ∀ d ∈ P, Pl d) (hQ : ∀ d ∈ Q, Pl d) (hx : Sn x) (hl : P.length + Q.length ≤ 10) : shownOk (.tuple (P ++ x :: Q)) = true := by
  obtain ⟨l, c, h, hx⟩ := hx
  have hP' : FnL l c (301 * 10) 5 P := FnL.all 10 (by omega) fun d hd => hP d hd l c
  have hQ' : FnL l c (301 * 10) 5 Q := FnL.all 10 (by omega) fun d hd => hQ d hd l c
  exact ((Fn.tup (hP'.app (FnL.cons hx hQ'))).wide (by omega) (by omega)).ok h
theorem plain_shown {P : List PyData} (hP : ∀ d ∈ P, Pl d) (hl : P.length ≤ 10) : shownOk (.tuple P) = true ∧ shownOk (.list P) = true := by
  have hP' : ∀ l c, FnL l c (301 * 10) 5 P := fun l c => FnL.all 10 (by omega) fun d hd => hP d hd l c
  exact ⟨((Fn.tup (hP' true false)).wide (by omega) (by omega)).ok rfl, ((Fn.lst (hP' true false)).wide (by omega) (by omega)).ok rfl⟩
def oddL (o : Int) : List PyData := [.int (o + 1), .int (o - 1), .int (o + 2), .int (0 - o), .int 0, .int 61, .int 60, .int (10 ^ 39), .bool true, .str (toString o), .none, .tuple [.int o], .list [], .dict []]
theorem digits_ok : ((List.range 61).all fun n => ((Str.ofString (toString (n : Int))).cps.toList.all fun c => decide (c < 16 ^ 8)) && decide ((Str.ofString (toString (n : Int))).cps.size ≤ 300)) = true := by decide +kernel
theorem oddL_ok {o : Int} (ho : 0 ≤ o ∧ o ≤ 60) : ∀ d ∈ oddL o, OkP d ∧ Sn d := by
  have si : ∀ i : Int, -1000 ≤ i → i ≤ 1000 → OkP (.int i) ∧ Sn (.int i) := fun i h0 h1 => ⟨SI.ok ⟨i, rfl, h0, h1⟩, Pl.sn (SI.pl ⟨i, rfl, h0, h1⟩)⟩
  unfold oddL
  simp only [List.forall_mem_cons]
  refine ⟨si _ (by omega) (by omega), si _ (by omega) (by omega), si _ (by omega) (by omega), si _ (by omega) (by omega), si _ (by omega) (by omega), si _ (by omega) (by omega), si _ (by omega) (by omega), ⟨.inl ⟨_, rfl, ?_⟩, true, false, rfl, .int (by decide +kernel) (by decide)⟩, ⟨.inr rfl, true, false, rfl, .bool _⟩, ⟨.inr rfl, true, false, rfl, ?_⟩, ⟨.inr rfl, true, false, rfl, .none⟩, ⟨.inr rfl, true, false, rfl, ?_⟩, ⟨.inr rfl, true, false, rfl, ?_⟩, ⟨.inr rfl, false, true, rfl, .dict0⟩, ?_⟩
  · unfold Sm
    decide +kernel
  · have := List.all_eq_true.mp digits_ok o.toNat (List.mem_range.mpr (by omega))
    rw [show ((o.toNat : Nat) : Int) = o by omega] at this
    obtain ⟨a, b⟩ := Bool.and_eq_true_iff.mp this
    exact .str a (of_decide_eq_true b)
  · exact (Fn.tup (FnL.cons (W1 := 200) (W2 := 0) (D := 4) (.int (Nat.lt_of_lt_of_le (m := 1001) (by omega) (by decide)) (by decide)) .nil)).wide (by decide) (by decide)
  · exact (Fn.lst (FnL.nil (W := 0) (D := 4))).wide (by decide) (by decide)
  · intro d hd
    cases hd
def wdsL : List PyData := [.str "band", .str "board", .str "fan", .str "klein", .str "torus", .str "tube", .str "Fan", .str "", .str "bands", .list [], .dict [], .tuple [.str "fan"], .none]
theorem wdsL_ok : ∀ w ∈ wdsL, ((∃ s ∈ wordsL, w = .str s) ∨ BadW w) ∧ Sn w := by
  have g : ∀ s : Str, s ∈ wordsL → ((∃ t ∈ wordsL, PyData.str s = .str t) ∨ BadW (.str s)) ∧ Sn (.str s) := fun s h => ⟨.inl ⟨s, h, rfl⟩, (word_pl h).sn⟩
  unfold wdsL
  simp only [List.forall_mem_cons]
  refine ⟨g _ (by decide +kernel), g _ (by decide +kernel), g _ (by decide +kernel), g _ (by decide +kernel), g _ (by decide +kernel), g _ (by decide +kernel), ⟨.inr ⟨rfl, .inr ⟨rfl, rfl⟩⟩, true, false, rfl, .str (by decide +kernel) (by decide +kernel)⟩, ⟨.inr ⟨rfl, .inr ⟨rfl, rfl⟩⟩, true, false, rfl, .str (by decide +kernel) (by decide +kernel)⟩, ⟨.inr ⟨rfl, .inr ⟨rfl, rfl⟩⟩, true, false, rfl, .str (by decide +kernel) (by decide +kernel)⟩, ⟨.inr badw_nil, true, false, rfl, (Fn.lst (FnL.nil (W := 0) (D := 4))).wide (by decide) (by decide)⟩, ⟨.inr badw_dict, false, true, rfl, .dict0⟩, ⟨.inr badw_tup, true, false, rfl, ?_⟩, ⟨.inr ⟨rfl, .inl rfl⟩, true, false, rfl, .none⟩, ?_⟩
  · exact (Fn.tup (FnL.cons (W1 := 200) (W2 := 0) (D := 4) (.str (by decide +kernel) (by decide +kernel)) .nil)).wide (by decide) (by decide)
  · intro d hd
    cases hd
/-- a place of a shape, what is ahead of it and behind -/
theorem cuts {s : Str} {tl : List PyData} (hw : Wd s tl) {a b : Int} (ha : 1 ≤ a ∧ a ≤ 60) (hb : 1 ≤ b ∧ b ≤ 60) {r : Int} (r0 : 0 ≤ r) (r1 : r < 2 + (tl.length : Int)) :
    ∃ (A C : List PyData) (o : Int), .int a :: .int b :: tl = A ++ .int o :: C ∧ (0 ≤ o ∧ o ≤ 60) ∧ slD (.tuple (.str s :: .int a :: .int b :: tl)) none (some (1 + r)) = some (.tuple (.str s :: A)) ∧ slD (.tuple (.str s :: .int a :: .int b :: tl)) (some (1 + r + 1)) none = some (.tuple C) ∧ ixD (.tuple (.str s :: .int a :: .int b :: tl)) (.int (1 + r)) = some (.int o) := by
  rcases hw with ⟨_, rfl⟩ | ⟨_, c, rfl, h0, h1⟩
  · have : r = 0 ∨ r = 1 := by simp at r1; omega
    rcases this with rfl | rfl
    · exact ⟨[], [.int b], a, rfl, by omega, rfl, rfl, ixTn (k := 1) rfl⟩
    · exact ⟨[.int a], [], b, rfl, by omega, rfl, rfl, ixTn (k := 2) rfl⟩
  · have : r = 0 ∨ r = 1 ∨ r = 2 := by simp at r1; omega
    rcases this with rfl | rfl | rfl
    · exact ⟨[], [.int b, .int c], a, rfl, by omega, rfl, rfl, ixTn (k := 1) rfl⟩
    · exact ⟨[.int a], [.int c], b, rfl, by omega, rfl, rfl, ixTn (k := 2) rfl⟩
    · exact ⟨[.int a, .int b], [], c, rfl, by omega, rfl, rfl, ixTn (k := 3) rfl⟩
theorem Wd.si {s : Str} {tl : List PyData} (hw : Wd s tl) {a b : Int} (ha : 1 ≤ a ∧ a ≤ 60) (hb : 1 ≤ b ∧ b ≤ 60) : ∀ p ∈ PyData.int a :: .int b :: tl, SI p := by
  intro p hp
  have : p = .int a ∨ p = .int b ∨ p ∈ tl := by simpa using hp
  rcases this with rfl | rfl | h
  · exact ⟨a, rfl, by omega, by omega⟩
  · exact ⟨b, rfl, by omega, by omega⟩
  · rcases hw with ⟨_, rfl⟩ | ⟨_, c, rfl, h0, h1⟩
    · cases h
    · have : p = .int c := by simpa using h
      exact ⟨c, this, by omega, by omega⟩
theorem bent_ok {k : Nat} {ms : List PyData} {d : PyData} (hd : Shp d) (P : Pot k ms) (hk : k < 2 ^ 60) :
    ∃ x, ∃ ms' : List PyData, g__law_bent ms [d] = some (x, ms') ∧ (∃ z, Jd x z) ∧ shownOk x = true ∧ Pot (k + 10) ms' := by
  obtain ⟨s, a, b, tl, rfl, hw, ha, hb⟩ := hd.form
  have ln := hw.len
  obtain ⟨r, ms1, e1, r0, r1, P1⟩ := take_ok (n := 2 + (tl.length : Int)) P (by omega) (by omega) (by omega)
  obtain ⟨A, C, o, eA, ho, c1, c2, c3⟩ := cuts hw ha hb r0 r1
  have si := hw.si ha hb
  have lnA : A.length + C.length = 1 + tl.length := by
    have := congrArg List.length eA
    simp only [List.length_cons, List.length_append] at this
    omega
  obtain ⟨r2, ms2, e2, r20, r21, P2⟩ := take_ok (n := 14) P1 (by omega) (by decide) (by decide)
  obtain ⟨od, hod, dod⟩ := pick (L := oddL o) r20 (show r2 < ((14 : Nat) : Int) by omega)
  obtain ⟨ko, sno⟩ := oddL_ok ho od dod
  obtain ⟨r3, ms3, e3, r30, r31, P3⟩ := take_ok (n := 13) P2 (by omega) (by decide) (by decide)
  obtain ⟨w, hwd, dw⟩ := pick (L := wdsL) r30 (show r3 < ((13 : Nat) : Int) by omega)
  obtain ⟨kw, snw⟩ := wdsL_ok w dw
  obtain ⟨u, ms4, e4, u0, u1, P4⟩ := take_ok (n := 4) P3 (by omega) (by decide) (by decide)
  obtain ⟨q, ms5, e5, q0, q1, P5⟩ := take_ok (n := 10) P4 (by omega) (by decide) (by decide)
  obtain ⟨y, hy, dy⟩ := pick (L := ([0, 0, 0, 0, 1, 1, 2, 3, 4, 5] : List Int).map PyData.int) q0 (show q < ((10 : Nat) : Int) by omega)
  obtain ⟨j, hj, rfl⟩ := List.mem_map.mp dy
  have hj6 : 0 ≤ j ∧ j < 6 := by
    simp only [List.mem_cons, List.not_mem_nil, or_false] at hj
    omega
  obtain ⟨x, hx, dx⟩ := pick (L := [.tuple (.str s :: (A ++ od :: C)), .tuple (w :: .int a :: .int b :: tl), .list (.str s :: .int a :: .int b :: tl), .tuple (.str s :: (A ++ C)), .tuple (.str s :: .int a :: .int b :: (tl ++ [.int u])), .tuple (.str s :: .int b :: .int a :: tl)]) hj6.1 (show j < ((6 : Nat) : Int) by omega)
  have plw := word_pl hw.word
  have siA : ∀ p ∈ A, SI p := fun p hp => si p (eA ▸ List.mem_append_left _ hp)
  have siC : ∀ p ∈ C, SI p := fun p hp => si p (eA ▸ List.mem_append_right _ (List.mem_cons_of_mem _ hp))
  have okw : (∃ t ∈ wordsL, PyData.str s = .str t) ∨ BadW (.str s) := .inl ⟨s, hw.word, rfl⟩
  have siu : SI (.int u) := ⟨u, rfl, by omega, by omega⟩
  have good : ∀ y ∈ [PyData.tuple (.str s :: (A ++ od :: C)), .tuple (w :: .int a :: .int b :: tl), .list (.str s :: .int a :: .int b :: tl), .tuple (.str s :: (A ++ C)), .tuple (.str s :: .int a :: .int b :: (tl ++ [.int u])), .tuple (.str s :: .int b :: .int a :: tl)], (∃ z, Jd y z) ∧ shownOk y = true := by
    simp only [List.forall_mem_cons]
    refine ⟨⟨j_tuple okw fun p hp => ?_, ?_⟩, ⟨j_tuple kw fun p hp => (si p hp).ok, ?_⟩, ⟨⟨false, j_not rfl⟩, ?_⟩, ⟨j_tuple okw fun p hp => ?_, ?_⟩, ⟨j_tuple okw fun p hp => ?_, ?_⟩, ⟨j_tuple okw fun p hp => ?_, ?_⟩, ?_⟩
    · rcases List.mem_append.mp hp with h | h
      · exact (siA p h).ok
      · rcases List.mem_cons.mp h with rfl | h
        · exact ko
        · exact (siC p h).ok
    · exact mid_shown (P := .str s :: A) (fun d hd => by
        rcases List.mem_cons.mp hd with rfl | h
        · exact plw
        · exact (siA d h).pl) (fun d hd => (siC d hd).pl) sno (by rw [List.length_cons]; omega)
    · exact mid_shown (P := []) (fun d hd => by cases hd) (fun d hd => (si d hd).pl) snw (by simp only [List.length_cons, List.length_nil]; omega)
    · exact (plain_shown (fun d hd => by
        rcases List.mem_cons.mp hd with rfl | h
        · exact plw
        · exact (si d h).pl) (by simp only [List.length_cons]; omega)).2
    · rcases List.mem_append.mp hp with h | h
      · exact (siA p h).ok
      · exact (siC p h).ok
    · exact (plain_shown (fun d hd => by
        rcases List.mem_cons.mp hd with rfl | h
        · exact plw
        · rcases List.mem_append.mp h with h | h
          · exact (siA d h).pl
          · exact (siC d h).pl) (by simp only [List.length_cons, List.length_append]; omega)).1
    · have : p ∈ (PyData.int a :: .int b :: tl) ++ [.int u] := hp
      rcases List.mem_append.mp this with h | h
      · exact (si p h).ok
      · rw [List.mem_singleton.mp h]
        exact siu.ok
    · exact (plain_shown (fun d hd => by
        rcases List.mem_cons.mp hd with rfl | h
        · exact plw
        · have : d ∈ (PyData.int a :: .int b :: tl) ++ [.int u] := h
          rcases List.mem_append.mp this with h | h
          · exact (si d h).pl
          · rw [List.mem_singleton.mp h]
            exact siu.pl) (by simp only [List.length_cons, List.length_append, List.length_nil]; omega)).1
    · refine (si p ?_).ok
      simp only [List.mem_cons] at hp ⊢
      rcases hp with h | h | h
      · exact .inr (.inl h)
      · exact .inl h
      · exact .inr (.inr h)
    · exact (plain_shown (fun d hd => by
        rcases List.mem_cons.mp hd with rfl | h
        · exact plw
        · refine (si d ?_).pl
          simp only [List.mem_cons] at h ⊢
          rcases h with h | h | h
          · exact .inr (.inl h)
          · exact .inl h
          · exact .inr (.inr h)) (by simp only [List.length_cons]; omega)).1
    · intro d hd
      cases hd
  obtain ⟨gz, gs⟩ := good x dx
  have lnD : lenD [.tuple (.str s :: .int a :: .int b :: tl)] = some (.int (3 + (tl.length : Int))) := by
    show some (PyData.int ((tl.length + 1 + 1 + 1 : Nat) : Int)) = _
    congr 2
    omega
  have sb : subD (.int (3 + (tl.length : Int))) (.int 1) = some (.int (2 + (tl.length : Int))) := by
    rw [sub_int]
    congr 2
    omega
  have a1 := add_int 1 r
  have a2 := add_int (1 + r) 1
  have o1 := add_int o 1
  have o2 := sub_int o 1
  have o3 := add_int o 2
  have o4 := sub_int 0 o
  have pw : powD (.int 10) (.int 39) = some (.int (10 ^ 39)) := pow_ok 4 (by decide) (by decide) (by decide) (by decide)
  have st : strI [.int o] = some (.str (toString o)) := if_pos (by
    by_cases h0 : o.natAbs = 0
    · rw [h0]; decide
    · exact Nat.lt_of_lt_of_le ((Nat.log2_lt (k := 10) h0).mpr (by omega)) (by decide))
  have at1 : atI (oddL o) r2 = some od := hod
  have l1 : addD (.tuple (.str s :: A)) (.tuple [od]) = some (.tuple (.str s :: (A ++ [od]))) := addT_all (by simp only [List.length_cons, List.length_nil]; omega)
  have l2 : addD (.tuple (.str s :: (A ++ [od]))) (.tuple C) = some (.tuple (.str s :: (A ++ od :: C))) := by
    rw [addT_all (by simp only [List.length_cons, List.length_append, List.length_nil]; omega), List.cons_append, List.append_assoc]
    rfl
  have l3 : slD (.tuple (.str s :: .int a :: .int b :: tl)) (some 1) none = some (.tuple (.int a :: .int b :: tl)) := by
    rcases hw with ⟨_, rfl⟩ | ⟨_, c, rfl, _⟩ <;> rfl
  have l4 : addD (.tuple [w]) (.tuple (.int a :: .int b :: tl)) = some (.tuple (w :: .int a :: .int b :: tl)) := addT_all (by simp only [List.length_cons, List.length_nil]; omega)
  have l5 : listD [.tuple (.str s :: .int a :: .int b :: tl)] = some (.list (.str s :: .int a :: .int b :: tl)) := rfl
  have l6 : addD (.tuple (.str s :: A)) (.tuple C) = some (.tuple (.str s :: (A ++ C))) := addT_all (by simp only [List.length_cons]; omega)
  have l7 : addD (.tuple (.str s :: .int a :: .int b :: tl)) (.tuple [.int u]) = some (.tuple (.str s :: .int a :: .int b :: (tl ++ [.int u]))) := addT_all (by simp only [List.length_cons, List.length_nil]; omega)
  have l8 : slD (.tuple (.str s :: .int a :: .int b :: tl)) (some 1) (some 3) = some (.tuple [.int a, .int b]) := by
    rcases hw with ⟨_, rfl⟩ | ⟨_, c, rfl, _⟩ <;> rfl
  have l9 : slD (.tuple (.str s :: .int a :: .int b :: tl)) (some 3) none = some (.tuple tl) := by
    rcases hw with ⟨_, rfl⟩ | ⟨_, c, rfl, _⟩ <;> rfl
  have la : revD (.tuple [.int a, .int b]) = some (.tuple [.int b, .int a]) := rfl
  have lb : addD (.tuple [.str s]) (.tuple [.int b, .int a]) = some (.tuple [.str s, .int b, .int a]) := rfl
  have lc : addD (.tuple [.str s, .int b, .int a]) (.tuple tl) = some (.tuple (.str s :: .int b :: .int a :: tl)) := addT_all (by simp only [List.length_cons, List.length_nil]; omega)
  have ld : ixD (.tuple (.str s :: .int a :: .int b :: tl)) (.int 0) = some (.str s) := ixTn (k := 0) rfl
  have z : ∀ n : Nat, n ≤ 90000 → Tw.sizeOk n = true := fun n h => sz_of_len h
  have z0 := z 0 (by decide)
  have z1 := z 1 (by decide)
  have z2 := z 2 (by decide)
  have z3 := z 3 (by decide)
  have z5 := z 5 (by decide)
  have z10 := z 10 (by decide)
  have z13 := z 13 (by decide)
  have z14 := z 14 (by decide)
  have ap : ∀ L : List PyData, L.length = 5 → ∀ d : PyData, appG L [d] = some (.none, L ++ [d]) := fun L h d => app_ok (by omega)
  refine ⟨x, ms5, ?_, gz, gs, P5.wide (by omega)⟩
  unfold oddL at at1
  unfold wdsL at hwd
  simp only [List.map_cons, List.map_nil] at hy
  unfold g__law_bent runM f__law_bent
  simp -implicitDefEqProofs only [rvs, eq_self, gNm, and_self, owk, List.getElem?_cons_zero, List.getElem?_cons_succ, List.length_cons, List.length_nil, List.set_cons_zero, List.set_cons_succ, List.map_cons, List.map_nil, List.cons_append, List.nil_append, List.replicate_succ, List.replicate_zero, Nat.reduceAdd, Nat.reduceSub, Nat.reduceLT, Nat.reduceEqDiff, Option.bind_some, Option.bind_none, Option.map_some, Option.map_none, if_true, if_false, ite_true, ite_false, ↓reduceIte, Bool.not_true, Bool.not_false, lnD, sb, e1, a1, c3, o1, o2, o3, o4, pw, st, z0, z1, z2, z3, z5, z10, z13, z14, r_ixOwn, io1, io2, e2, at1, c1, l1, a2, c2, l2, e3, hwd, l3, l4, l5, r_ownAdd, oa1, oa2, l6, e4, l7, ap, ld, l8, la, lb, l9, lc, e5, hy, hx]
end Lw

set_option Elab.async false
set_option linter.all false
set_option maxRecDepth 100000
set_option maxHeartbeats 8000000
namespace Lw
open PySem PySem.Spec PyProof.Rows L2 Tw
/-! ### the law of shapes -/
theorem ne_same (z : Str) : neD (.str z) (.str z) = some (.bool false) := by
  show some (PyData.bool (!(z == z))) = _
  rw [beq_self_eq_true]
  rfl
theorem two_shown (z : Bool) : reprD [.list [.bool z, .bool z]] = some (.str (PyData.list [.bool z, .bool z]).shown) := repr_ok (by cases z <;> decide +kernel)
theorem bent_turn {k : Nat} {ms : List PyData} {d : PyData} (hd : Shp d) (P : Pot k ms) (hk : k < 2 ^ 60) (s0 s1 s4 s5 s6 s7 : Sl) :
    ∃ (ms' : List PyData) (t5 t6 t7 : Sl), b1_law [s0, s1, .m ms, .d d, s4, s5, s6, s7] = some (.nx [s0, s1, .m ms', .d d, s4, t5, t6, t7]) ∧ Pot (k + 10) ms' := by
  obtain ⟨x, ms1, e1, ⟨z, j1, j2⟩, sh, P1⟩ := bent_ok hd P hk
  have r := repr_ok sh
  have r2 := two_shown z
  have n1 := ne_same x.shown
  have n2 := ne_same (PyData.list [.bool z, .bool z]).shown
  have s1' : Tw.sizeOk 1 = true := rfl
  have s2' : Tw.sizeOk 2 = true := rfl
  have rp : repN (.list [.bool z]) (.int 2) = some [.bool z, .bool z] := by
    unfold repN
    dsimp only
    rw [if_pos (by simp only [List.length_cons, List.length_nil]; decide)]
    rfl
  refine ⟨ms1, .d x, .d (.str x.shown), .d (.str (PyData.list [.bool z, .bool z]).shown), ?_, P1⟩
  unfold b1_law
  simp -implicitDefEqProofs only [rvs, eq_self, gNm, and_self, owk, List.getElem?_cons_zero, List.getElem?_cons_succ, List.length_cons, List.length_nil, List.set_cons_zero, List.set_cons_succ, List.map_cons, List.map_nil, List.cons_append, List.nil_append, List.replicate_succ, List.replicate_zero, Nat.reduceAdd, Nat.reduceSub, Nat.reduceLT, Nat.reduceEqDiff, Option.bind_some, Option.bind_none, Option.map_some, Option.map_none, if_true, if_false, ite_true, ite_false, ↓reduceIte, Bool.not_true, Bool.not_false, e1, r, j1, j2, s1', rp, r2, s2', n1, n2]
theorem law_turn {ns : List Int} {k : Nat} (hk : k < 2 ^ 40) (s1 s2 s3 s4 s5 s6 s7 : Sl) :
    ∃ (t2 t3 t4 t5 t6 t7 : Sl), b2_law [.d (.list (ns.map .int)), .d (.int (k : Int)), s2, s3, s4, s5, s6, s7] = some (.nx [.d (.list (ns.map .int)), .d (.int (k : Int)), t2, t3, t4, t5, t6, t7]) := by
  obtain ⟨ms, e1, P⟩ := pot_ok (ns := ns) (k := k) (by omega)
  obtain ⟨j, ms1, e2, j0, j1, P1⟩ := take_ok (n := 3) P (by decide) (by decide) (by decide)
  obtain ⟨top, ix, ht⟩ : ∃ top : Int, ixD (.list [.int 9, .int 24, .int 60]) (.int j) = some (.int top) ∧ (top = 9 ∨ top = 24 ∨ top = 60) := by
    have : j = 0 ∨ j = 1 ∨ j = 2 := by omega
    rcases this with rfl | rfl | rfl
    · exact ⟨9, ixLn (k := 0) rfl, .inl rfl⟩
    · exact ⟨24, ixLn (k := 1) rfl, .inr (.inl rfl)⟩
    · exact ⟨60, ixLn (k := 2) rfl, .inr (.inr rfl)⟩
  obtain ⟨d, ms2, e3, hd, P2⟩ := shape_ok ht P1 (by decide)
  have i1 := hd.is
  obtain ⟨s, a, b, tl, ed, hw, ha, hb⟩ := hd.form
  obtain ⟨y, ms3, e4, i2, P3⟩ := no_ok hw ha hb P2 (by decide)
  rw [← ed] at e4
  have nb1 : notB (.bool true) (.bool true) = some (.bool false) := rfl
  have nb2 : notB (.bool false) (.bool false) = some (.bool false) := rfl
  have s3' : Tw.sizeOk 3 = true := rfl
  have hr := rng_ok (n := 6) (by decide)
  have z6 : ((6 : Nat) : Int) = 6 := rfl
  rw [z6] at hr
  obtain ⟨ρ, e, ms4, t4, t5, t6, t7, rfl, P4⟩ := for_all (ft := gNm 4) (fb := b1_law) (fun j ρ => ∃ (ms : List PyData) (t4 t5 t6 t7 : Sl), ρ = [.d (.list (ns.map .int)), .d (.int (k : Int)), .m (.l ms), .d d, t4, t5, t6, t7] ∧ Pot (100 + 10 * j) ms) (ups 0 6) 0 [.d (.list (ns.map .int)), .d (.int (k : Int)), .m (.l ms3), .d d, s4, s5, s6, s7] ⟨ms3, _, _, _, _, rfl, P3.wide (by omega)⟩ fun j c ρ hj ⟨ms, t4, t5, t6, t7, eρ, Pm⟩ => by
    subst eρ
    have hj6 : j < 6 := by
      have := (List.getElem?_eq_some_iff.mp hj).1
      rwa [Tw.ups_len] at this
    obtain ⟨ms', u5, u6, u7, eb, Pn⟩ := bent_turn hd Pm (by omega) (.d (.list (ns.map .int))) (.d (.int (k : Int))) (.d c) t5 t6 t7
    exact ⟨_, _, rfl, eb, ms', _, _, _, _, rfl, Pn.wide (by omega)⟩
  refine ⟨.m (.l ms4), .d d, t4, t5, t6, t7, ?_⟩
  unfold b2_law
  simp -implicitDefEqProofs only [rvs, eq_self, gNm, and_self, owk, List.getElem?_cons_zero, List.getElem?_cons_succ, List.length_cons, List.length_nil, List.set_cons_zero, List.set_cons_succ, List.map_cons, List.map_nil, List.cons_append, List.nil_append, List.replicate_succ, List.replicate_zero, Nat.reduceAdd, Nat.reduceSub, Nat.reduceLT, Nat.reduceEqDiff, Option.bind_some, Option.bind_none, Option.map_some, Option.map_none, if_true, if_false, ite_true, ite_false, ↓reduceIte, Bool.not_true, Bool.not_false, e1, s3', e2, ix, e3, i1, nb1, e4, i2, nb2, hr, e]
theorem ans (ns : List Int) (hn : ns.length ≤ 63) : g_law [.list (ns.map .int)] = some (.bool true) := by
  obtain ⟨n, en, hn2⟩ : ∃ n : Nat, (if (if ((ns.map PyData.int).length : Int) < (24 : Int) then ((ns.map PyData.int).length : Int) else (24 : Int)) > 1 then (if ((ns.map PyData.int).length : Int) < (24 : Int) then ((ns.map PyData.int).length : Int) else (24 : Int)) else (1 : Int)) = (n : Int) ∧ n ≤ 63 := by
    rw [List.length_map]
    by_cases c : (ns.length : Int) < (24 : Int)
    · simp only [if_pos c]
      by_cases h : (ns.length : Int) > 1
      · rw [if_pos h]
        exact ⟨ns.length, rfl, hn⟩
      · rw [if_neg h]
        exact ⟨1, rfl, by decide⟩
    · simp only [if_neg c]
      exact ⟨24, rfl, by decide⟩
  have mx : ∀ i j : Int, maxD [.int i, .int j] = some (.int (if j > i then j else i)) := fun _ _ => rfl
  have mn : ∀ i j : Int, minD [.int i, .int j] = some (.int (if j < i then j else i)) := fun _ _ => rfl
  have ln : lenD [.list (ns.map PyData.int)] = some (.int ((ns.map PyData.int).length : Nat)) := rfl
  have hr := rng_ok (n := n) (by omega)
  obtain ⟨ρ, e, s1', s2', s3', s4', s5', s6', s7', rfl⟩ := for_all (ft := gNm 1) (fb := b2_law) (fun j ρ => ∃ s1 s2 s3 s4 s5 s6 s7, ρ = [.d (.list (ns.map .int)), s1, s2, s3, s4, s5, s6, s7]) (ups 0 n) 0 [.d (.list (ns.map .int)), .un, .un, .un, .un, .un, .un, .un] ⟨_, _, _, _, _, _, _, rfl⟩ fun j d ρ hj ⟨s1, s2, s3, s4, s5, s6, s7, eρ⟩ => by
    subst eρ
    have hjn : j < n := by
      have := (List.getElem?_eq_some_iff.mp hj).1
      rwa [Tw.ups_len] at this
    have ed := ups_get hj
    rw [Int.zero_add] at ed
    subst ed
    obtain ⟨t2, t3, t4, t5, t6, t7, e⟩ := law_turn (ns := ns) (k := j) (by omega) s1 s2 s3 s4 s5 s6 s7
    exact ⟨_, _, rfl, e, _, _, _, _, _, _, _, rfl⟩
  have sw : reprD [.tuple [.str "band", .str "board", .str "fan", .str "klein", .str "torus", .str "tube"]] = some (.str (PyData.tuple [.str "band", .str "board", .str "fan", .str "klein", .str "torus", .str "tube"]).shown) := repr_ok (plain_shown (fun d hd => by
    simp only [List.mem_cons, List.not_mem_nil, or_false] at hd
    rcases hd with rfl | rfl | rfl | rfl | rfl | rfl <;> exact word_pl (by decide +kernel)) (by decide)).1
  have es : ∀ z : Str, eqD (.str z) (.str z) = some (.bool true) := fun z => by
    rw [eq_str2, beq_self_eq_true]
  have s6' : Tw.sizeOk 6 = true := rfl
  unfold g_law runP f_law
  simp -implicitDefEqProofs only [rvs, eq_self, gNm, and_self, owk, List.getElem?_cons_zero, List.getElem?_cons_succ, List.length_cons, List.length_nil, List.set_cons_zero, List.set_cons_succ, List.map_cons, List.map_nil, List.cons_append, List.nil_append, List.replicate_succ, List.replicate_zero, Nat.reduceAdd, Nat.reduceSub, Nat.reduceLT, Nat.reduceEqDiff, Option.bind_some, Option.bind_none, Option.map_some, Option.map_none, if_true, if_false, ite_true, ite_false, ↓reduceIte, Bool.not_true, Bool.not_false, ln, mx, mn, en, hr, e, s6', sw, es]
end Lw

namespace Lw
open PySem PySem.Spec PyProof.Rows L2 Tw
theorem facts {l : PySem.W.OpenLaw} {w : World} {K : PySem.W.Frag} {h : Heap} {mg : Str → Option Value} {fa : Addr} (X : K.In h) (G : h.Ns mainGlobals mg) (hfa : mg "law" = some (.ref fa))
    {f__law_pot_ : Addr} {od__law_pot an__law_pot : Option Addr} {sl__law_pot : Array (Option Value)} {oc__law_pot kV__law_pot dc__law_pot pm__law_pot cd__law_pot ct__law_pot : Value}
    {f__law_take_ : Addr} {od__law_take an__law_take : Option Addr} {sl__law_take : Array (Option Value)} {oc__law_take kV__law_take dc__law_take pm__law_take cd__law_take ct__law_take : Value}
    {f__law_shape_ : Addr} {od__law_shape an__law_shape : Option Addr} {sl__law_shape : Array (Option Value)} {oc__law_shape kV__law_shape dc__law_shape pm__law_shape cd__law_shape ct__law_shape : Value}
    {f__law_bent_ : Addr} {od__law_bent an__law_bent : Option Addr} {sl__law_bent : Array (Option Value)} {oc__law_bent kV__law_bent dc__law_bent pm__law_bent cd__law_bent ct__law_bent : Value}
    {f_is_whole_ : Addr} {od_is_whole an_is_whole : Option Addr} {sl_is_whole : Array (Option Value)} {oc_is_whole kV_is_whole dc_is_whole pm_is_whole cd_is_whole ct_is_whole : Value}
    {f_is_shape_ : Addr} {od_is_shape an_is_shape : Option Addr} {sl_is_shape : Array (Option Value)} {oc_is_shape kV_is_shape dc_is_shape pm_is_shape cd_is_shape ct_is_shape : Value}
    {f__law_no_shape_ : Addr} {od__law_no_shape an__law_no_shape : Option Addr} {sl__law_no_shape : Array (Option Value)} {oc__law_no_shape kV__law_no_shape dc__law_no_shape pm__law_no_shape cd__law_no_shape ct__law_no_shape : Value}
    {f__law_is_shape_ : Addr} {od__law_is_shape an__law_is_shape : Option Addr} {sl__law_is_shape : Array (Option Value)} {oc__law_is_shape kV__law_is_shape dc__law_is_shape pm__law_is_shape cd__law_is_shape ct__law_is_shape : Value}
    {f_law_ : Addr} {od_law an_law : Option Addr} {sl_law : Array (Option Value)} {oc_law kV_law dc_law pm_law cd_law ct_law : Value}
    {t_BAND : Nat}
    {t_FAN : Nat}
    {t_KLEIN : Nat}
    {t_MOST_POSTS : Nat}
    {ad_SHAPES_0 : Addr} {nn_SHAPES_0 : Nat} {sl_SHAPES_0 : Array (Option Value)}
    {t_SHAPES_1 t_SHAPES_2 t_SHAPES_3 t_SHAPES_4 t_SHAPES_5 t_SHAPES_6 : Tok}
    {t_TORUS : Nat}
    {t_TUBE : Nat}
    (a__law_pot : PySem.W.nsIn K mainGlobals "_law_pot" = some (some (.ref f__law_pot_)))
    (l__law_pot : K.lookup f__law_pot_ = some ⟨oc__law_pot, od__law_pot, .func (PySem.W.fnOf "_law_pot" "_law_pot" (defArgs s__law_pot) (defBody s__law_pot) (defScope s__law_pot) .none kV__law_pot dc__law_pot pm__law_pot an__law_pot cd__law_pot ct__law_pot), sl__law_pot⟩)
    (c__law_pot : PySem.W.codeIn K cd__law_pot "_law_pot" = true)
    (k__law_pot : PySem.W.keepIn K (.ref f__law_pot_) = true)
    (a__law_take : PySem.W.nsIn K mainGlobals "_law_take" = some (some (.ref f__law_take_)))
    (l__law_take : K.lookup f__law_take_ = some ⟨oc__law_take, od__law_take, .func (PySem.W.fnOf "_law_take" "_law_take" (defArgs s__law_take) (defBody s__law_take) (defScope s__law_take) .none kV__law_take dc__law_take pm__law_take an__law_take cd__law_take ct__law_take), sl__law_take⟩)
    (c__law_take : PySem.W.codeIn K cd__law_take "_law_take" = true)
    (k__law_take : PySem.W.keepIn K (.ref f__law_take_) = true)
    (a__law_shape : PySem.W.nsIn K mainGlobals "_law_shape" = some (some (.ref f__law_shape_)))
    (l__law_shape : K.lookup f__law_shape_ = some ⟨oc__law_shape, od__law_shape, .func (PySem.W.fnOf "_law_shape" "_law_shape" (defArgs s__law_shape) (defBody s__law_shape) (defScope s__law_shape) .none kV__law_shape dc__law_shape pm__law_shape an__law_shape cd__law_shape ct__law_shape), sl__law_shape⟩)
    (c__law_shape : PySem.W.codeIn K cd__law_shape "_law_shape" = true)
    (k__law_shape : PySem.W.keepIn K (.ref f__law_shape_) = true)
    (a__law_bent : PySem.W.nsIn K mainGlobals "_law_bent" = some (some (.ref f__law_bent_)))
    (l__law_bent : K.lookup f__law_bent_ = some ⟨oc__law_bent, od__law_bent, .func (PySem.W.fnOf "_law_bent" "_law_bent" (defArgs s__law_bent) (defBody s__law_bent) (defScope s__law_bent) .none kV__law_bent dc__law_bent pm__law_bent an__law_bent cd__law_bent ct__law_bent), sl__law_bent⟩)
    (c__law_bent : PySem.W.codeIn K cd__law_bent "_law_bent" = true)
    (k__law_bent : PySem.W.keepIn K (.ref f__law_bent_) = true)
    (a_is_whole : PySem.W.nsIn K mainGlobals "is_whole" = some (some (.ref f_is_whole_)))
    (l_is_whole : K.lookup f_is_whole_ = some ⟨oc_is_whole, od_is_whole, .func (PySem.W.fnOf "is_whole" "is_whole" (defArgs s_is_whole) (defBody s_is_whole) (defScope s_is_whole) .none kV_is_whole dc_is_whole pm_is_whole an_is_whole cd_is_whole ct_is_whole), sl_is_whole⟩)
    (c_is_whole : PySem.W.codeIn K cd_is_whole "is_whole" = true)
    (k_is_whole : PySem.W.keepIn K (.ref f_is_whole_) = true)
    (a_is_shape : PySem.W.nsIn K mainGlobals "is_shape" = some (some (.ref f_is_shape_)))
    (l_is_shape : K.lookup f_is_shape_ = some ⟨oc_is_shape, od_is_shape, .func (PySem.W.fnOf "is_shape" "is_shape" (defArgs s_is_shape) (defBody s_is_shape) (defScope s_is_shape) .none kV_is_shape dc_is_shape pm_is_shape an_is_shape cd_is_shape ct_is_shape), sl_is_shape⟩)
    (c_is_shape : PySem.W.codeIn K cd_is_shape "is_shape" = true)
    (k_is_shape : PySem.W.keepIn K (.ref f_is_shape_) = true)
    (a__law_no_shape : PySem.W.nsIn K mainGlobals "_law_no_shape" = some (some (.ref f__law_no_shape_)))
    (l__law_no_shape : K.lookup f__law_no_shape_ = some ⟨oc__law_no_shape, od__law_no_shape, .func (PySem.W.fnOf "_law_no_shape" "_law_no_shape" (defArgs s__law_no_shape) (defBody s__law_no_shape) (defScope s__law_no_shape) .none kV__law_no_shape dc__law_no_shape pm__law_no_shape an__law_no_shape cd__law_no_shape ct__law_no_shape), sl__law_no_shape⟩)
    (c__law_no_shape : PySem.W.codeIn K cd__law_no_shape "_law_no_shape" = true)
    (k__law_no_shape : PySem.W.keepIn K (.ref f__law_no_shape_) = true)
    (a__law_is_shape : PySem.W.nsIn K mainGlobals "_law_is_shape" = some (some (.ref f__law_is_shape_)))
    (l__law_is_shape : K.lookup f__law_is_shape_ = some ⟨oc__law_is_shape, od__law_is_shape, .func (PySem.W.fnOf "_law_is_shape" "_law_is_shape" (defArgs s__law_is_shape) (defBody s__law_is_shape) (defScope s__law_is_shape) .none kV__law_is_shape dc__law_is_shape pm__law_is_shape an__law_is_shape cd__law_is_shape ct__law_is_shape), sl__law_is_shape⟩)
    (c__law_is_shape : PySem.W.codeIn K cd__law_is_shape "_law_is_shape" = true)
    (k__law_is_shape : PySem.W.keepIn K (.ref f__law_is_shape_) = true)
    (a_law : PySem.W.nsIn K mainGlobals "law" = some (some (.ref f_law_)))
    (l_law : K.lookup f_law_ = some ⟨oc_law, od_law, .func (PySem.W.fnOf "law" "law" (defArgs s_law) (defBody s_law) (defScope s_law) .none kV_law dc_law pm_law an_law cd_law ct_law), sl_law⟩)
    (c_law : PySem.W.codeIn K cd_law "law" = true)
    (k_law : PySem.W.keepIn K (.ref f_law_) = true)
    (z_abs : PySem.W.nsIn K mainGlobals "abs" = some none)
    (z_all : PySem.W.nsIn K mainGlobals "all" = some none)
    (z_bool : PySem.W.nsIn K mainGlobals "bool" = some none)
    (z_int : PySem.W.nsIn K mainGlobals "int" = some none)
    (z_isinstance : PySem.W.nsIn K mainGlobals "isinstance" = some none)
    (z_len : PySem.W.nsIn K mainGlobals "len" = some none)
    (z_list : PySem.W.nsIn K mainGlobals "list" = some none)
    (z_max : PySem.W.nsIn K mainGlobals "max" = some none)
    (z_min : PySem.W.nsIn K mainGlobals "min" = some none)
    (z_range : PySem.W.nsIn K mainGlobals "range" = some none)
    (z_repr : PySem.W.nsIn K mainGlobals "repr" = some none)
    (z_str : PySem.W.nsIn K mainGlobals "str" = some none)
    (z_tuple : PySem.W.nsIn K mainGlobals "tuple" = some none)
    (q_BAND : PySem.W.nsIn K mainGlobals "BAND" = some (some (.str "band" t_BAND)))
    (q_FAN : PySem.W.nsIn K mainGlobals "FAN" = some (some (.str "fan" t_FAN)))
    (q_KLEIN : PySem.W.nsIn K mainGlobals "KLEIN" = some (some (.str "klein" t_KLEIN)))
    (q_MOST_POSTS : PySem.W.nsIn K mainGlobals "MOST_POSTS" = some (some (.int 60 t_MOST_POSTS)))
    (q_SHAPES : PySem.W.nsIn K mainGlobals "SHAPES" = some (some (.ref ad_SHAPES_0)))
    (r_SHAPES_0 : K.lookup ad_SHAPES_0 = some ⟨.type "tuple", none, .seq #[.str "band" t_SHAPES_1, .str "board" t_SHAPES_2, .str "fan" t_SHAPES_3, .str "klein" t_SHAPES_4, .str "torus" t_SHAPES_5, .str "tube" t_SHAPES_6] nn_SHAPES_0, sl_SHAPES_0⟩)
    (q_TORUS : PySem.W.nsIn K mainGlobals "TORUS" = some (some (.str "torus" t_TORUS)))
    (q_TUBE : PySem.W.nsIn K mainGlobals "TUBE" = some (some (.str "tube" t_TUBE)))
    : ∃ fd : FuncData, (∀ (s : Shared) (u : Value), BindsTo s fd ⟨[u], []⟩ [("_law_script", u)]) ∧ ∀ base : Heap, K.In base → base.Ns mainGlobals mg → FnG l.prog w K mg base 3 fa fd ["_law_script"] (spP K 1 g_law) := by
  have e := hfa.symm.trans (PySem.W.mg_of X G a_law)
  cases e
  have T : Tops K mg := ⟨PySem.W.mg_none_of X G z_abs, PySem.W.mg_none_of X G z_all, PySem.W.mg_none_of X G z_bool, PySem.W.mg_none_of X G z_int, PySem.W.mg_none_of X G z_isinstance, PySem.W.mg_none_of X G z_len, PySem.W.mg_none_of X G z_list, PySem.W.mg_none_of X G z_max, PySem.W.mg_none_of X G z_min, PySem.W.mg_none_of X G z_range, PySem.W.mg_none_of X G z_repr, PySem.W.mg_none_of X G z_str, PySem.W.mg_none_of X G z_tuple, ⟨_, PySem.W.mg_of X G q_BAND⟩, ⟨_, PySem.W.mg_of X G q_FAN⟩, ⟨_, PySem.W.mg_of X G q_KLEIN⟩, ⟨_, PySem.W.mg_of X G q_MOST_POSTS⟩, ⟨_, PySem.W.mg_of X G q_SHAPES, (.tt r_SHAPES_0 rfl rfl rfl (Evl.sz_of (by simp)) (.cons (.ss _ _) (.cons (.ss _ _) (.cons (.ss _ _) (.cons (.ss _ _) (.cons (.ss _ _) (.cons (.ss _ _) .nil)))))))⟩, ⟨_, PySem.W.mg_of X G q_TORUS⟩, ⟨_, PySem.W.mg_of X G q_TUBE⟩⟩
  refine ⟨PySem.W.fnOf "law" "law" (defArgs s_law) (defBody s_law) (defScope s_law) .none kV_law dc_law pm_law an_law cd_law ct_law, fun s u => ?_, fun base _ _ => ?_⟩
  rotate_left
  · have C__law_pot := mk__law_pot (Pr := l.prog) (w := w) (base := base) T  (fun_mk (st := s__law_pot) l__law_pot c__law_pot k__law_pot) (PySem.W.mg_of X G a__law_pot)
    have C__law_take := mk__law_take (Pr := l.prog) (w := w) (base := base) T  (fun_mk (st := s__law_take) l__law_take c__law_take k__law_take) (PySem.W.mg_of X G a__law_take)
    have C__law_shape := mk__law_shape (Pr := l.prog) (w := w) (base := base) T C__law_take (fun_mk (st := s__law_shape) l__law_shape c__law_shape k__law_shape) (PySem.W.mg_of X G a__law_shape)
    have C__law_bent := mk__law_bent (Pr := l.prog) (w := w) (base := base) T C__law_take (fun_mk (st := s__law_bent) l__law_bent c__law_bent k__law_bent) (PySem.W.mg_of X G a__law_bent)
    have C_is_whole := mk_is_whole (Pr := l.prog) (w := w) (base := base) T  (fun_mk (st := s_is_whole) l_is_whole c_is_whole k_is_whole) (PySem.W.mg_of X G a_is_whole)
    have C_is_shape := mk_is_shape (Pr := l.prog) (w := w) (base := base) T C_is_whole (fun_mk (st := s_is_shape) l_is_shape c_is_shape k_is_shape) (PySem.W.mg_of X G a_is_shape)
    have C__law_no_shape := mk__law_no_shape (Pr := l.prog) (w := w) (base := base) T C__law_take (fun_mk (st := s__law_no_shape) l__law_no_shape c__law_no_shape k__law_no_shape) (PySem.W.mg_of X G a__law_no_shape)
    have C__law_is_shape := mk__law_is_shape (Pr := l.prog) (w := w) (base := base) T  (fun_mk (st := s__law_is_shape) l__law_is_shape c__law_is_shape k__law_is_shape) (PySem.W.mg_of X G a__law_is_shape)
    have C_law := mk_law (Pr := l.prog) (w := w) (base := base) T C__law_pot C__law_shape C__law_bent C__law_take C_is_shape C__law_no_shape C__law_is_shape (fun_mk (st := s_law) l_law c_law k_law) (PySem.W.mg_of X G a_law)
    exact C_law.ok
  · exact .of_eq rfl
end Lw
open PySem PySem.W PyProof.Rows
set_option maxHeartbeats 0 in
theorem PySem.Challenge.cw_tiewheel_k81_shapes_known_holds : PySem.Challenge.rw_tiewheel_k81_shapes_known.Holds := by
  w_on; o_law; k_head; (case hw => w_witness2)
  k_fill
  refine Tw.walk_G (l := PySem.Challenge.rw_tiewheel_k81_shapes_known) (n := 63) (k := 3) (x := "_law_script") (g := Lw.g_law) rfl (by decide) rfl ⟨rfl, by decide, by decide⟩ (fun w h Y => PySem.W.kIn_of Y) ?F Lw.ans
  case F =>
    intro w mg fa h KX G hmg
    refine' Lw.facts KX G hmg ?a__law_pot ?l__law_pot ?c__law_pot ?k__law_pot ?a__law_take ?l__law_take ?c__law_take ?k__law_take ?a__law_shape ?l__law_shape ?c__law_shape ?k__law_shape ?a__law_bent ?l__law_bent ?c__law_bent ?k__law_bent ?a_is_whole ?l_is_whole ?c_is_whole ?k_is_whole ?a_is_shape ?l_is_shape ?c_is_shape ?k_is_shape ?a__law_no_shape ?l__law_no_shape ?c__law_no_shape ?k__law_no_shape ?a__law_is_shape ?l__law_is_shape ?c__law_is_shape ?k__law_is_shape ?a_law ?l_law ?c_law ?k_law ?z_abs ?z_all ?z_bool ?z_int ?z_isinstance ?z_len ?z_list ?z_max ?z_min ?z_range ?z_repr ?z_str ?z_tuple ?q_BAND ?q_FAN ?q_KLEIN ?q_MOST_POSTS ?q_SHAPES ?r_SHAPES_0 ?q_TORUS ?q_TUBE
    (case a__law_pot => k_is)
    (case l__law_pot => k_is)
    (case c__law_pot => k_is)
    (case k__law_pot => k_is)
    (case a__law_take => k_is)
    (case l__law_take => k_is)
    (case c__law_take => k_is)
    (case k__law_take => k_is)
    (case a__law_shape => k_is)
    (case l__law_shape => k_is)
    (case c__law_shape => k_is)
    (case k__law_shape => k_is)
    (case a__law_bent => k_is)
    (case l__law_bent => k_is)
    (case c__law_bent => k_is)
    (case k__law_bent => k_is)
    (case a_is_whole => k_is)
    (case l_is_whole => k_is)
    (case c_is_whole => k_is)
    (case k_is_whole => k_is)
    (case a_is_shape => k_is)
    (case l_is_shape => k_is)
    (case c_is_shape => k_is)
    (case k_is_shape => k_is)
    (case a__law_no_shape => k_is)
    (case l__law_no_shape => k_is)
    (case c__law_no_shape => k_is)
    (case k__law_no_shape => k_is)
    (case a__law_is_shape => k_is)
    (case l__law_is_shape => k_is)
    (case c__law_is_shape => k_is)
    (case k__law_is_shape => k_is)
    (case a_law => k_is)
    (case l_law => k_is)
    (case c_law => k_is)
    (case k_law => k_is)
    (case z_abs => k_is)
    (case z_all => k_is)
    (case z_bool => k_is)
    (case z_int => k_is)
    (case z_isinstance => k_is)
    (case z_len => k_is)
    (case z_list => k_is)
    (case z_max => k_is)
    (case z_min => k_is)
    (case z_range => k_is)
    (case z_repr => k_is)
    (case z_str => k_is)
    (case z_tuple => k_is)
    (case q_BAND => k_is)
    (case q_FAN => k_is)
    (case q_KLEIN => k_is)
    (case q_MOST_POSTS => k_is)
    (case q_SHAPES => k_is)
    (case r_SHAPES_0 => k_is)
    (case q_TORUS => k_is)
    (case q_TUBE => k_is)
