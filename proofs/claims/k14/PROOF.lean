import PyProof.Rows.All
import Wide.All
import OpenK.AllK
import Wide.FinOn
import HandS.ForMost
import HandS.IsInst
import HandS.More
import HandS.Style
import HandS.Zip
import HandS.Wide
import HandS.ListItems
import PyProof.ReprRoads
import PyProof.TypeEq
import HandS.Evl
import PyProof.ReprLen
import PyProof.Rows.StrJoinMade
import HandS.Ends
import HandS.SortRule
import PyProof.CallFns
import HandS.DictComp
import HandS.Deep
import PyProof.Rows.StrMeet
import HandS.Defaults
import KE.KEqDict
import HandS.Sort
import PyProof.MinMaxWalk
import PyProof.WalkInts
import KE.KSortTupAny
import HandS.Conv
import PySem.Challenge.RW_floodline_k14_loads_switch_by_switch
set_option Elab.async false
set_option linter.all false
set_option maxRecDepth 100000
set_option maxHeartbeats 8000000
/-! Rules that the laws of this program want besides the layer's own. -/
namespace FL
open PySem PySem.Spec PyProof.Rows L2

/-! ### two classes of the language compared by == -/
def IsTy (n : String) : Prop := ∀ s : Shared, s.TypeIs (.type n) "type"
def rEqTy : R2 := fun x y H Q => ∃ a b, x = .ty a ∧ y = .ty b ∧ IsTy a ∧ IsTy b ∧ Q (.bl (decide (a = b))) H
section
variable {X : Cx}
theorem op_eqTy : OpR X (compareOp .Eq) rEqTy := by
  intro pins s σ H x y v u Q I rx ry h
  obtain ⟨a, b, rfl, rfl, ha, hb, q⟩ := h
  cases rx
  cases ry
  by_cases e : a = b
  · subst e
    exact TypeEq.eq_type_same ha ⟨.bl _, H, I, (by show Value.bool true = Value.bool _; rw [decide_eq_true rfl]), q⟩
  · refine TypeEq.eq_type_other ha hb ?_ ⟨.bl _, H, I, (by show Value.bool false = Value.bool _; rw [decide_eq_false e]), q⟩
    rw [Bool.eq_false_iff]
    intro z
    rw [beq_iff_eq] at z
    injection z with z
    exact e z

/-! ### list of a text -/
def signV (x : Str) : List V := x.cps.toList.map fun c => V.str ⟨#[c]⟩
def rListStr : List V → Hp → VK → Prop := fun xs H Q => ∃ x : Str, xs = [.str x] ∧ x.length ≤ sizeLine ∧ ∀ p, H p = none → Q (.ref p) (upd H p (.lst (signV x)))
theorem vals_at : ∀ {xs : List V} {us : List Value}, us.length = xs.length → (∀ (j : Nat) (u : Value), us[j]? = some u → ∃ x, xs[j]? = some x ∧ L2.RelV x u) → Vals xs us
  | [], [], _, _ => .nil
  | [], _ :: _, h, _ => by cases h
  | _ :: _, [], h, _ => by cases h
  | x :: xs, u :: us, h, hr => by
    refine .cons ?_ (vals_at (xs := xs) (us := us) (by simpa using h) fun j v e => by simpa using hr (j + 1) v (by simpa using e))
    obtain ⟨y, e, r⟩ := hr 0 u rfl
    cases e
    exact r
theorem call_listStr (hcalm : X.calm = true) : CallR X (.type "list") rListStr := by
  intro pins s σ H xs us Q I r q
  obtain ⟨x, ex, hz, q⟩ := q
  subst ex
  obtain ⟨u, eu, rx⟩ := vals1 r
  subst eu
  obtain ⟨t, rfl⟩ := rx
  refine call_list_str (I.ok.hd hcalm) x t (hn := hz) fun h' tk acc c' hk hD hacc => ?_
  have hv : Vals (signV x) acc.toList := vals_at (by rw [Array.length_toList, hacc.1]; simp [signV]) fun j v e => by
    obtain ⟨c, u, hc, rfl⟩ := hacc.2 j v (by rw [← Array.getElem?_toList]; exact e)
    exact ⟨.str ⟨#[c]⟩, by simp [signV, hc], _, rfl⟩
  refine ⟨.ref s.heap.objs.size, upd H s.heap.objs.size (.lst (signV x)), I.laid (t' := tk) hk (Nat.le_refl _)
    (show ObjOk X.prog X.w _ _ _ (.lst (signV x)) from ⟨by simp [signV]; exact hz, acc.toList, c', hv, by rw [Array.toArray_toList]; exact hD⟩), rfl, q _ (I.hok.fresh (Nat.le_refl _))⟩
end

/-! ### list(e.values()) -/
def rValsL : V → Hp → VK → Prop := fun x H Q => ∃ (d : Addr) (kvs : List (Key × V)), x = .ref d ∧ Rd H d (.dK kvs) ∧ ∀ p, H p = none → Q (.ref p) (upd H p (.lst (kvs.map (·.2))))
def tListValues (te : TE) : TE := fun σ H Q => te σ H fun x H1 => rValsL x H1 Q
theorem kv_snd : ∀ {kvs : List (Key × V)} {vs : List (Key × Value)}, KV kvs vs → Vals (kvs.map (·.2)) (vs.map (·.2))
  | [], [], _ => .nil
  | p :: kvs, q :: vs, .cons r t => .cons r.2 (kv_snd t)
section
variable {X : Cx} {e : Expr} {te : TE} {p apos cpos pos : Pos}
theorem pe_listValues (hcalm : X.calm = true) (he : PE X e te) (hg : Gl X "list") (hm : X.mg "list" = none) (hv : bootBuiltins "list" = some (.type "list"))
    (hbase : attributeBase e "values" X.env (eval e X.env) = eval e X.env := by rfl) (hline : (apos.endLine == cpos.line) = true := by rfl)
    (hs : starEach [.Call (.Attribute e "values" apos) [] [] cpos] X.env = (false, eval (.Call (.Attribute e "values" apos) [] [] cpos) X.env) :: starEach [] X.env := by rfl) :
    PE X (.Call (.Name "list" p) [.Call (.Attribute e "values" apos) [] [] cpos] [] pos) (tListValues te) := by
  refine ⟨fun pins s σ H Q I hq => wpAny_Call_Name_kw (ld_blt I hg hm hv (PyProof.Rows.callWith_type1 ?_ hs rfl))⟩
  rw [hs]
  show wpAny (model X.prog X.w) X.A (spliced ((false, eval (Expr.Call (Expr.Attribute e "values" apos) [] [] cpos) X.env) :: backTo pos (starEach [] X.env))) _ X.xe s
  refine Calls.spliced_cons (wpAny_Call_method (args := []) (T := "dict") (id := "dict.values") hbase rfl hline F.plainAttrs_dict F.slot_dict_values F.type_dict_values
    (thn (he.run pins s σ H _ I hq) fun u s1 ⟨x, H1, I1, rx, d, kvs, ex, hd, q⟩ => ?_))
  subst ex
  obtain rfl : u = Value.ref d := rx
  obtain ⟨hz, hs0, vs, kv, hdo⟩ : ObjOk X.prog X.w H1 s1.heap d (.dK kvs) := hd.elim (I1.hok d _) fun ⟨_, hq⟩ => (I1.hok d _ hq).2
  obtain ⟨ep, hat⟩ := hdo.dictAt
  have I2 : Inv X pins σ H1 { s1 with heap := s1.heap.push { cls := .type "dict_values", data := .fields #[.ref d] } } := I1.kept (t' := s1.toks) fun b ob w => Heap.get?_push_of_some _ w
  have lk : kvs.length = vs.length := Paired.length kv
  refine ⟨hdo.typeIs, hdo.mapOf.noDict, ?_⟩
  show wpAny (model X.prog X.w) X.A (callWith cpos (Value.builtin "dict.values") [Value.ref d] [] []) _ X.xe s1
  refine method_meetsIn F.slot_dict_values F.entry_dict_values rfl (PySem.evalArgs_none ⟨rfl, hdo.typeIs, F.args_dict_values_1 _, _, meets_dict_values (mixKind X.prog X.w) d hs0, ⟨vs, hdo⟩, Calls.spliced_nil ?_⟩)
  refine PySem.W.kdl_call (PySem.W.kdl_values (knd := mixKind X.prog X.w) (kvs := vs) (ep := ep)) (I1.ok.hd hcalm) ⟨⟨_, Heap.get?_push_size _ rfl, rfl, rfl⟩, hat.push _⟩ (by omega) fun h' tk acc c' hk hD hacc => ?_
  have ev : acc.toList = vs.map (·.2) := PySem.W.kdl_vals_eq acc.toList (by rw [Array.length_toList]; exact hacc.1) fun j v e => hacc.2 j v (by rw [← Array.getElem?_toList]; exact e)
  have hvv : Vals (kvs.map (·.2)) acc.toList := by rw [ev]; exact kv_snd kv
  refine ⟨.ref _, upd H1 _ (.lst (kvs.map (·.2))), I2.laid (t' := tk) hk (Nat.le_refl _) ?_, rfl, q _ (I2.hok.fresh (Nat.le_refl _))⟩
  exact ⟨by rw [List.length_map]; exact hz, acc.toList, c', hvv, by rw [Array.toArray_toList]; exact hD⟩
end
end FL
namespace FL
open PySem PySem.Spec PyProof.Rows L2

/-! ### nested data that stands in the abstract heap: none, bools, ints, texts, lists, tuples, dicts with int and text keys -/
def kD : Key → PyData
  | .inl i => .int i
  | .inr x => .str x
mutual
inductive Dt (H : Hp) : V → PyData → Prop
  | non : Dt H .non .none
  | bl (b : Bool) : Dt H (.bl b) (.bool b)
  | int (i : Int) : Dt H (.int i) (.int i)
  | str (x : Str) : Dt H (.str x) (.str x)
  | lst {a : Addr} {xs : List V} {ds : List PyData} (h : H a = some (.lst xs)) (hs : DtAll H xs ds) : Dt H (.ref a) (.list ds)
  | tup {a : Addr} {xs : List V} {ds : List PyData} (h : H a = some (.tup xs)) (hs : DtAll H xs ds) : Dt H (.ref a) (.tuple ds)
  | dct {a : Addr} {kvs : List (Key × V)} {ds : List (PyData × PyData)} (h : H a = some (.dK kvs)) (hs : DtKv H kvs ds) : Dt H (.ref a) (.dict ds)
inductive DtAll (H : Hp) : List V → List PyData → Prop
  | nil : DtAll H [] []
  | cons {v : V} {vs : List V} {d : PyData} {ds : List PyData} (h : Dt H v d) (t : DtAll H vs ds) : DtAll H (v :: vs) (d :: ds)
inductive DtKv (H : Hp) : List (Key × V) → List (PyData × PyData) → Prop
  | nil : DtKv H [] []
  | cons {k : Key} {v : V} {kvs : List (Key × V)} {d : PyData} {ds : List (PyData × PyData)} (h : Dt H v d) (t : DtKv H kvs ds) : DtKv H ((k, v) :: kvs) ((kD k, d) :: ds)
end
mutual
theorem Dt.mono {H H' : Hp} (e : Same H H') : ∀ {d : PyData} {v : V}, Dt H v d → Dt H' v d
  | .none, _, h => by cases h; exact .non
  | .bool b, _, h => by cases h; exact .bl b
  | .int i, _, h => by cases h; exact .int i
  | .str x, _, h => by cases h; exact .str x
  | .list ds, _, h => by
    cases h with
    | lst h hs => exact .lst (e _ _ h) (DtAll.mono e hs)
  | .tuple ds, _, h => by
    cases h with
    | tup h hs => exact .tup (e _ _ h) (DtAll.mono e hs)
  | .dict ds, _, h => by
    cases h with
    | dct h hs => exact .dct (e _ _ h) (DtKv.mono e hs)
theorem DtAll.mono {H H' : Hp} (e : Same H H') : ∀ {ds : List PyData} {vs : List V}, DtAll H vs ds → DtAll H' vs ds
  | [], _, h => by cases h; exact .nil
  | d :: ds, _, h => by
    cases h with
    | cons h t => exact .cons (Dt.mono e h) (DtAll.mono e t)
theorem DtKv.mono {H H' : Hp} (e : Same H H') : ∀ {ds : List (PyData × PyData)} {kvs : List (Key × V)}, DtKv H kvs ds → DtKv H' kvs ds
  | [], _, h => by cases h; exact .nil
  | (k, d) :: ds, _, h => by
    cases h with
    | cons h t => exact .cons (Dt.mono e h) (DtKv.mono e t)
end

section
variable {X : Cx} {pins : List (Addr × Obj)} {σ : L2.St} {H : Hp} {s : Shared}
mutual
theorem Dt.reads (I : L2.Inv X pins σ H s) : ∀ (d : PyData) (v : V) (u : Value), Dt H v d → L2.RelV v u → ∃ as, Reads s.heap u d as ∧ ∀ a ∈ as, (H a).isSome = true
  | .none, _, _, h, r => by
    cases h; cases r
    exact ⟨[], .none, fun _ z => nomatch z⟩
  | .bool b, _, _, h, r => by
    cases h; cases r
    exact ⟨[], .bool b, fun _ z => nomatch z⟩
  | .int i, _, _, h, r => by
    cases h; obtain ⟨t, rfl⟩ := r
    exact ⟨[], .int i t, fun _ z => nomatch z⟩
  | .str x, _, _, h, r => by
    cases h; obtain ⟨t, rfl⟩ := r
    exact ⟨[], .str x t, fun _ z => nomatch z⟩
  | .list ds, _, _, h, r => by
    cases h with
    | @lst a xs _ h hs =>
      cases r
      obtain ⟨its, rv, ⟨o, n, ho, hc, _, hd⟩, _⟩ := I.list (SqL.of h)
      obtain ⟨as, hr, hm⟩ := Dt.readsAll I ds _ its hs rv
      refine ⟨_, .list ho hc hd hr, fun b hb => ?_⟩
      rcases List.mem_cons.mp hb with e | hb
      · rw [e, h]; rfl
      · exact hm b hb
  | .tuple ds, _, _, h, r => by
    cases h with
    | @tup a xs _ h hs =>
      cases r
      obtain ⟨its, rv, ⟨o, ho, hc, n, hd⟩, _⟩ := I.tuple (SqT.of h)
      obtain ⟨as, hr, hm⟩ := Dt.readsAll I ds _ its hs rv
      exact ⟨_, .tuple ho hc hd hr, hm⟩
  | .dict ds, _, _, h, r => by
    cases h with
    | @dct a kvs _ h hs =>
      cases r
      obtain ⟨_, _, vs, kv, o, es, ep, ho, hx, hd, _, hp, _⟩ := I.hok a _ h
      obtain ⟨as, bs, h1, h2, m1, m2⟩ := Dt.readsKv I ds kvs vs es.toList hs kv hp
      refine ⟨_, .dict ho hx.1 hd h1 h2, fun b hb => ?_⟩
      rcases List.mem_append.mp hb with hb | hb
      · rcases List.mem_cons.mp hb with e | hb
        · rw [e, h]; rfl
        · exact m1 b hb
      · exact m2 b hb
theorem Dt.readsAll (I : L2.Inv X pins σ H s) : ∀ (ds : List PyData) (vs : List V) (us : List Value), DtAll H vs ds → Vals vs us → ∃ as, ReadsAll s.heap us ds as ∧ ∀ a ∈ as, (H a).isSome = true
  | [], _, _, h, r => by
    cases h; cases r
    exact ⟨[], .nil, fun _ z => nomatch z⟩
  | d :: ds, _, _, h, r => by
    cases h with
    | cons h t =>
      cases r with
      | cons r1 r2 =>
        obtain ⟨as, q1, m1⟩ := Dt.reads I d _ _ h r1
        obtain ⟨bs, q2, m2⟩ := Dt.readsAll I ds _ _ t r2
        exact ⟨_, .cons q1 q2, fun b hb => (List.mem_append.mp hb).elim (m1 b) (m2 b)⟩
theorem Dt.readsKv (I : L2.Inv X pins σ H s) : ∀ (ds : List (PyData × PyData)) (kvs : List (Key × V)) (vs : List (Key × Value)) (es : List DictEntry), DtKv H kvs ds → KV kvs vs → Pairs (mixKind X.prog X.w) es vs →
    ∃ as bs, ReadsAll s.heap (es.map (·.key)) (ds.map (·.1)) as ∧ ReadsAll s.heap (es.map (·.val)) (ds.map (·.2)) bs ∧ (∀ a ∈ as, (H a).isSome = true) ∧ ∀ a ∈ bs, (H a).isSome = true
  | [], _, _, _, h, r, p => by
    cases h; cases r; cases p
    exact ⟨[], [], .nil, .nil, by simp, by simp⟩
  | (_, d) :: ds, _, _, _, h, r, p => by
    cases h with
    | @cons k v kvs _ _ h t =>
      cases r with
      | cons r1 r2 =>
        cases p with
        | cons p1 p2 p3 =>
          obtain ⟨e1, rv⟩ := r1
          obtain ⟨as, bs, q1, q2, m1, m2⟩ := Dt.readsKv I ds _ _ _ t r2 p3
          obtain ⟨cs, q3, m3⟩ := Dt.reads I d v _ h rv
          rename_i _ _ en _
          have q4 : Reads s.heap en.key (kD k) [] := by
            rw [← e1] at p1
            rcases keyIs_shape p1 with ⟨i, t, e, f⟩ | ⟨x, t, e, f⟩
            · have e : k = Sum.inl i := e
              rw [e, f]; exact .int i t
            · have e : k = Sum.inr x := e
              rw [e, f]; exact .str x t
          refine ⟨[] ++ as, cs ++ bs, .cons q4 q1, .cons (by show Reads s.heap en.val d cs; rw [p2]; exact q3) q2, fun b hb => m1 b hb, fun b hb => (List.mem_append.mp hb).elim (m3 b) (m2 b)⟩
end
end

/-! ### repr of such data -/
/-- no repr is running; the place of sys.modules is the base's own -/
structure Grd (A : Around) (base : Heap) : Prop where
  g : A.guards = some []
  m : ∃ o, base.get? sysModules = some o
def rReprD : List V → Hp → VK → Prop := fun xs H Q => ∃ x d, xs = [x] ∧ (∃ a, x = .ref a) ∧ Dt H x d ∧ d.showable = true ∧ d.depth ≤ 60 ∧ d.shown.length ≤ sizeLine ∧ Q (.str d.shown) H
theorem call_reprD {X : Cx} (G : Grd X.A X.base) (hu : X.A.units + 64 < cLine) : CallR X (.builtin "repr") rReprD := by
  intro pins s σ H xs us Q I r h
  obtain ⟨_, d, rfl, ⟨a, rfl⟩, hd, hs, hdp, hsz, q⟩ := h
  obtain ⟨u, rfl, ru⟩ := vals1 r
  obtain ⟨as, rd, hm⟩ := Dt.reads I d _ _ hd ru
  cases ru
  obtain ⟨o, ho⟩ := G.m
  have hn : sysModules ∉ as := fun z => by
    have e := (I.bs _ _ ho).2
    have e2 := hm _ z
    rw [e] at e2
    cases e2
  exact repr_of_reads' rd hs (fun _ => hn) G.g (by omega) (fun _ _ e => e) (fun h' u tk hk => ⟨.str d.shown, H, I.kept hk, ⟨u, rfl⟩, q⟩) hsz
end FL
namespace FL
open PySem PySem.Spec PyProof.Rows L2

/-! ### defs that are called while no repr runs -/
structure FnOkG (P : Program) (w : World) (K : PySem.W.Frag) (mg : Str → Option Value) (base : Heap) (k : Nat) (f : Addr) (fd : FuncData) (ps : List Str) (sp : Sp) : Prop where
  len : ∀ vs H Q E, sp vs H Q E → vs.length = ps.length
  run : ∀ (A : Around) (outer : List Env) (s : Shared) (H : Hp) (args : Args) (us : List Value) (vs : List V) (Q : VK) (E : XK), Room k A → A.guards = some [] →
    Env0 P w K mg base A outer s H → BindsTo s fd args (ps.zip us) → Vals vs us → sp vs H Q E → codeAny (model P w) A (.call (.ref f) args) (CR CX0 outer P w H s Q E) s
section
variable {P : Program} {w : World} {K : PySem.W.Frag} {mg : Str → Option Value} {base : Heap}
theorem FnOkG.of {k : Nat} {f : Addr} {fd : FuncData} {ps : List Str} {sp : Sp} (F : FnOk P w K mg base CX0 k f fd ps sp) : FnOkG P w K mg base k f fd ps sp :=
  ⟨F.len, fun A outer s H args us vs Q E hr _ => F.run A outer s H args us vs Q E hr⟩
/-- a def by its body, where no repr is running -/
theorem okG {x qual : Str} {st : Stmt} {f : Addr} {fd : FuncData} {N ps : List Str} {k : Nat} {sp : Sp} (hm : ∃ o, base.get? sysModules = some o) (F : Fun K x qual st f fd) (S : FnScope N ps (defScope st)) (len : ∀ vs H Q E, sp vs H Q E → vs.length = ps.length)
    (body : ∀ (X : Cx), Grd X.A X.base → ∀ (cdv : Value) (A : Around) (outer : List Env) (s : Shared) (H : Hp) (vs : List V) (Q : VK) (E : XK), X = (cxOf CX0 P w K mg base N qual (defScope st) f cdv A outer s H E).nox → Room k X.A → sp vs H Q E →
      ∃ t, PSs X (defBody st) t ∧ t { nx := fun _ H' => Q .non H', rt := Q } (start N vs) H) : FnOkG P w K mg base (k + 1) f fd ps sp := by
  obtain ⟨oc, od, kV, doc, pm, an, cdv, ct, osl, rfl, lk, hcd⟩ := F.ex
  refine ⟨len, fun A outer s H args us vs Q E hr hg e0 hb r hsp => ?_⟩
  have kx : K.In s.heap := e0.mod.kin.keeps fun b o q => (e0.bs b o q).1
  have nl : s.heap.NoLimit := e0.mod.nolimit.keeps fun b o q => (e0.bs b o q).1
  refine codeAny_call_function hr.depth (kx _ _ lk) rfl S.co S.gen rfl (PySem.W.codeRec_of kx hcd) (hb _ _ _ _ ?_)
  refine wpAny_newFunctionEnv_cells S.kind (fun y hy => ?_) fun env he s1 z => ?_
  · rcases S.par y.1 (List.of_mem_zip hy).1 with q | q
    · exact .inl q
    · exact .inr ⟨q, PySem.W.cellsFrom_some _ _ _ (.inl q)⟩
  subst he
  refine ⟨nl.keeps z.toInCall.keep, codeAny_func ?_⟩
  obtain ⟨t, ht, hq⟩ := body _ ⟨hg, hm⟩ cdv A outer s H vs Q E rfl (hr.deeper _) hsp
  have I := inv_start (CX := CX0) (E := E) (mg := mg) S hr.hd e0 (len _ _ _ _ hsp) r z
  refine wpAny_mono (ht.nox.run [] s1 (start N vs) H _ I hq) (fun fl s' hs => ?_) fun e s' hs => hs
  cases fl with
  | ret u =>
    obtain ⟨v, σ', H', J, rv, q⟩ := hs
    exact ⟨v, H', J.os, J.bare, J.base, J.hok, rv, q⟩
  | next =>
    obtain ⟨σ', H', J, q⟩ := hs
    exact ⟨V.non, H', J.os, J.bare, J.base, J.hok, rfl, q⟩
  | brk => obtain ⟨_, _, _, q⟩ := hs; exact q.elim
  | cont => obtain ⟨_, _, _, q⟩ := hs; exact q.elim
end

/-! ### a def of the module by its name -/
/-- the def x keeps the promise sp, at level k -/
structure Dfn (P : Program) (w : World) (K : PySem.W.Frag) (mg : Str → Option Value) (base : Heap) (x : Str) (ps : List Str) (k : Nat) (sp : Sp) : Prop where
  ex : ∃ f fd, mg x = some (.ref f) ∧ PySem.W.keepIn K (.ref f) = true ∧ Binds K fd ps [] ∧ FnOk P w K mg base CX0 k f fd ps sp
structure DfnG (P : Program) (w : World) (K : PySem.W.Frag) (mg : Str → Option Value) (base : Heap) (x : Str) (ps : List Str) (k : Nat) (sp : Sp) : Prop where
  ex : ∃ f fd, mg x = some (.ref f) ∧ PySem.W.keepIn K (.ref f) = true ∧ Binds K fd ps [] ∧ FnOkG P w K mg base k f fd ps sp
/-- where a def of the module stands -/
structure At (K : PySem.W.Frag) (mg : Str → Option Value) (x : Str) (st : Stmt) (ps : List Str) : Prop where
  ex : ∃ f fd, mg x = some (.ref f) ∧ Fun K x x st f fd ∧ Binds K fd ps []
theorem At.mk' {K : PySem.W.Frag} {h : Heap} {mg : Str → Option Value} {x : Str} {st : Stmt} {ps : List Str} {f : Addr} {oc : Value} {od an : Option Addr} {osl : Array (Option Value)} {kV doc pm cdv ct : Value} (X : K.In h) (G : h.Ns mainGlobals mg)
    (n : PySem.W.nsIn K mainGlobals x = some (some (.ref f))) (l : K.lookup f = some ⟨oc, od, .func (PySem.W.fnOf x x (defArgs st) (defBody st) (defScope st) .none kV doc pm an cdv ct), osl⟩)
    (c : PySem.W.codeIn K cdv x = true) (k : PySem.W.keepIn K (.ref f) = true)
    (b : ∀ (kV doc pm : Value) (an : Option Addr) (cdv ct : Value) (us : List Value), us.length = ps.length → bindArgs (PySem.W.fnOf x x (defArgs st) (defBody st) (defScope st) .none kV doc pm an cdv ct) ⟨us, []⟩ = pure (ps.zip us)) : At K mg x st ps :=
  ⟨_, _, PySem.W.mg_of X G n, fun_mk l c k, (fun_mk l c k).binds b⟩
section
variable {P : Program} {w : World} {K : PySem.W.Frag} {mg : Str → Option Value} {base : Heap}
theorem dfn {x : Str} {st : Stmt} {N ps : List Str} {k : Nat} {sp : Sp} (D : At K mg x st ps) (S : FnScope N ps (defScope st)) (len : ∀ vs H Q E, sp vs H Q E → vs.length = ps.length)
    (body : ∀ (X : Cx) (f : Addr) (cdv : Value) (A : Around) (outer : List Env) (s : Shared) (H : Hp) (vs : List V) (Q : VK) (E : XK), X = (cxOf CX0 P w K mg base N x (defScope st) f cdv A outer s H E).nox → Room k X.A → sp vs H Q E →
      ∃ t, PSs X (defBody st) t ∧ t { nx := fun _ H' => Q .non H', rt := Q } (start N vs) H) : Dfn P w K mg base x ps (k + 1) sp := by
  obtain ⟨f, fd, hg, F, b⟩ := D.ex
  exact ⟨f, fd, hg, F.kp, b, F.ok S len fun cdv A outer s H vs Q E hr h => body _ f cdv A outer s H vs Q E rfl hr h⟩
theorem dfnG {x : Str} {st : Stmt} {N ps : List Str} {k : Nat} {sp : Sp} (hm : ∃ o, base.get? sysModules = some o) (D : At K mg x st ps) (S : FnScope N ps (defScope st)) (len : ∀ vs H Q E, sp vs H Q E → vs.length = ps.length)
    (body : ∀ (X : Cx), Grd X.A X.base → ∀ (f : Addr) (cdv : Value) (A : Around) (outer : List Env) (s : Shared) (H : Hp) (vs : List V) (Q : VK) (E : XK), X = (cxOf CX0 P w K mg base N x (defScope st) f cdv A outer s H E).nox → Room k X.A → sp vs H Q E →
      ∃ t, PSs X (defBody st) t ∧ t { nx := fun _ H' => Q .non H', rt := Q } (start N vs) H) : DfnG P w K mg base x ps (k + 1) sp := by
  obtain ⟨f, fd, hg, F, b⟩ := D.ex
  exact ⟨f, fd, hg, F.kp, b, okG hm F S len fun X g cdv A outer s H vs Q E e hr h => body X g f cdv A outer s H vs Q E e hr h⟩
end
section
variable {X : Cx} {k : Nat} {ps : List Str} {sp : Sp} {x : Str} {p pos : Pos} {e : Expr} {es : List Expr} {t : TA}
theorem pe_callD (D : Dfn X.prog X.w X.K X.mg X.base x ps k sp) (hr : Room k X.A) (hg : Gl X x) (ha : PA X (e :: es) t) (hdb : (x == ("__debug__" : Str)) = false := by decide)
    (he : starEach (e :: es) X.env = (false, eval e X.env) :: starEach es X.env := by rfl) (hpl : (backTo pos (starEach es X.env)).any (·.1) = false := by rfl) : PE X (.Call (.Name x p) (e :: es) [] pos) (tCall sp [] E0 t) := by
  obtain ⟨f, fd, hm, hk, hb, F⟩ := D.ex
  exact pe_call F hr hg hm hk hb .nil pass0 ha hdb he hpl
theorem pe_callD0 (D : Dfn X.prog X.w X.K X.mg X.base x ps k sp) (hr : Room k X.A) (hg : Gl X x) (hdb : (x == ("__debug__" : Str)) = false := by decide) : PE X (.Call (.Name x p) [] [] pos) (tCall sp [] E0 tNil) := by
  obtain ⟨f, fd, hm, hk, hb, F⟩ := D.ex
  exact pe_call0 F hr hg hm hk hb .nil pass0 hdb
/-- a def that says repr, called where no repr runs -/
theorem run_fnG {f : Addr} {fd : FuncData} {pins : List (Addr × Obj)} {σ : L2.St} {H : Hp} {s : Shared} {Q : VK} {us : List Value} {vs : List V} (F : FnOkG X.prog X.w X.K X.mg X.base k f fd ps sp) (g : X.A.guards = some []) (hr : Room k X.A) (hb : Binds X.K fd ps [])
    (I : L2.Inv X pins σ H s) (r : Vals vs us) (h : sp vs H Q E0) : wpAny (model X.prog X.w) X.A (call (.ref f) us) (EP X pins σ Q) X.xe s := by
  have hl : (us ++ []).length = ps.length := by rw [List.append_nil, ← r.length]; exact F.len _ _ _ _ h
  have hb2 := hb s us I.kIn hl
  rw [List.append_nil] at hb2
  refine wpAny_call (codeAny_mono (F.run X.A X.stack s H ⟨us, []⟩ us vs Q E0 hr g I.env0 hb2 r h) fun res s' hq => ?_)
  match res, hq with
  | .ok (.ret u), hq => exact I.after hq
theorem pe_callG (D : DfnG X.prog X.w X.K X.mg X.base x ps k sp) (g : X.A.guards = some []) (hr : Room k X.A) (hg : Gl X x) (ha : PA X (e :: es) t) (hdb : (x == ("__debug__" : Str)) = false := by decide)
    (he : starEach (e :: es) X.env = (false, eval e X.env) :: starEach es X.env := by rfl) (hpl : (backTo pos (starEach es X.env)).any (·.1) = false := by rfl) : PE X (.Call (.Name x p) (e :: es) [] pos) (tCall sp [] E0 t) := by
  obtain ⟨f, fd, hm, hk, hb, F⟩ := D.ex
  refine ⟨fun pins s σ H Q I h => wpAny_Call_Name_kw (ld_glob I hg hm ?_ hdb)⟩
  refine PySem.W.callWith_K (h₀ := X.base) I.ok.mod.kin hk (thn (ha.run pos pins s σ H _ I h) fun us s1 ⟨vs, H1, I1, r, q⟩ => ⟨I1.kIn, run_fnG F g hr hb I1 r ?_⟩) he hpl
  exact (congrArg (fun l => sp l H1 Q E0) (List.append_nil vs)).mp q
theorem pe_callG0 (D : DfnG X.prog X.w X.K X.mg X.base x ps k sp) (g : X.A.guards = some []) (hr : Room k X.A) (hg : Gl X x) (hdb : (x == ("__debug__" : Str)) = false := by decide) : PE X (.Call (.Name x p) [] [] pos) (tCall sp [] E0 tNil) := by
  obtain ⟨f, fd, hm, hk, hb, F⟩ := D.ex
  exact ⟨fun pins s σ H Q I h => wpAny_Call_Name_kw (ld_glob I hg hm (PySem.W.callWith_K0 I.kIn hk (run_fnG (us := []) (vs := []) F g hr hb I .nil h)) hdb)⟩
end
/-- an alternative of two rules -/
theorem PE.or {X : Cx} {e : Expr} {t u : TE} (h : PE X e t) (h' : PE X e u) : PE X e (fun σ H Q => t σ H Q ∨ u σ H Q) :=
  ⟨fun pins s σ H Q I q => q.elim (h.run pins s σ H Q I) (h'.run pins s σ H Q I)⟩
theorem pvl {X : Cx} (i : Nat) {x : Str} {pos : Pos} (hN : X.N[i]? = some x := by rfl) (hv : X.env.scope.names.lookup x = some .local := by rfl) (hd : (x == ("__debug__" : Str)) = false := by decide) (hcd : (x == ("__classdict__" : Str)) = false := by decide) : PE X (.Name x pos) (tVar i) := pe_var hN (.inl hv) hd hcd
theorem pvc {X : Cx} (i : Nat) {x : Str} {pos : Pos} (hN : X.N[i]? = some x := by rfl) (hv : X.env.scope.names.lookup x = some .cell := by rfl) (hd : (x == ("__debug__" : Str)) = false := by decide) (hcd : (x == ("__classdict__" : Str)) = false := by decide) : PE X (.Name x pos) (tVar i) := pe_var hN (.inr (.inl hv)) hd hcd
theorem pvf {X : Cx} (i : Nat) {x : Str} {pos : Pos} (hN : X.N[i]? = some x := by rfl) (hv : X.env.scope.names.lookup x = some .free := by rfl) (hd : (x == ("__debug__" : Str)) = false := by decide) (hcd : (x == ("__classdict__" : Str)) = false := by decide) : PE X (.Name x pos) (tVar i) := pe_var hN (.inr (.inr hv)) hd hcd

/-! ### operators by the values that come -/
section
variable {X : Cx}
def rAddS0 : R2 := fun x y H Q => ∃ i j, x = .str i ∧ y = .str j ∧ i.length + j.length ≤ sizeLine ∧ Q (.str (i ++ j)) H
def rAdd : R2 := fun x y H Q => rI0 (fun i j => .int (i + j)) x y H Q ∨ rAddS0 x y H Q ∨ rCat x y H Q
theorem opAdd : OpR X (binaryOp .Add) rAdd := op_add.or (op_add_str.or op_cat)
def rSub : R2 := rI0 fun i j => .int (i - j)
theorem opSub : OpR X (binaryOp .Sub) rSub := op_sub
def rMul : R2 := fun x y H Q => rI CMulW (fun i j => .int (i * j)) x y H Q ∨ rRep x y H Q
theorem opMul : OpR X (binaryOp .Mult) rMul := op_mulW.or op_rep
def rFdv : R2 := rI CDivW fun i j => .int (i / j)
theorem opFdv : OpR X (binaryOp .FloorDiv) rFdv := op_fdivW
def rMod : R2 := rI (fun _ j => 0 < j) fun i j => .int (i % j)
theorem opMod : OpR X (binaryOp .Mod) rMod := op_mod
def rPow : R2 := rI CPow fun i j => .int (i ^ j.toNat)
theorem opPow : OpR X (binaryOp .Pow) rPow := op_pow
def rLtA : R2 := fun x y H Q => rI0 (fun i j => .bl (decide (i < j))) x y H Q ∨ ∃ i j, x = .str i ∧ y = .str j ∧ Q (.bl (decide (i.cps.toList < j.cps.toList))) H
theorem opLt : OpR X (compareOp .Lt) rLtA := op_lt.or op_lt_str
def rLeA : R2 := fun x y H Q => rI0 (fun i j => .bl (decide (i ≤ j))) x y H Q ∨ ∃ i j, x = .str i ∧ y = .str j ∧ Q (.bl (!decide (j.cps.toList < i.cps.toList))) H
theorem opLe : OpR X (compareOp .LtE) rLeA := op_le.or op_le_str
def rGtA : R2 := fun x y H Q => rI0 (fun i j => .bl (decide (j < i))) x y H Q ∨ ∃ i j, x = .str i ∧ y = .str j ∧ Q (.bl (decide (j.cps.toList < i.cps.toList))) H
theorem opGt : OpR X (compareOp .Gt) rGtA := op_gt.or op_gt_str
def rGeA : R2 := fun x y H Q => rI0 (fun i j => .bl (decide (j ≤ i))) x y H Q ∨ ∃ i j, x = .str i ∧ y = .str j ∧ Q (.bl (!decide (i.cps.toList < j.cps.toList))) H
theorem opGe : OpR X (compareOp .GtE) rGeA := op_ge.or op_ge_str
def rEqA (K : PySem.W.Frag) : R2 := fun x y H Q => rEq x y H Q ∨ rEqD K x y H Q ∨ rEqTy x y H Q
theorem opEq (hu : X.A.units + 64 < cLine) : OpR X (compareOp .Eq) (rEqA X.K) := op_eq.or ((op_eqD hu).or op_eqTy)
def rNeA (K : PySem.W.Frag) : R2 := fun x y H Q => rNe x y H Q ∨ rNeD K x y H Q
theorem opNe (hu : X.A.units + 64 < cLine) : OpR X (compareOp .NotEq) (rNeA X.K) := op_ne.or (op_neD hu)
def rIs : R2 := fun x y H Q => (y = .non ∧ Q (.bl (decide (x = .non))) H) ∨ rIsB x y H Q
theorem opIs : OpR X (compareOp .Is) rIs := op_isN.or op_isBl
def rIsNot : R2 := fun x y H Q => (y = .non ∧ Q (.bl (!decide (x = .non))) H) ∨ rNotB x y H Q
theorem opIsNot : OpR X (compareOp .IsNot) rIsNot := op_notN.or op_notBl
end

/-! ### what stands in a comprehension's block, whatever the block's beginning is -/
abbrev Bk (α : Type) : Type := Shared → Hp → Addr → List (Str × Addr) → List Addr → α
def tAllE (t : Bk TE) : TE := fun σ H Q => ∀ s H0 C cl fp, t s H0 C cl fp σ H Q
def tAllT (t : Bk TT) : TT := fun σ H Q => ∀ s H0 C cl fp, t s H0 C cl fp σ H Q
def tAllG (t : Bk TG) : TG := fun v σ H Q => ∀ s H0 C cl fp, t s H0 C cl fp v σ H Q
section
variable {X : Cx} {scope : Scope} {e : Expr} {es : List Expr}
theorem blk_e {t : Bk TE} (h : ∀ s H C cl fp, PE (X.blk s H scope (compEnvC scope cl C X.env) fp) e (t s H C cl fp)) : ∀ s H C cl fp, PE (X.blk s H scope (compEnvC scope cl C X.env) fp) e (tAllE t) :=
  fun s H C cl fp => ⟨fun pins sh σ H' Q I q => (h s H C cl fp).run pins sh σ H' Q I (q s H C cl fp)⟩
theorem blk_t {t : Bk TT} (h : ∀ s H C cl fp, PTs (X.blk s H scope (compEnvC scope cl C X.env) fp) es (t s H C cl fp)) : ∀ s H C cl fp, PTs (X.blk s H scope (compEnvC scope cl C X.env) fp) es (tAllT t) :=
  fun s H C cl fp => ⟨fun pins sh σ H' Q I q => (h s H C cl fp).run pins sh σ H' Q I (q s H C cl fp)⟩
theorem blk_g {t : Bk TG} (h : ∀ s H C cl fp, PG (X.blk s H scope (compEnvC scope cl C X.env) fp) e (t s H C cl fp)) : ∀ s H C cl fp, PG (X.blk s H scope (compEnvC scope cl C X.env) fp) e (tAllG t) :=
  fun s H C cl fp => ⟨fun pins sh σ H' v u Q I r q => (h s H C cl fp).run pins sh σ H' v u Q I r (q s H C cl fp)⟩
end
end FL
namespace FL
open PySem PySem.Spec PyProof.Rows L2

/-! ### the ledger: F, what is never changed any more; L, the objects at hand, each by its content -/
structure Led (H F : Hp) (L : List (Addr × HO)) : Prop where
  ext : Same F H
  ent : ∀ x ∈ L, H x.1 = some x.2 ∧ F x.1 = none
  nd : (L.map (·.1)).Nodup
section
variable {H F : Hp} {L : List (Addr × HO)} {a p : Addr} {o u : HO}
theorem Led.same0 (H : Hp) : Led H H [] := ⟨Same.refl H, by simp, by simp⟩
theorem Led.get (D : Led H F L) (i : Nat) (h : L[i]? = some (a, o) := by rfl) : H a = some o := (D.ent _ (List.mem_of_getElem? h)).1
theorem Led.off (D : Led H F L) (i : Nat) (h : L[i]? = some (a, o) := by rfl) : F a = none := (D.ent _ (List.mem_of_getElem? h)).2
theorem Led.frz (D : Led H F L) (h : F a = some o) : H a = some o := D.ext _ _ h
theorem Led.fresh (D : Led H F L) (hp : H p = none) : p ∉ L.map (·.1) := fun z => by
  obtain ⟨x, hx, e⟩ := List.mem_map.mp z
  have q := (D.ent x hx).1
  rw [e, hp] at q
  cases q
/-- a new object at hand -/
theorem Led.new (D : Led H F L) (hp : H p = none) : Led (upd H p o) F ((p, o) :: L) := by
  have hf : F p = none := D.ext.free hp
  refine ⟨fun b x e => ?_, fun x hx => ?_, ?_⟩
  · rw [upd_ne (ne_of_none e hf)]; exact D.ext b x e
  · rcases List.mem_cons.mp hx with rfl | hx
    · exact ⟨upd_same, hf⟩
    · obtain ⟨q1, q2⟩ := D.ent x hx
      exact ⟨by rw [upd_ne (ne_of_none q1 hp)]; exact q1, q2⟩
  · exact List.nodup_cons.mpr ⟨D.fresh hp, D.nd⟩
theorem Led.freeze (D : Led H F ((a, o) :: L)) : Led H (upd F a o) L := by
  have h := D.ent (a, o) List.mem_cons_self
  have nd := List.nodup_cons.mp D.nd
  refine ⟨fun b x e => ?_, fun x hx => ?_, nd.2⟩
  · by_cases hb : b = a
    · subst hb; rw [upd_same] at e; cases e; exact h.1
    · rw [upd_ne hb] at e; exact D.ext b x e
  · obtain ⟨q1, q2⟩ := D.ent x (List.mem_cons_of_mem _ hx)
    exact ⟨q1, by rw [upd_ne (fun z => nd.1 (by rw [← z]; exact List.mem_map.mpr ⟨x, hx, rfl⟩))]; exact q2⟩
theorem Led.newF (D : Led H F L) (hp : H p = none) : Led (upd H p o) (upd F p o) L := (D.new hp).freeze
theorem Led.grow (D : Led H F ((a, o) :: L)) : Same F (upd F a o) := fun b x e => by
  rw [upd_ne (ne_of_none e (D.ent (a, o) List.mem_cons_self).2)]; exact e
theorem Led.drop (D : Led H F ((a, o) :: L)) : Led H F L := ⟨D.ext, fun x hx => D.ent x (List.mem_cons_of_mem _ hx), (List.nodup_cons.mp D.nd).2⟩
theorem Led.swap (D : Led H F ((a, o) :: (p, u) :: L)) : Led H F ((p, u) :: (a, o) :: L) :=
  ⟨D.ext, fun x hx => D.ent x (by
    rcases List.mem_cons.mp hx with rfl | hx
    · exact List.mem_cons_of_mem _ List.mem_cons_self
    · rcases List.mem_cons.mp hx with rfl | hx
      · exact List.mem_cons_self
      · exact List.mem_cons_of_mem _ (List.mem_cons_of_mem _ hx)), by
    have h := D.nd
    simp only [List.map_cons, List.nodup_cons, List.mem_cons, not_or] at h ⊢
    exact ⟨⟨fun e => h.1.1 e.symm, h.2.1⟩, h.1.2, h.2.2⟩⟩
theorem Led.perm {L' : List (Addr × HO)} (D : Led H F L) (h : L'.Perm L) : Led H F L' := ⟨D.ext, fun x hx => D.ent x (h.mem_iff.mp hx), (h.map _).nodup_iff.mpr D.nd⟩
/-- the i-th object at hand is written -/
theorem Led.set (D : Led H F L) (i : Nat) (h : L[i]? = some (a, o) := by rfl) : Led (upd H a u) F (L.set i (a, u)) := by
  obtain ⟨hi, e⟩ := List.getElem?_eq_some_iff.mp h
  have hm : (a, o) ∈ L := List.mem_of_getElem? h
  have key : ∀ (j : Nat) (hj : j < L.length), L[j].1 = a → j = i := fun j hj q => by
    have n := D.nd
    have e1 : (L.map (·.1))[j]'(by simpa using hj) = (L.map (·.1))[i]'(by simpa using hi) := by
      rw [List.getElem_map, List.getElem_map, q, e]
    exact (List.getElem_inj n).mp e1
  refine ⟨fun b x q => ?_, fun x hx => ?_, ?_⟩
  · rw [upd_ne (ne_of_none q (D.ent _ hm).2)]; exact D.ext b x q
  · obtain ⟨j, hj, q⟩ := List.mem_iff_getElem.mp hx
    rw [List.getElem_set] at q
    by_cases hji : i = j
    · rw [if_pos hji] at q
      subst q
      exact ⟨upd_same, (D.ent _ hm).2⟩
    · rw [if_neg hji] at q
      have hj' : j < L.length := by simpa using hj
      have hx2 : x ∈ L := by rw [← q]; exact List.getElem_mem hj'
      obtain ⟨q1, q2⟩ := D.ent x hx2
      refine ⟨?_, q2⟩
      rw [upd_ne (fun z => hji (key j hj' (by rw [q]; exact z)).symm)]
      exact q1
  · have hm2 : (L.set i (a, u)).map (·.1) = L.map (·.1) := by
      refine List.ext_getElem? fun j => ?_
      rw [List.getElem?_map, List.getElem?_set, List.getElem?_map]
      by_cases hji : i = j
      · subst hji
        rw [if_pos rfl, if_pos hi, h]; rfl
      · rw [if_neg hji]
    rw [hm2]; exact D.nd
/-- forms that the readings ask -/
theorem new_loc (D : Led H F L) {Q : VK} (k : ∀ p H', H p = none → Led H' F ((p, o) :: L) → Q (.ref p) H') : ∀ p, H p = none → Q (.ref p) (upd H p o) := fun p hp => k p _ hp (D.new hp)
theorem new_frz (D : Led H F L) {Q : VK} (k : ∀ p F' H', H p = none → Same F F' → F' p = some o → Led H' F' L → Q (.ref p) H') : ∀ p, H p = none → Q (.ref p) (upd H p o) :=
  fun p hp => k p _ _ hp (D.new hp).grow upd_same (D.newF hp)
end
end FL
namespace FL
open PySem PySem.Spec PyProof.Rows L2

/-! ### readings, one construct at a time -/
section
variable {σ : L2.St} {H : Hp} {Q : VK} {i j : Nat} {v x y : V} {ta tb tc te : TE} {D : Ends} {K : PySem.W.Frag}
theorem y_var (e : σ[i]? = some (some v)) (q : Q v H) : tVar i σ H Q := ⟨v, e, q⟩
theorem y_c (q : Q v H) : tC v σ H Q := q
theorem y_op {r : R2} (q : ta σ H fun x H1 => tb σ H1 fun y H2 => r x y H2 Q) : tOp r ta tb σ H Q := q
theorem y_neg {n : Int} (q : Q (.int (-n)) H) : rU (fun i => V.int (-i)) (.int n) H Q := ⟨n, rfl, q⟩
theorem y_un {r : V → Hp → VK → Prop} (q : ta σ H fun x H1 => r x H1 Q) : tUn r ta σ H Q := q
/-- and, or, not of bools -/
def andK (x : V) (A B : Prop) : Prop := ∃ c, x = .bl c ∧ if c = true then A else B
theorem y_andV (q : ta σ H fun x H1 => andK x (tb σ H1 Q) (Q (.bl false) H1)) : tAndV ta tb σ H Q := q
theorem y_orV (q : ta σ H fun x H1 => andK x (Q (.bl true) H1) (tb σ H1 Q)) : tOrV ta tb σ H Q := q
theorem andK_t {A B : Prop} (q : A) : andK (.bl true) A B := ⟨true, rfl, iteT q⟩
theorem andK_f {A B : Prop} (q : B) : andK (.bl false) A B := ⟨false, rfl, iteF q⟩
theorem andK_b {A B : Prop} {b : Bool} (h1 : b = true → A) (h2 : b = false → B) : andK (.bl b) A B := by
  cases b with
  | true => exact andK_t (h1 rfl)
  | false => exact andK_f (h2 rfl)
/-- a bool's, an int's use -/
def tk (x : V) (R : Bool → Prop) : Prop := ∃ c, x = .bl c ∧ R c
def ik (x : V) (R : Int → Prop) : Prop := ∃ c, x = .int c ∧ R c
theorem tkK {b : Bool} {R : Bool → Prop} (q : R b) : tk (.bl b) R := ⟨b, rfl, q⟩
theorem ikK {b : Int} {R : Int → Prop} (q : R b) : ik (.int b) R := ⟨b, rfl, q⟩
theorem y_notV (q : ta σ H fun x H1 => tk x fun c => Q (.bl (!c)) H1) : tNotV ta σ H Q := q
/-- a test's answer -/
theorem y_tB {R : Bool → Hp → Prop} (q : te σ H fun x H1 => tk x fun c => R c H1) : tB te σ H R := q
theorem y_tTest {R : Bool → Hp → Prop} (q : te σ H fun x H1 => tk x fun c => R c H1) : tTest te σ H R := q
theorem y_tNot {t : TT} {R : Bool → Hp → Prop} (q : t σ H fun c H1 => R (!c) H1) : tNot t σ H R := q
theorem y_tAnd {t u : TT} {R : Bool → Hp → Prop} (q : t σ H fun c H1 => if c = true then u σ H1 R else R false H1) : tAnd t u σ H R := q
theorem y_tOr {t u : TT} {R : Bool → Hp → Prop} (q : t σ H fun c H1 => if c = true then R true H1 else u σ H1 R) : tOr t u σ H R := q
theorem y_tIf {t : TT} (q : t σ H fun c H1 => if c = true then ta σ H1 Q else tb σ H1 Q) : tIf t ta tb σ H Q := q
theorem y_chain {r r' : R2} (q : ta σ H fun x H1 => tb σ H1 fun y H2 => r x y H2 fun z H3 => andK z (tc σ H3 fun w' H4 => r' y w' H4 Q) (Q (.bl false) H3)) : tChain r r' ta tb tc σ H Q := q
/-- argument lists, displays -/
theorem y_nil {R : List V → Hp → Prop} (q : R [] H) : tNil σ H R := q
theorem y_cons {tr : TA} {R : List V → Hp → Prop} (q : ta σ H fun x H1 => tr σ H1 fun xs H2 => R (x :: xs) H2) : tCons ta tr σ H R := q
theorem y_lst {t : TA} (q : t σ H fun xs H1 => xs.length ≤ sizeLine ∧ ∀ p, H1 p = none → Q (.ref p) (upd H1 p (.lst xs))) : tLst t σ H Q := q
theorem y_tup {t : TA} (q : t σ H fun xs H1 => xs.length ≤ sizeLine ∧ ∀ p, H1 p = none → Q (.ref p) (upd H1 p (.tup xs))) : tTup t σ H Q := q
theorem y_cb {t : TA} {r : List V → Hp → VK → Prop} (q : t σ H fun vs H1 => r vs H1 Q) : tCB r t σ H Q := q
theorem y_call {t : TA} {sp : Sp} {E : XK} (q : t σ H fun vs H1 => sp vs H1 Q E) : tCall sp [] E t σ H Q := by
  have e : ∀ vs : List V, vs ++ [] = vs := fun vs => List.append_nil vs
  show t σ H fun vs H1 => sp (vs ++ []) H1 Q E
  simp only [e]
  exact q
theorem y_slice {r : V → Option Int → Option Int → Hp → VK → Prop} {tl th : TO} (q : te σ H fun x H1 => tl σ H1 fun l H2 => th σ H2 fun u H3 => r x l u H3 Q) : tSl r te tl th σ H Q := q
theorem y_part {R : Option Int → Hp → Prop} (q : te σ H fun x H1 => ik x fun i => R (some i) H1) : tPart te σ H R := q
theorem y_nopart {R : Option Int → Hp → Prop} (q : R none H) : tNoPart σ H R := q
theorem y_bm {T : String} {r : V → List V → Hp → VK → Prop} {t : TA} (q : te σ H fun x H1 => tyV K T x H1 ∧ t σ H1 fun xs H2 => r x xs H2 Q) : tBM K T r te t σ H Q := q
theorem y_bm0 {T : String} {r : V → List V → Hp → VK → Prop} (q : te σ H fun x H1 => tyV K T x H1 ∧ r x [] H1 Q) : tBM0 K T r te σ H Q := q
theorem y_dget (q : ta σ H fun x H1 => tb σ H1 fun y H2 => ∃ a v, x = .ref a ∧ DGet H2 a y (some v) ∧ Q v H2) : tDGet ta tb σ H Q := q
theorem y_din (q : ta σ H fun y H1 => tb σ H1 fun x H2 => ∃ a o, x = .ref a ∧ DGet H2 a y o ∧ Q (.bl o.isSome) H2) : tDIn ta tb σ H Q := q
theorem y_dnotin (q : ta σ H fun y H1 => tb σ H1 fun x H2 => ∃ a o, x = .ref a ∧ DGet H2 a y o ∧ Q (.bl (!o.isSome)) H2) : tDNotIn ta tb σ H Q := q
theorem y_dnew (q : ∀ p, H p = none → Q (.ref p) (upd H p (.dK []))) : tDNewK σ H Q := q
/-! ### statements -/
variable {t u : TS} {g : TG}
theorem y_seq (q : t { D with nx := u D } σ H) : tSeq t u D σ H := q
theorem y_next (q : D.nx σ H) : tNext D σ H := q
theorem y_ret (q : te σ H D.rt) : tRet te D σ H := q
theorem y_retN (q : D.rt .non H) : tRetN D σ H := q
theorem y_drop (q : te σ H fun _ H1 => D.nx σ H1) : tDrop te D σ H := q
theorem y_if {c : TT} (q : c σ H fun b H1 => if b = true then t D σ H1 else u D σ H1) : tIfS c t u D σ H := q
theorem y_asg (q : te σ H fun x H1 => g x σ H1 D.nx) : tAsg te g D σ H := q
theorem y_gname {R : L2.St → Hp → Prop} {σ' : L2.St} (e : σ.set i (some v) = σ') (q : R σ' H) : gName i v σ H R := by subst e; exact q
theorem y_gsub {s : TSet} {R : L2.St → Hp → Prop} (q : ta σ H fun o H1 => tb σ H1 fun k H2 => s o k v H2 fun H3 => R σ H3) : gSub ta tb s v σ H R := q
theorem y_par3 {k : Nat} {t : TA} (q : t σ H fun vs H1 => ∃ u v w, vs = [u, v, w] ∧ D.nx (((σ.set i (some u)).set j (some v)).set k (some w)) H1) : tPar3 i j k t D σ H := q
theorem y_par {t : TA} (q : t σ H fun vs H1 => ∃ v w, vs = [v, w] ∧ D.nx ((σ.set i (some v)).set j (some w)) H1) : tPar i j t D σ H := q
theorem y_dput (q : te σ H fun v H1 => ta σ H1 fun x H2 => tb σ H2 fun y H3 => ∃ a H4, x = .ref a ∧ DPut H3 a y v H4 ∧ D.nx σ H4) : sDPut ta tb te D σ H := q

/-! ### operators on values -/
variable {a b n m : Int} {z w' : Str} {p : Addr} {xs ys : List V} {F : Hp} {L : List (Addr × HO)}
theorem r_add (q : Q (.int (a + b)) H) : rAdd (.int a) (.int b) H Q := .inl ⟨a, b, rfl, rfl, q⟩
theorem r_addS (hl : z.length + w'.length ≤ sizeLine) (q : Q (.str (z ++ w')) H) : rAdd (.str z) (.str w') H Q := .inr (.inl ⟨z, w', rfl, rfl, hl, q⟩)
theorem r_addL {l c : Addr} (h1 : H l = some (.lst xs)) (h2 : H c = some (.lst ys)) (hl : xs.length + ys.length ≤ sizeLine) (q : ∀ p, H p = none → Q (.ref p) (upd H p (.lst (xs ++ ys)))) : rAdd (.ref l) (.ref c) H Q :=
  .inr (.inr ⟨l, c, xs, ys, rfl, rfl, h1, h2, hl, q⟩)
theorem r_sub (q : Q (.int (a - b)) H) : rSub (.int a) (.int b) H Q := ⟨a, b, rfl, rfl, q⟩
theorem r_mul (h : CMulW a b) (q : Q (.int (a * b)) H) : rMul (.int a) (.int b) H Q := .inl ⟨a, b, rfl, rfl, h, q⟩
theorem r_mulL {l : Addr} (h1 : H l = some (.lst xs)) (h2 : -(2 ^ 63) ≤ n) (h3 : n < 2 ^ 63) (hl : xs.length * n.toNat ≤ sizeLine) (q : ∀ p, H p = none → Q (.ref p) (upd H p (.lst (List.replicate n.toNat xs).flatten))) : rMul (.ref l) (.int n) H Q :=
  .inr ⟨l, n, xs, rfl, rfl, h1, h2, h3, hl, q⟩
theorem r_fdv (h : CDivW a b) (q : Q (.int (a / b)) H) : rFdv (.int a) (.int b) H Q := ⟨a, b, rfl, rfl, h, q⟩
theorem r_mod (h : 0 < b) (q : Q (.int (a % b)) H) : rMod (.int a) (.int b) H Q := ⟨a, b, rfl, rfl, h, q⟩
theorem r_pow (h : CPow a b) (q : Q (.int (a ^ b.toNat)) H) : rPow (.int a) (.int b) H Q := ⟨a, b, rfl, rfl, h, q⟩
theorem r_lt (q : Q (.bl (decide (a < b))) H) : rLtA (.int a) (.int b) H Q := .inl ⟨a, b, rfl, rfl, q⟩
theorem r_le (q : Q (.bl (decide (a ≤ b))) H) : rLeA (.int a) (.int b) H Q := .inl ⟨a, b, rfl, rfl, q⟩
theorem r_gt (q : Q (.bl (decide (b < a))) H) : rGtA (.int a) (.int b) H Q := .inl ⟨a, b, rfl, rfl, q⟩
theorem r_ge (q : Q (.bl (decide (b ≤ a))) H) : rGeA (.int a) (.int b) H Q := .inl ⟨a, b, rfl, rfl, q⟩
theorem r_leS (q : Q (.bl (!decide (w'.cps.toList < z.cps.toList))) H) : rLeA (.str z) (.str w') H Q := .inr ⟨z, w', rfl, rfl, q⟩
theorem r_eq (h : scal x y = true) (q : Q (.bl (decide (x = y))) H) : rEqA K x y H Q := .inl ⟨h, q⟩
theorem r_ne (h : scal x y = true) (q : Q (.bl (!decide (x = y))) H) : rNeA K x y H Q := .inl ⟨h, q⟩
theorem r_eqD {d e : PyData} (h1 : Dp K H x d) (h2 : Dp K H y e) (s1 : SeqAt.shaped d = true) (s2 : SeqAt.shaped e = true) (q : Q (.bl (PyData.eqv d e)) H) : rEqA K x y H Q := .inr (.inl ⟨d, e, h1, h2, s1, s2, q⟩)
theorem r_neD {d e : PyData} (h1 : Dp K H x d) (h2 : Dp K H y e) (s1 : SeqAt.shaped d = true) (s2 : SeqAt.shaped e = true) (q : Q (.bl (!PyData.eqv d e)) H) : rNeA K x y H Q := .inr ⟨d, e, h1, h2, s1, s2, q⟩
theorem r_eqT {s t : String} (h1 : IsTy s) (h2 : IsTy t) (q : Q (.bl (decide (s = t))) H) : rEqA K (.ty s) (.ty t) H Q := .inr (.inr ⟨s, t, rfl, rfl, h1, h2, q⟩)
theorem r_isN (q : Q (.bl (decide (x = .non))) H) : rIs x .non H Q := .inl ⟨rfl, q⟩
theorem r_isB {c e : Bool} (q : Q (.bl (decide (c = e))) H) : rIs (.bl c) (.bl e) H Q := .inr ⟨c, e, rfl, rfl, q⟩
theorem r_notN (q : Q (.bl (!decide (x = .non))) H) : rIsNot x .non H Q := .inl ⟨rfl, q⟩
theorem r_notB {c e : Bool} (q : Q (.bl (!decide (c = e))) H) : rIsNot (.bl c) (.bl e) H Q := .inr ⟨c, e, rfl, rfl, q⟩
theorem r_ixL (h : SqL K H p xs) (e : atI xs n = some v) (q : Q v H) : rIx K (.ref p) (.int n) H Q := .inl ⟨p, xs, n, v, rfl, rfl, h, e, q⟩
theorem r_ixT (h : SqT K H p xs) (e : atI xs n = some v) (q : Q v H) : rIx K (.ref p) (.int n) H Q := .inr (.inl ⟨p, xs, n, v, rfl, rfl, h, e, q⟩)
theorem at_nat {α : Type} {l : List α} {k : Nat} {c : α} (h : l[k]? = some c) : atI l (k : Int) = some c := by
  have hk := (List.getElem?_eq_some_iff.mp h).1
  unfold atI ixN
  rw [if_pos (by omega), if_pos (by omega)]
  simpa using h
theorem ite_b {A B : Prop} {c : Bool} (h1 : c = true → A) (h2 : c = false → B) : if c = true then A else B := by
  cases c with
  | true => exact iteT (h1 rfl)
  | false => exact iteF (h2 rfl)
theorem ite_is {A B : Prop} {c : Bool} (e : c = true) (h : A) : if c = true then A else B := by rw [if_pos e]; exact h
theorem ite_no {A B : Prop} {c : Bool} (e : c = false) (h : B) : if c = true then A else B := by rw [e]; exact iteF h

/-! ### values of any kind -/
inductive Ar (H : Hp) : V → String → Prop
  | non : Ar H .non "NoneType"
  | bl (b : Bool) : Ar H (.bl b) "bool"
  | int (i : Int) : Ar H (.int i) "int"
  | str (x : Str) : Ar H (.str x) "str"
  | lst {a : Addr} {xs : List V} (h : H a = some (.lst xs)) : Ar H (.ref a) "list"
  | tup {a : Addr} {xs : List V} (h : H a = some (.tup xs)) : Ar H (.ref a) "tuple"
  | dK {a : Addr} {kvs : List (Key × V)} (h : H a = some (.dK kvs)) : Ar H (.ref a) "dict"
theorem Ar.tyx {s : String} (h : Ar H x s) : TyX K H x (.type s) := by
  cases h with
  | non => exact .base .non
  | bl b => exact .base (.bl b)
  | int i => exact .base (.int i)
  | str x => exact .base (.str x)
  | lst h => exact .base (.lst h)
  | tup h => exact .base (.tup h)
  | dK h => exact .base (.dK h)
theorem Ar.tyb {s : String} (h : Ar H x s) : TyB K H x s := by
  cases h with
  | non => exact .non
  | bl b => exact .bl b
  | int i => exact .int i
  | str x => exact .str x
  | lst h => exact .lst (SqL.of h)
  | tup h => exact .tup (SqT.of h)
  | dK h => exact .dK h
theorem Ar.isTy {s : String} (h : Ar H x s) : IsTy s := by
  cases h with
  | non => exact TypeEq.meta_NoneType
  | bl b => exact TypeEq.meta_bool
  | int i => exact TypeEq.meta_int
  | str x => exact TypeEq.meta_str
  | lst h => exact TypeEq.meta_list
  | tup h => exact TypeEq.meta_tuple
  | dK h => exact TypeEq.meta_dict
def isT (s t : String) : Bool := decide (s = t) || (decide (s = "bool") && decide (t = "int"))
theorem kit_all : ∀ s ∈ ["NoneType", "bool", "int", "str", "list", "tuple", "dict"], ∀ t ∈ ["int", "bool", "str", "dict", "list", "tuple"], kitB s t = some (isT s t) := by decide +kernel
theorem Ar.mem {s : String} (h : Ar H x s) : s ∈ ["NoneType", "bool", "int", "str", "list", "tuple", "dict"] := by cases h <;> simp
theorem r_isi {s t : String} (h : Ar H x s) (ht : t ∈ ["int", "bool", "str", "dict", "list", "tuple"]) (q : Q (.bl (isT s t)) H) : rIsi K [x, .ty t] H Q :=
  ⟨x, .ty t, .type s, .type t, _, rfl, .ty t, h.tyx, kit_ty (kit_all s h.mem t ht), q⟩
theorem y_start {t : TS} {N : List Str} {vs : List V} {σ' : L2.St} (e : L2.start N vs = σ') (q : t D σ' H) : t D (L2.start N vs) H := by rw [e]; exact q
theorem r_typ {s : String} (h : Ar H x s) (q : Q (.ty s) H) : rTyp K [x] H Q := ⟨x, s, rfl, h.tyb, q⟩
theorem Ar.isStr {s : String} (h : Ar H x s) (e : isT s "str" = true) : ∃ z, x = .str z := by
  cases h <;> first | exact ⟨_, rfl⟩ | exact absurd e (by decide)
theorem Ar.isTup {s : String} (h : Ar H x s) (e : isT s "tuple" = true) : ∃ t xs, x = .ref t ∧ H t = some (.tup xs) := by
  cases h <;> first | exact ⟨_, _, rfl, by assumption⟩ | exact absurd e (by decide)
theorem Ar.isLst {s : String} (h : Ar H x s) (e : isT s "list" = true) : ∃ t xs, x = .ref t ∧ H t = some (.lst xs) := by
  cases h <;> first | exact ⟨_, _, rfl, by assumption⟩ | exact absurd e (by decide)
theorem iteNT {A B : Prop} (h : B) : if (!true) = true then A else B := by rw [Bool.not_true]; exact iteF h
theorem iteNF {A B : Prop} (h : A) : if (!false) = true then A else B := by rw [Bool.not_false]; exact iteT h
theorem Ar.noStr {s : String} (h : Ar H x s) (e : isT s "str" = false) (z : Str) : x ≠ .str z := by
  cases h <;> first | exact absurd e (by decide) | (intro z; cases z)
theorem Dt.ar {d : PyData} (h : Dt H x d) : ∃ s, Ar H x s := by
  cases h with
  | non => exact ⟨_, .non⟩
  | bl b => exact ⟨_, .bl b⟩
  | int i => exact ⟨_, .int i⟩
  | str x => exact ⟨_, .str x⟩
  | lst h _ => exact ⟨_, .lst h⟩
  | tup h _ => exact ⟨_, .tup h⟩
  | dct h _ => exact ⟨_, .dK h⟩
end
end FL
namespace FL
open PySem PySem.Spec PyProof.Rows L2
theorem le_line {n : Nat} (h : n ≤ 1000000) : n ≤ sizeLine := Nat.le_trans h (by decide)
theorem lt_line {n : Nat} (h : n < 1000000) : n < sizeLine := Nat.lt_of_lt_of_le h (by decide)

/-! ### comprehensions over the ledger -/
/-- what a comprehension's walk has to be: n turns, the i-th item; src: what must stand while it walks -/
structure WalkIt (J : It) (n : Nat) (item : Nat → V → Prop) (src : Hp → Prop) : Prop where
  go : ∀ i H, src H → i < n → J.go i H
  yld : ∀ i H x H', src H → J.yld i H x H' → H' = H ∧ item i x
  stop : ∀ H, src H → J.stop n H
theorem walk_list {K : PySem.W.Frag} {a : Addr} {xs : List V} : WalkIt (Itl K a) xs.length (fun i x => xs[i]? = some x) (fun H => SqL K H a xs) where
  go := fun i H h hi => ⟨xs, xs[i], h, by simp [hi]⟩
  yld := fun i H x H' h y => ⟨y.1, y.2 xs h⟩
  stop := fun H h => ⟨xs, h, Nat.le_refl _⟩
theorem walk_str {z : Str} : WalkIt (Its z) z.cps.size (fun i x => ∃ c, z.cps[i]? = some c ∧ x = .str ⟨#[c]⟩) (fun _ => True) where
  go := fun i H _ hi => hi
  yld := fun i H x H' _ y => y
  stop := fun H _ => Nat.le_refl _
theorem walk_range {lo : Int} {n : Nat} : WalkIt (Itr lo n) n (fun i x => x = .int (lo + i)) (fun _ => True) where
  go := fun i H _ hi => hi
  yld := fun i H x H' _ y => y
  stop := fun H _ => Nat.le_refl _
section
variable {σ : L2.St} {H F : Hp} {L : List (Addr × HO)} {J : It} {n : Nat} {item : Nat → V → Prop} {src : Hp → Prop} {g : TG} {tt : TT} {te : TE} {vs : List Nat} {Q : VK}
/-- what a comprehension asks behind its walk's making -/
def lcAsk (J : It) (g : TG) (tt : TT) (te : TE) (vs : List Nat) (σ : L2.St) (H1 : Hp) (Q : VK) : Prop := ∀ D, H1 D = none → ∃ W : Nat → Nat → Hp → Prop, (∃ m, W 0 m (upd H1 D (.lst []))) ∧ ∀ i m H, W i m H →
  (J.stop i H ∧ Q (.ref D) H) ∨ (J.go i H ∧ ∃ Nx : Hp → Prop, (∀ H', Nx H' → ∃ m', m' < m ∧ W (i + 1) m' H') ∧ ∀ x H', J.yld i H x H' → g x (wipe σ vs) H' fun σ2 H2 => wipe σ2 vs = wipe σ vs ∧ tt σ2 H2 fun b H3 =>
    if b = true then te σ2 H3 fun y H4 => ∃ acc, H4 D = some (.lst acc) ∧ acc.length < sizeLine ∧ Nx (upd H4 D (.lst (acc ++ [y]))) else Nx H3)
theorem y_lc {wi : TI} (q : wi σ H fun J H1 => lcAsk J g tt te vs σ H1 Q) : tLc wi g tt te vs σ H Q := q
theorem y_yes {R : Bool → Hp → Prop} (q : R true H) : tYes σ H R := q
theorem y_allE {t : Bk TE} (q : ∀ s H0 C cl fp, t s H0 C cl fp σ H Q) : tAllE t σ H Q := q
theorem y_allT {t : Bk TT} {R : Bool → Hp → Prop} (q : ∀ s H0 C cl fp, t s H0 C cl fp σ H R) : tAllT t σ H R := q
theorem y_allG {t : Bk TG} {v : V} {R : L2.St → Hp → Prop} (q : ∀ s H0 C cl fp, t s H0 C cl fp v σ H R) : tAllG t v σ H R := q
theorem y_iList {K : PySem.W.Frag} {tl : TE} {R : It → Hp → Prop} (q : tl σ H fun x H1 => ∃ a, x = .ref a ∧ (∃ xs, SqL K H1 a xs) ∧ R (Itl K a) H1) : iList K tl σ H R := q
theorem y_iStr {tl : TE} {R : It → Hp → Prop} (q : tl σ H fun x H1 => ∃ z, x = .str z ∧ R (Its z) H1) : iStr tl σ H R := q
theorem y_iRng {ta : TA} {R : It → Hp → Prop} (q : ta σ H fun vs H1 => ∃ j : Int, vs = [.int j] ∧ -(2 ^ 62) ≤ j ∧ j < 2 ^ 62 ∧ R (Itr 0 j.toNat) H1) : iRng1 ta σ H R := q
theorem lc_led (D0 : Led H F L) (wk : WalkIt J n item src) (hn : n ≤ 100000) (Inv : Nat → List V → Hp → List (Addr × HO) → Prop) (h0 : Inv 0 [] F L)
    (hsrc : ∀ i acc F' L' H' Dl, Inv i acc F' L' → Led H' F' ((Dl, .lst acc) :: L') → src H')
    (turn : ∀ (Kp : V → Hp → Prop) (Sk : Hp → Prop) i acc F' L' H' Dl x, i < n → item i x → Inv i acc F' L' → Led H' F' ((Dl, .lst acc) :: L') → acc.length ≤ i →
      (∀ y F2 L2 H4, Led H4 F2 ((Dl, .lst acc) :: L2) → Inv (i + 1) (acc ++ [y]) F2 L2 → Kp y H4) → (∀ F2 L2 H3, Led H3 F2 ((Dl, .lst acc) :: L2) → Inv (i + 1) acc F2 L2 → Sk H3) →
      g x (wipe σ vs) H' fun σ2 H2 => wipe σ2 vs = wipe σ vs ∧ tt σ2 H2 fun b H3 => if b = true then te σ2 H3 Kp else Sk H3)
    (done : ∀ acc F' L' H' Dl, Inv n acc F' L' → Led H' F' ((Dl, .lst acc) :: L') → acc.length ≤ n → Q (.ref Dl) H') : lcAsk J g tt te vs σ H Q := by
  intro Dl hD
  refine ⟨fun i m H' => m = n - i ∧ i ≤ n ∧ ∃ acc F' L', Led H' F' ((Dl, .lst acc) :: L') ∧ Inv i acc F' L' ∧ acc.length ≤ i, ⟨n, by omega, by omega, [], F, L, D0.new hD, h0, Nat.le_refl _⟩, ?_⟩
  rintro i m H' ⟨rfl, hi, acc, F', L', D, I, ha⟩
  have hs := hsrc i acc F' L' H' Dl I D
  by_cases hlt : i < n
  · refine .inr ⟨wk.go i H' hs hlt, fun H2 => i + 1 ≤ n ∧ ∃ acc F' L', Led H2 F' ((Dl, .lst acc) :: L') ∧ Inv (i + 1) acc F' L' ∧ acc.length ≤ i + 1, fun H2 ⟨_, q⟩ => ⟨n - (i + 1), by omega, rfl, hlt, q⟩, fun x H2 y => ?_⟩
    obtain ⟨e, it⟩ := wk.yld i H' x H2 hs y
    subst e
    exact turn _ _ i acc F' L' H2 Dl x hlt it I D ha
      (fun y F2 L2 H4 D2 I2 => ⟨acc, D2.get 0, lt_line (by omega), hlt, acc ++ [y], F2, L2, D2.set 0, I2, by simp; omega⟩)
      (fun F2 L2 H3 D2 I2 => ⟨hlt, acc, F2, L2, D2, I2, by omega⟩)
  · have e : i = n := by omega
    subst e
    exact .inl ⟨wk.stop H' hs, done acc F' L' H' Dl I D ha⟩
end
end FL
namespace FL
open PySem PySem.Spec PyProof.Rows L2

/-! ### lines -/
def nmStr (z : Str) : Bool := decide (1 ≤ z.length ∧ z.length ≤ 8) && z.cps.toList.all fun c => decide (97 ≤ c ∧ c ≤ 122)
def lineK (ks : List (Str × Int)) : List (Key × V) := ks.map fun p => (.inr p.1, .int p.2)
structure LineOk (ks : List (Str × Int)) : Prop where
  len1 : 1 ≤ ks.length
  len2 : ks.length ≤ 40
  nm : ∀ p ∈ ks, nmStr p.1 = true
  ps : ∀ p ∈ ks, -(10 ^ 30) ≤ p.2 ∧ p.2 ≤ 10 ^ 30
  ndn : (ks.map (·.1)).Nodup
  ndp : (ks.map (·.2)).Nodup
theorem nm_len {z : Str} (h : nmStr z = true) : 1 ≤ z.length ∧ z.length ≤ 8 := by
  unfold nmStr at h
  rw [Bool.and_eq_true] at h
  exact of_decide_eq_true h.1

/-! ### for over a dict's items, the dict locked meanwhile -/
section
variable {σ : L2.St} {H : Hp} {D : Ends} {g : TG} {tb : TS} {te : TE} {a : Addr} {kvs : List (Key × V)}
theorem y_lockItems (he : ∀ H1 R, R (.ref a) H1 → te σ H1 R) (hd : H a = some (.dK kvs)) (Pv : Obj → Nat → L2.St → Hp → Prop) (h0 : ∀ od, Pv od 0 σ (upd H a (.frz od (.dK kvs))))
    (hfr : ∀ od i σ' H', Pv od i σ' H' → H' a = some (.frz od (.dK kvs)))
    (turn : ∀ od i k v T σ' H', kvs[i]? = some (k, v) → Pv od i σ' H' → H' T = none → g (.ref T) σ' (upd H' T (.tup [kV k, v])) fun σ2 H2 =>
      tb ⟨Pv od (i + 1), fun v H'' => H'' a = some (.frz od (.dK kvs)) ∧ D.rt v (upd H'' a (.dK kvs)), fun σ'' H'' => H'' a = some (.frz od (.dK kvs)) ∧ D.nx σ'' (upd H'' a (.dK kvs)), Pv od (i + 1)⟩ σ2 H2)
    (done : ∀ od σ' H', Pv od kvs.length σ' H' → D.nx σ' (upd H' a (.dK kvs))) : tLock (tFor (iItems te) g tb) D σ H := by
  refine ⟨a, .dK kvs, hd, trivial, fun od => ?_⟩
  refine he _ _ ⟨a, od, kvs, rfl, upd_same, ?_⟩
  refine ⟨fun i m σ' H' => m = kvs.length - i ∧ i ≤ kvs.length ∧ Pv od i σ' H', ⟨kvs.length, by omega, by omega, h0 od⟩, ?_⟩
  rintro i m σ' H' ⟨rfl, hi, p⟩
  have hf := hfr od i σ' H' p
  by_cases hlt : i < kvs.length
  · refine .inr ⟨⟨hf, hlt⟩, Pv od (i + 1), fun σ2 H2 q => ⟨kvs.length - (i + 1), by omega, rfl, hlt, q⟩, ?_⟩
    rintro x H2 ⟨T, k, v, e, rfl, hT, rfl⟩
    exact turn od i k v T σ' H' e p hT
  · have e : i = kvs.length := by omega
    subst e
    exact .inl ⟨⟨hf, Nat.le_refl _⟩, hf, done od σ' H' p⟩
theorem y_lockKeys (he : ∀ H1 R, R (.ref a) H1 → te σ H1 R) (hd : H a = some (.dK kvs)) (Pv : Obj → Nat → L2.St → Hp → Prop) (h0 : ∀ od, Pv od 0 σ (upd H a (.frz od (.dK kvs))))
    (hfr : ∀ od i σ' H', Pv od i σ' H' → H' a = some (.frz od (.dK kvs)))
    (turn : ∀ od i k v σ' H', kvs[i]? = some (k, v) → Pv od i σ' H' → g (kV k) σ' H' fun σ2 H2 =>
      tb ⟨Pv od (i + 1), fun v H'' => H'' a = some (.frz od (.dK kvs)) ∧ D.rt v (upd H'' a (.dK kvs)), fun σ'' H'' => H'' a = some (.frz od (.dK kvs)) ∧ D.nx σ'' (upd H'' a (.dK kvs)), Pv od (i + 1)⟩ σ2 H2)
    (done : ∀ od σ' H', Pv od kvs.length σ' H' → D.nx σ' (upd H' a (.dK kvs))) : tLock (tFor (iKeys te) g tb) D σ H := by
  refine ⟨a, .dK kvs, hd, trivial, fun od => he _ _ ⟨a, od, rfl, .inl ⟨kvs, upd_same, ?_⟩⟩⟩
  refine ⟨fun i m σ' H' => m = kvs.length - i ∧ i ≤ kvs.length ∧ Pv od i σ' H', ⟨kvs.length, by omega, by omega, h0 od⟩, ?_⟩
  rintro i m σ' H' ⟨rfl, hi, p⟩
  have hf := hfr od i σ' H' p
  by_cases hlt : i < kvs.length
  · refine .inr ⟨⟨hf, hlt⟩, Pv od (i + 1), fun σ2 H2 q => ⟨kvs.length - (i + 1), by omega, rfl, hlt, q⟩, ?_⟩
    rintro x H2 ⟨rfl, k, v, e, rfl⟩
    exact turn od i k v _ _ e p
  · have e : i = kvs.length := by omega
    subst e
    exact .inl ⟨⟨hf, Nat.le_refl _⟩, hf, done od σ' H' p⟩
end
theorem same_lock {H H' : Hp} {a : Addr} {o : HO} {od : Obj} (h : H a = some o) (s : Same (upd H a (.frz od o)) H') : Same H (upd H' a o) := fun b x e => by
  by_cases hb : b = a
  · subst hb; rw [h] at e; rw [upd_same]; exact e
  · rw [upd_ne hb]; exact s b x (by rw [upd_ne hb]; exact e)

section
variable {σ : L2.St} {H : Hp} {Q : VK} {x y v : V} {K : PySem.W.Frag} {p : Addr}
theorem Ar.isDict {s : String} (h : Ar H x s) (e : isT s "dict" = true) : ∃ a kvs, x = .ref a ∧ H a = some (.dK kvs) := by
  cases h <;> first | exact ⟨_, _, rfl, by assumption⟩ | exact absurd e (by decide)
theorem y_gtup {g : TGs} {n : Nat} {R : L2.St → Hp → Prop} {xs : List V} (h : SqT K H p xs) (e : xs.length = n) (q : g xs σ H R) : gTup K n g (.ref p) σ H R := ⟨p, xs, rfl, h, e, q⟩
theorem y_gcons {g : TG} {u : TGs} {R : L2.St → Hp → Prop} {vs : List V} (q : g v σ H fun σ' H' => u vs σ' H' R) : gCons g u (v :: vs) σ H R := ⟨v, vs, rfl, q⟩
theorem y_gnil {R : L2.St → Hp → Prop} (q : R σ H) : gNil [] σ H R := ⟨rfl, q⟩
end

theorem isT_ne {s t : String} (h : isT s t = false) : s ≠ t := fun e => by
  subst e
  unfold isT at h
  rw [decide_eq_true rfl] at h
  cases h
/-! ### hosts, frames of a line, by values -/
def isHost (ks : List (Str × Int)) : V → Bool
  | .str z => ks.any fun p => decide (p.1 = z)
  | _ => false
theorem valV_line (z : Str) : ∀ ks : List (Str × Int), (valV (lineK ks) (.inr z)).isSome = ks.any fun p => decide (p.1 = z)
  | [] => rfl
  | p :: ks => by
    have ih := valV_line z ks
    show (valV ((Sum.inr p.1, V.int p.2) :: lineK ks) (Sum.inr z : Key)).isSome = (decide (p.1 = z) || ks.any fun p => decide (p.1 = z))
    by_cases e : p.1 = z
    · rw [valV_pos (by show (Sum.inr p.1 : Key) = Sum.inr z; rw [e]), decide_eq_true e]; rfl
    · rw [decide_eq_false e, Bool.false_or, ← ih]
      unfold valV
      rw [List.find?_cons_of_neg (by simp; exact e)]
inductive FrB (ks : List (Str × Int)) (H : Hp) : V → Bool → Prop
  | no {x : V} {s : String} (h : Ar H x s) (n : ∀ t u v, x = .ref t → H t ≠ some (.tup [u, v])) (m : ∀ t xs, x = .ref t → H t = some (.tup xs) → xs.length ≤ 100000) : FrB ks H x false
  | pair {t : Addr} {u v : V} {s s' : String} (h : H t = some (.tup [u, v])) (hu : Ar H u s) (hv : Ar H v s') : FrB ks H (.ref t) (isHost ks u && isHost ks v && !decide (u = v))
inductive FramesB (ks : List (Str × Int)) (H : Hp) : V → Bool → Prop
  | no {x : V} {s : String} (h : Ar H x s) (n : s ≠ "list") : FramesB ks H x false
  | long {l : Addr} {xs : List V} (h : H l = some (.lst xs)) (n : 300 < xs.length) (m : xs.length ≤ 100000) : FramesB ks H (.ref l) false
  | lst {l : Addr} {xs : List V} {bs : List Bool} (h : H l = some (.lst xs)) (n : xs.length ≤ 300) (p : Paired (FrB ks H) xs bs) : FramesB ks H (.ref l) (bs.all id)
theorem Ar.mono {H H' : Hp} {x : V} {s : String} (e : Same H H') (h : Ar H x s) : Ar H' x s := by
  cases h with
  | non => exact .non
  | bl b => exact .bl b
  | int i => exact .int i
  | str x => exact .str x
  | lst h => exact .lst (e _ _ h)
  | tup h => exact .tup (e _ _ h)
  | dK h => exact .dK (e _ _ h)
theorem Ar.there {H : Hp} {a : Addr} {s : String} (h : Ar H (.ref a) s) : ∃ o, H a = some o := by
  cases h <;> exact ⟨_, by assumption⟩
theorem FrB.mono {ks : List (Str × Int)} {H H' : Hp} {x : V} {b : Bool} (e : Same H H') (h : FrB ks H x b) : FrB ks H' x b := by
  cases h with
  | @no _ s h n m =>
    refine .no (h.mono e) (fun t u v ex q => ?_) (fun t xs ex q => ?_)
    · subst ex
      obtain ⟨o, ho⟩ := h.there
      have q2 := e _ _ ho
      rw [q] at q2
      cases q2
      exact n t u v rfl ho
    · subst ex
      obtain ⟨o, ho⟩ := h.there
      have q2 := e _ _ ho
      rw [q] at q2
      cases q2
      exact m t xs rfl ho
  | pair h hu hv => exact .pair (e _ _ h) (hu.mono e) (hv.mono e)
theorem FrB.len {ks : List (Str × Int)} {H : Hp} {x : V} {b : Bool} (h : FrB ks H x b) : ∀ t xs, x = .ref t → H t = some (.tup xs) → xs.length ≤ 100000 := by
  cases h with
  | no h n m => exact m
  | pair h hu hv =>
    intro t xs e q
    cases e
    rw [h] at q
    cases q
    show 2 ≤ 100000
    decide
theorem FramesB.mono {ks : List (Str × Int)} {H H' : Hp} {x : V} {b : Bool} (e : Same H H') (h : FramesB ks H x b) : FramesB ks H' x b := by
  cases h with
  | no h n => exact .no (h.mono e) n
  | long h n m => exact .long (e _ _ h) n m
  | lst h n p => exact .lst (e _ _ h) n (L2.Paired.mapP p fun _ _ q => q.mono e)
theorem Paired.get {α β : Type} {F : α → β → Prop} : ∀ {xs : List α} {ys : List β}, Paired F xs ys → ∀ {i : Nat} {x : α}, xs[i]? = some x → ∃ y, ys[i]? = some y ∧ F x y
  | _, _, .nil, i, x, h => by cases h
  | _, _, .cons r t, 0, x, h => ⟨_, rfl, (Option.some.inj h) ▸ r⟩
  | _, _, .cons r t, i + 1, x, h => Paired.get t (i := i) h
section
variable {σ : L2.St} {H : Hp} {Q : VK} {te ta : TE} {K : PySem.W.Frag}
theorem y_lenSet (q : ta σ H fun x H1 => ∃ (l : Addr) (ns : List Int), x = .ref l ∧ SqL K H1 l (ns.map V.int) ∧ ns.Nodup ∧ ns.length ≤ 4000 ∧ Q (.int (ns.length : Nat)) H1) : RZ.tLenSetI K ta σ H Q := q
theorem y_listVals (q : te σ H fun x H1 => rValsL x H1 Q) : tListValues te σ H Q := q
theorem y_listItems (q : te σ H fun x H1 => LiI.rItemsL x H1 Q) : LiI.tListItems te σ H Q := q
end
end FL
namespace FL
open PySem PySem.Spec PyProof.Rows L2

/-! ### loops -/
section
variable {σ : L2.St} {H F : Hp} {D : Ends} {g : TG} {tb : TS} {K : PySem.W.Frag} {a : Addr} {xs : List V}
def forAsk (J : It) (g : TG) (tb : TS) (D : Ends) (σ : L2.St) (H1 : Hp) : Prop := ∃ W : Nat → Nat → L2.St → Hp → Prop, (∃ m, W 0 m σ H1) ∧ ∀ i m σ H, W i m σ H →
  (J.stop i H ∧ D.nx σ H) ∨ (J.go i H ∧ ∃ N : L2.St → Hp → Prop, (∀ σ' H', N σ' H' → ∃ m', m' < m ∧ W (i + 1) m' σ' H') ∧ ∀ x H', J.yld i H x H' → g x σ H' fun σ2 H2 => tb { D with nx := N, ct := N, bk := D.nx } σ2 H2)
theorem y_for {wi : TI} (q : wi σ H fun J H1 => forAsk J g tb D σ H1) : tFor wi g tb D σ H := q
theorem for_any {J : It} {n : Nat} {item : Nat → V → Prop} {src : Hp → Prop} (wk : WalkIt J n item src) (Pv : Nat → L2.St → Hp → Prop) (h0 : Pv 0 σ H) (hsrc : ∀ i σ' H', Pv i σ' H' → src H')
    (turn : ∀ i x σ' H', i < n → item i x → Pv i σ' H' → g x σ' H' fun σ2 H2 => tb { D with nx := Pv (i + 1), ct := Pv (i + 1), bk := D.nx } σ2 H2) (done : ∀ σ' H', Pv n σ' H' → D.nx σ' H') : forAsk J g tb D σ H := by
  refine ⟨fun i m σ' H' => m = n - i ∧ i ≤ n ∧ Pv i σ' H', ⟨n, by omega, by omega, h0⟩, ?_⟩
  rintro i m σ' H' ⟨rfl, hi, p⟩
  have hs := hsrc i σ' H' p
  by_cases hlt : i < n
  · refine .inr ⟨wk.go i H' hs hlt, Pv (i + 1), fun σ2 H2 q => ⟨n - (i + 1), by omega, rfl, hlt, q⟩, fun x H2 y => ?_⟩
    obtain ⟨e, it⟩ := wk.yld i H' x H2 hs y
    subst e
    exact turn i x σ' H2 hlt it p
  · have e : i = n := by omega
    subst e
    exact .inl ⟨wk.stop H' hs, done σ' H' p⟩
end

/-! ### slices, items -/
theorem cut_take (xs : List V) (k : Nat) : cutV xs none (some (k : Int)) = xs.take k := by
  unfold cutV
  rw [HT.sIx_none, HT.sIx_nat]
  show List.take (min k xs.length - 0) (xs.drop 0) = _
  rw [List.drop_zero, Nat.sub_zero]
  by_cases h : k ≤ xs.length
  · rw [Nat.min_eq_left h]
  · rw [Nat.min_eq_right (by omega), List.take_of_length_le (Nat.le_refl _), List.take_of_length_le (by omega)]
theorem cut_drop (xs : List V) (k : Nat) : cutV xs (some (k : Int)) none = xs.drop k := by
  unfold cutV
  rw [HT.sIx_none, HT.sIx_nat]
  by_cases h : k ≤ xs.length
  · rw [Nat.min_eq_left h, List.take_of_length_le (by simp)]
  · rw [Nat.min_eq_right (by omega), List.drop_of_length_le (Nat.le_refl _), List.drop_of_length_le (by omega), List.take_nil]
section
variable {σ : L2.St} {H F : Hp} {K : PySem.W.Frag} {a : Addr} {xs : List V} {Q : VK} {L : List (Addr × HO)} {lo hi : Option Int}
theorem r_sl (h : SqL K H a xs) (q : ∀ p, H p = none → Q (.ref p) (upd H p (.lst (cutV xs lo hi)))) : rSlL K (.ref a) lo hi H Q := ⟨a, xs, rfl, h, q⟩
theorem Led.seq (D : Led H F L) (h : SqL K F a xs) : SqL K H a xs := Same.seq D.ext h
end

/-! ### the drawing of numbers out of a script -/
structure Rl where
  great : List Int
  cells : List Int
  n : Nat
  stir : Int
structure RlOk (R : Rl) : Prop where
  gl : R.great.length ≤ 64
  c1 : 1 ≤ R.cells.length
  c2 : R.cells.length ≤ 64
  cb : ∀ x ∈ R.cells, 0 ≤ x ∧ x < 1000003
  s0 : 0 ≤ R.stir
  s1 : R.stir < 2 ^ 140
def rE (r g c : Addr) (R : Rl) : List (Addr × HO) := [(r, .lst [.ref g, .ref c, .int R.n, .int R.stir]), (g, .lst (R.great.map V.int)), (c, .lst (R.cells.map V.int))]
theorem mod_m (x : Int) : 0 ≤ x % (2 ^ (64 : Int).toNat * 2 ^ (63 : Int).toNat - 1) ∧ x % (2 ^ (64 : Int).toNat * 2 ^ (63 : Int).toNat - 1) < 2 ^ 140 := by
  have h : (0 : Int) < 2 ^ (64 : Int).toNat * 2 ^ (63 : Int).toNat - 1 := by decide +kernel
  have h2 : (2 : Int) ^ (64 : Int).toNat * 2 ^ (63 : Int).toNat - 1 < 2 ^ 140 := by decide +kernel
  exact ⟨Int.emod_nonneg _ (Int.ne_of_gt h), Int.lt_trans (Int.emod_lt_of_pos _ h) h2⟩
theorem abs_lt {x : Int} {k : Nat} (h0 : 0 ≤ x) (h : x < 2 ^ k) : x.natAbs < 2 ^ k := by
  have e : ((2 ^ k : Nat) : Int) = 2 ^ k := by simp
  omega

theorem Led.nf {H F H1 : Hp} {L : List (Addr × HO)} {p : Addr} {o : HO} (D : Led H F L) (hp : H p = none) (e : upd H p o = H1) : ∃ F1, Same F F1 ∧ F1 p = some o ∧ F p = none ∧ Led H1 F1 L :=
  ⟨upd F p o, (D.new hp).grow, upd_same, D.ext.free hp, e ▸ D.newF hp⟩
theorem Led.nl {H F H1 : Hp} {L : List (Addr × HO)} {p : Addr} {o : HO} (D : Led H F L) (hp : H p = none) (e : upd H p o = H1) : Led H1 F ((p, o) :: L) := e ▸ D.new hp
theorem Led.st {H F H1 : Hp} {L : List (Addr × HO)} {a : Addr} {o u : HO} (D : Led H F L) (i : Nat) (e : upd H a u = H1) (h : L[i]? = some (a, o) := by rfl) : Led H1 F (L.set i (a, u)) := e ▸ D.set i h

theorem Led.sub {H F : Hp} {L L' : List (Addr × HO)} (D : Led H F L) (h : L'.Sublist L) : Led H F L' := ⟨D.ext, fun x hx => D.ent x (h.subset hx), D.nd.sublist (h.map _)⟩
theorem ints_at {ns : List Int} {i : Nat} {x : V} (h : (ns.map V.int)[i]? = some x) : ∃ z, x = V.int z ∧ ns[i]? = some z := by
  rw [List.getElem?_map] at h
  cases e : ns[i]? with
  | none => rw [e] at h; cases h
  | some z => rw [e] at h; exact ⟨z, (Option.some.inj h).symm, rfl⟩

/-! ### lists of ints, compared and stored -/
def dI (ns : List Int) : List PyData := ns.map PyData.int
theorem dpI {K : PySem.W.Frag} {H : Hp} : ∀ ns : List Int, DpAll K H (ns.map V.int) (dI ns)
  | [] => .nil
  | n :: ns => .cons (.int n) (dpI ns)
theorem canI : ∀ ns : List Int, PyData.canLayAll0 (dI ns) = true
  | [] => rfl
  | n :: ns => by
    show (PyData.canLay0 (.int n) && PyData.canLayAll0 (dI ns)) = true
    rw [canI ns]; rfl
theorem depI : ∀ ns : List Int, PyData.depthAll (dI ns) = 0
  | [] => rfl
  | n :: ns => by
    show max (PyData.depth (.int n)) (PyData.depthAll (dI ns)) = 0
    rw [depI ns]; rfl
theorem shI (ns : List Int) : SeqAt.shaped (.list (dI ns)) = true := by
  unfold SeqAt.shaped
  rw [Bool.and_eq_true]
  refine ⟨canI ns, decide_eq_true ?_⟩
  show PyData.depthAll (dI ns) + 1 ≤ 64
  rw [depI]; decide
theorem r_setL {v : V} {p : Addr} {xs : List V} {H : Hp} {j : Nat} {R : Hp → Prop} (h : H p = some (.lst xs)) (hj : j < xs.length) (q : R (upd H p (.lst (xs.set j v)))) : rSetL (.ref p) (.int (j : Int)) v H R :=
  ⟨p, xs, j, j, rfl, rfl, h, Evl.ixN_nat hj, q⟩
theorem int_of_bl {b : Bool} {H : Hp} {Q : VK} (q : Q (.int (if b = true then 1 else 0)) H) : (∃ i, ([V.bl b] : List V) = [.int i] ∧ Q (.int i) H) ∨ ∃ k, ([V.bl b] : List V) = [.bl k] ∧ Q (.int (if k = true then 1 else 0)) H := .inr ⟨b, rfl, q⟩

/-! ### the reel ahead of the other things at hand -/
section
variable {H F : Hp} {L X : List (Addr × HO)} {r g c p : Addr} {o : HO} {R : Rl}
theorem Led.back (D : Led H F ((p, o) :: (rE r g c R ++ L))) : Led H F (rE r g c R ++ ((p, o) :: L)) := D.perm (List.perm_append_comm_assoc (rE r g c R) [(p, o)] L)
theorem Led.fwd (D : Led H F (rE r g c R ++ ((p, o) :: L))) : Led H F ((p, o) :: (rE r g c R ++ L)) := D.perm (List.perm_append_comm_assoc [(p, o)] (rE r g c R) L)
end
/-! ### dicts from text to int -/
theorem lineK_app (ks ls : List (Str × Int)) : lineK (ks ++ ls) = lineK ks ++ lineK ls := List.map_append ..
theorem lineK_len (ks : List (Str × Int)) : (lineK ks).length = ks.length := List.length_map ..
theorem putK_line {ks : List (Str × Int)} {z : Str} (n : Int) (h : z ∉ ks.map (·.1)) : putK (lineK ks) (.inr z) (.int n) = lineK (ks ++ [(z, n)]) := by
  unfold putK
  rw [if_neg]
  · rw [lineK_app]; rfl
  · rw [List.any_eq_true]
    rintro ⟨kv, hm, e⟩
    have e := of_decide_eq_true e
    obtain ⟨p, hp, rfl⟩ := List.mem_map.mp hm
    have e : (Sum.inr p.1 : Key) = Sum.inr z := e
    injection e with e
    exact h (List.mem_map.mpr ⟨p, hp, e⟩)
theorem merge_line : ∀ (ls ks : List (Str × Int)), ((ks ++ ls).map (·.1)).Nodup → mergeK (lineK ks) (lineK ls) = lineK (ks ++ ls)
  | [], ks, _ => by rw [List.append_nil]; rfl
  | p :: ls, ks, h => by
    show mergeK (putK (lineK ks) (.inr p.1) (.int p.2)) (lineK ls) = _
    have hn : p.1 ∉ ks.map (·.1) := fun z => by
      rw [List.map_append, List.map_cons, List.nodup_append] at h
      exact h.2.2 _ z _ List.mem_cons_self rfl
    rw [putK_line p.2 hn, merge_line ls _ (by rw [List.append_assoc]; exact h), List.append_assoc]; rfl
theorem valV_line_some {z : Str} {n : Int} : ∀ {ks : List (Str × Int)}, (z, n) ∈ ks → (ks.map (·.1)).Nodup → valV (lineK ks) (.inr z) = some (.int n)
  | p :: ks, h, nd => by
    show valV ((Sum.inr p.1, V.int p.2) :: lineK ks) (Sum.inr z : Key) = _
    rcases List.mem_cons.mp h with e | h
    · rw [valV_pos (by show (Sum.inr p.1 : Key) = Sum.inr z; rw [← e]), ← e]
    · have hn := List.nodup_cons.mp nd
      have ne : p.1 ≠ z := fun e => hn.1 (by show p.1 ∈ _; rw [e]; exact List.mem_map.mpr ⟨_, h, rfl⟩)
      have ih := valV_line_some h hn.2
      unfold valV at ih ⊢
      rw [List.find?_cons_of_neg (by simp; exact ne)]
      exact ih
theorem LineOk.perm {ks ls : List (Str × Int)} (h : LineOk ks) (p : ls.Perm ks) : LineOk ls where
  len1 := by rw [p.length_eq]; exact h.len1
  len2 := by rw [p.length_eq]; exact h.len2
  nm := fun q hq => h.nm q (p.mem_iff.mp hq)
  ps := fun q hq => h.ps q (p.mem_iff.mp hq)
  ndn := (p.map _).nodup_iff.mpr h.ndn
  ndp := (p.map _).nodup_iff.mpr h.ndp
theorem strs_at {ns : List Str} {i : Nat} {x : V} (h : (ns.map V.str)[i]? = some x) : ∃ z, x = V.str z ∧ ns[i]? = some z := by
  rw [List.getElem?_map] at h
  cases e : ns[i]? with
  | none => rw [e] at h; cases h
  | some z => rw [e] at h; exact ⟨z, (Option.some.inj h).symm, rfl⟩
theorem seqIx {n : Nat} {d : Int} (h0 : 0 ≤ d) (h1 : d < n) : seqIndex? d n = some d.toNat := by
  have h := (ixN_seq (n := n) (i := d) (j := d.toNat) (by unfold ixN; rw [if_pos h0, if_pos h1])).1
  exact h
theorem erase_map : ∀ (ns : List Str) (k : Nat), (ns.map V.str).eraseIdx k = (ns.eraseIdx k).map V.str
  | [], _ => rfl
  | _ :: _, 0 => rfl
  | n :: ns, k + 1 => by
    show V.str n :: (ns.map V.str).eraseIdx k = V.str n :: (ns.eraseIdx k).map V.str
    rw [erase_map ns k]
theorem r_popAt {H : Hp} {Q : VK} {l : Addr} {ns : List Str} {d : Int} (h : H l = some (.lst (ns.map V.str))) (h0 : 0 ≤ d) (h1 : d < ns.length) (hz : ns.length ≤ 100000)
    (q : ∀ z, ns[d.toNat]? = some z → Q (.str z) (upd H l (.lst ((ns.eraseIdx d.toNat).map V.str)))) : rPopAt (.ref l) [.int d] H Q := by
  have hk : d.toNat < ns.length := by omega
  refine ⟨l, ns.map V.str, d, d.toNat, .str ns[d.toNat], rfl, rfl, h, by omega, by omega, by rw [List.length_map]; exact seqIx h0 h1, by rw [List.getElem?_map, List.getElem?_eq_getElem hk]; rfl, ?_⟩
  have e : (ns.map V.str).eraseIdx d.toNat = (ns.eraseIdx d.toNat).map V.str := by
    exact erase_map ns d.toNat
  rw [e]
  exact q _ (List.getElem?_eq_getElem hk)

theorem erase_perm {α : Type} : ∀ {l : List α} {k : Nat} {z : α}, l[k]? = some z → (z :: l.eraseIdx k).Perm l
  | [], _, _, h => by cases h
  | a :: l, 0, z, h => by cases h; exact List.Perm.refl _
  | a :: l, k + 1, z, h => by
    have ih := erase_perm (l := l) (k := k) (z := z) h
    exact (List.Perm.swap a z (l.eraseIdx k)).trans (ih.cons a)
/-- the position of a host -/
def posOf (ks : List (Str × Int)) (z : Str) : Int := ((ks.find? fun p => decide (p.1 = z)).map (·.2)).getD 0
theorem posOf_in : ∀ {ks : List (Str × Int)} {z : Str}, z ∈ ks.map (·.1) → (z, posOf ks z) ∈ ks
  | p :: ks, z, h => by
    by_cases e : p.1 = z
    · have : posOf (p :: ks) z = p.2 := by unfold posOf; rw [List.find?_cons_of_pos (by simp [e])]; rfl
      rw [this, ← e]; exact List.mem_cons_self
    · have h2 : z ∈ ks.map (·.1) := by
        rcases List.mem_cons.mp h with q | q
        · exact absurd q.symm e
        · exact q
      have : posOf (p :: ks) z = posOf ks z := by unfold posOf; rw [List.find?_cons_of_neg (by simp [e])]
      rw [this]; exact List.mem_cons_of_mem _ (posOf_in h2)
theorem posOf_of : ∀ {ks : List (Str × Int)} {z : Str} {n : Int}, (z, n) ∈ ks → (ks.map (·.1)).Nodup → posOf ks z = n
  | p :: ks, z, n, h, nd => by
    rcases List.mem_cons.mp h with e | h
    · unfold posOf; rw [List.find?_cons_of_pos (by simp [← e])]; rw [← e]; rfl
    · have hn := List.nodup_cons.mp nd
      have ne : ¬ p.1 = z := fun e => hn.1 (by show p.1 ∈ _; rw [e]; exact List.mem_map.mpr ⟨_, h, rfl⟩)
      have : posOf (p :: ks) z = posOf ks z := by unfold posOf; rw [List.find?_cons_of_neg (by simp [ne])]
      rw [this]; exact posOf_of h hn.2
theorem posOf_map {ks : List (Str × Int)} (nd : (ks.map (·.1)).Nodup) : (ks.map (·.1)).map (fun z => (z, posOf ks z)) = ks := by
  rw [List.map_map]
  have : ∀ p ∈ ks, ((fun z => (z, posOf ks z)) ∘ fun x => x.1) p = p := fun p hp => by
    show (p.1, posOf ks p.1) = p
    rw [posOf_of (z := p.1) (n := p.2) hp nd]
  rw [List.map_congr_left this]; exact List.map_id _

theorem Paired.app {α β : Type} {F : α → β → Prop} : ∀ {l₁ m₁ : List α} {l₂ m₂ : List β}, Paired F l₁ l₂ → Paired F m₁ m₂ → Paired F (l₁ ++ m₁) (l₂ ++ m₂)
  | _, _, _, _, .nil, k => k
  | _, _, _, _, .cons r t, k => .cons r (Paired.app t k)

/-! ### a rest that is shown once -/
theorem with_e {te : TE} {σ : L2.St} {H : Hp} {Q : VK} (Pq : V → Hp → Prop) (rest : ∀ v H', Pq v H' → Q v H') (go : (∀ v H', Pq v H' → Q v H') → te σ H Q) : te σ H Q := go rest
theorem with_s {t : TS} {σ : L2.St} {H : Hp} {D : Ends} (Pq : L2.St → Hp → Prop) (rest : ∀ σ' H', Pq σ' H' → D.nx σ' H') (go : (∀ σ' H', Pq σ' H' → D.nx σ' H') → t D σ H) : t D σ H := go rest
/-! ### lists of texts, frames, as data -/
def dS (ns : List Str) : List PyData := ns.map PyData.str
theorem dpS {K : PySem.W.Frag} {H : Hp} : ∀ ns : List Str, DpAll K H (ns.map V.str) (dS ns)
  | [] => .nil
  | n :: ns => .cons (.str n) (dpS ns)
theorem canS : ∀ ns : List Str, (∀ z ∈ ns, nmStr z = true) → PyData.canLayAll0 (dS ns) = true
  | [], _ => rfl
  | n :: ns, h => by
    show (PyData.canLay0 (.str n) && PyData.canLayAll0 (dS ns)) = true
    rw [canS ns fun z hz => h z (List.mem_cons_of_mem _ hz), Bool.and_true]
    have hn := h n List.mem_cons_self
    unfold nmStr at hn
    rw [Bool.and_eq_true] at hn
    show (n.cps.all fun c => decide (c < 0x110000)) = true
    rw [← Array.all_toList, List.all_eq_true]
    intro c hc
    have := of_decide_eq_true ((List.all_eq_true.mp hn.2) c hc)
    exact decide_eq_true (by omega)
theorem depS : ∀ ns : List Str, PyData.depthAll (dS ns) = 0
  | [] => rfl
  | n :: ns => by
    show max (PyData.depth (.str n)) (PyData.depthAll (dS ns)) = 0
    rw [depS ns]; rfl
theorem shS (ns : List Str) (h : ∀ z ∈ ns, nmStr z = true) : SeqAt.shaped (.list (dS ns)) = true := by
  unfold SeqAt.shaped
  rw [Bool.and_eq_true]
  refine ⟨canS ns h, decide_eq_true ?_⟩
  show PyData.depthAll (dS ns) + 1 ≤ 64
  rw [depS]; decide
def tS (p : Str × Str) : PyData := .tuple [.str p.1, .str p.2]
/-- frames: a list of tuples of two texts each -/
def TupsAt (H : Hp) (ts : List Addr) (ps : List (Str × Str)) : Prop := Paired (fun t p => H t = some (.tup [.str p.1, .str p.2])) ts ps
theorem TupsAt.mono {H H' : Hp} {ts : List Addr} {ps : List (Str × Str)} (e : Same H H') (h : TupsAt H ts ps) : TupsAt H' ts ps := L2.Paired.mapP h fun _ _ q => e _ _ q
theorem TupsAt.dp {K : PySem.W.Frag} {H : Hp} : ∀ {ts : List Addr} {ps : List (Str × Str)}, TupsAt H ts ps → DpAll K H (ts.map V.ref) (ps.map tS)
  | _, _, .nil => .nil
  | _, _, .cons r t => .cons (.tup (SqT.of r) (.cons (.str _) (.cons (.str _) .nil))) (TupsAt.dp t)
theorem canT : ∀ ps : List (Str × Str), (∀ p ∈ ps, nmStr p.1 = true ∧ nmStr p.2 = true) → PyData.canLayAll0 (ps.map tS) = true
  | [], _ => rfl
  | p :: ps, h => by
    show (PyData.canLayAll0 (dS [p.1, p.2]) && PyData.canLayAll0 (ps.map tS)) = true
    rw [canT ps fun q hq => h q (List.mem_cons_of_mem _ hq), Bool.and_true]
    have := h p List.mem_cons_self
    exact canS _ fun z hz => by
      rcases List.mem_cons.mp hz with e | hz
      · rw [e]; exact this.1
      · rw [List.mem_singleton.mp hz]; exact this.2
theorem depT : ∀ ps : List (Str × Str), PyData.depthAll (ps.map tS) ≤ 1
  | [] => by decide
  | p :: ps => by
    have ih := depT ps
    show max (PyData.depthAll (dS [p.1, p.2]) + 1) (PyData.depthAll (ps.map tS)) ≤ 1
    rw [depS]
    omega
theorem shT (ps : List (Str × Str)) (h : ∀ p ∈ ps, nmStr p.1 = true ∧ nmStr p.2 = true) : SeqAt.shaped (.list (ps.map tS)) = true := by
  unfold SeqAt.shaped
  rw [Bool.and_eq_true]
  refine ⟨canT ps h, decide_eq_true ?_⟩
  have := depT ps
  show PyData.depthAll (ps.map tS) + 1 ≤ 64
  omega
theorem eqv_nil (ds : List PyData) : PyData.eqv (.list ds) (.list []) = ds.isEmpty := by
  cases ds <;> rfl

theorem paired_last {α β : Type} {F : α → β → Prop} : ∀ {xs : List α} {ys : List β}, Paired F xs ys → ys ≠ [] → ∃ xs' x ys' y, xs = xs' ++ [x] ∧ ys = ys' ++ [y] ∧ F x y
  | _, _, .nil, h => absurd rfl h
  | [x], [y], .cons r .nil, _ => ⟨[], x, [], y, rfl, rfl, r⟩
  | x :: x2 :: xs, y :: y2 :: ys, .cons r t, _ => by
    obtain ⟨xs', u, ys', v, e1, e2, q⟩ := paired_last t (by simp)
    exact ⟨x :: xs', u, y :: ys', v, by rw [e1]; rfl, by rw [e2]; rfl, q⟩
theorem isEmpty_nil {α : Type} {l : List α} (h : l.isEmpty = true) : l = [] := by cases l with
  | nil => rfl
  | cons _ _ => cases h
theorem dec_str (z s : Str) : decide (V.str z = V.str s) = decide (z = s) := by
  by_cases e : z = s
  · rw [e, decide_eq_true rfl, decide_eq_true rfl]
  · rw [decide_eq_false e, decide_eq_false fun q => e (by injection q)]
end FL
namespace FL
open PySem PySem.Spec PyProof.Rows L2

/-! ### data that repr can write: short numbers, a bounded weight, a bounded depth -/
structure DOk (d : PyData) (W k : Nat) : Prop where
  ls : d.leavesShort 40 = true
  sh : d.showable = true
  wt : d.weight ≤ W
  dp : d.depth ≤ k
structure DOkA (ds : List PyData) (W k : Nat) : Prop where
  ls : PyData.leavesShortAll 40 ds = true
  sh : PyData.showableAll ds = true
  wt : PyData.weightAll ds ≤ W
  dp : PyData.depthAll ds ≤ k
structure DOkV (ds : List (PyData × PyData)) (W k : Nat) : Prop where
  ls : PyData.leavesShortKv 40 ds = true
  sh : PyData.showableKv ds = true
  wt : PyData.weightKv ds ≤ W
  dp : PyData.depthKv ds ≤ k
theorem DOk.more {d : PyData} {W W' k k' : Nat} (h : DOk d W k) (hw : W ≤ W') (hk : k ≤ k') : DOk d W' k' := ⟨h.ls, h.sh, Nat.le_trans h.wt hw, Nat.le_trans h.dp hk⟩
theorem DOkA.more {d : List PyData} {W W' k k' : Nat} (h : DOkA d W k) (hw : W ≤ W') (hk : k ≤ k') : DOkA d W' k' := ⟨h.ls, h.sh, Nat.le_trans h.wt hw, Nat.le_trans h.dp hk⟩
theorem DOk.non : DOk .none 0 0 := ⟨rfl, rfl, Nat.le_refl _, Nat.le_refl _⟩
theorem DOk.bl (b : Bool) : DOk (.bool b) 0 0 := ⟨rfl, rfl, Nat.le_refl _, Nat.le_refl _⟩
theorem num_len {i : Int} (h0 : -(10 ^ 39) < i) (h1 : i < 10 ^ 39) : (Str.ofString (toString i)).length ≤ 40 := by
  by_cases h : 0 ≤ i
  · exact Nat.le_trans (toString_length_le h (k := 39) (by decide) h1) (by decide)
  · cases i with
    | ofNat n => exact absurd (Int.natCast_nonneg n) h
    | negSucc n =>
      have e : toString (Int.negSucc n) = "-" ++ toString ((n + 1 : Nat) : Int) := rfl
      have h2 := toString_length_le (v := ((n + 1 : Nat) : Int)) (by omega) (k := 39) (by decide) (by omega)
      rw [PyProof.Rows.ofString_length] at h2 ⊢
      rw [e, String.toList_append, List.length_append]
      have e1 : ("-" : String).toList.length = 1 := by decide
      omega
theorem DOk.int {i : Int} (h0 : -(10 ^ 39) < i) (h1 : i < 10 ^ 39) : DOk (.int i) 130 0 := by
  refine ⟨?_, ?_, ?_, Nat.le_refl _⟩
  · show decide ((PyData.shown (.int i)).length ≤ 40) = true
    refine decide_eq_true ?_
    simp only [PyData.shown]
    exact num_len h0 h1
  · show decide (i.natAbs.log2 < 1920) = true
    refine decide_eq_true (Nat.lt_of_lt_of_le (PySem.Flt.log2_lt_of (k := 200) (by decide) ?_) (by decide))
    have : (10 : Nat) ^ 39 < 2 ^ 200 := by decide
    omega
  · show (if i == 0 then 0 else i.natAbs.log2 + 1) ≤ 130
    split
    · decide
    · have h2 : i.natAbs.log2 < 130 := PySem.Flt.log2_lt_of (k := 130) (by decide) (by have : (10 : Nat) ^ 39 < 2 ^ 130 := by decide
                                                                                       omega)
      omega
theorem DOk.str {z : Str} (h : ∀ c ∈ z.cps.toList, c < 16 ^ 8) : DOk (.str z) z.cps.size 0 := by
  refine ⟨?_, rfl, Nat.le_refl _, Nat.le_refl _⟩
  show (z.cps.toList.all fun c => decide (c < 16 ^ 8)) = true
  exact List.all_eq_true.mpr fun c hc => decide_eq_true (h c hc)
theorem nm_small {z : Str} (h : nmStr z = true) : ∀ c ∈ z.cps.toList, c < 16 ^ 8 := fun c hc => by
  unfold nmStr at h
  rw [Bool.and_eq_true] at h
  have := of_decide_eq_true ((List.all_eq_true.mp h.2) c hc)
  have e : (16 : Nat) ^ 8 = 4294967296 := by decide
  omega
theorem DOk.nm {z : Str} (h : nmStr z = true) : DOk (.str z) 8 0 := (DOk.str (nm_small h)).more (nm_len h).2 (Nat.le_refl _)
theorem DOkA.nil {k : Nat} : DOkA [] 0 k := ⟨rfl, rfl, Nat.le_refl _, Nat.zero_le _⟩
theorem DOkA.cons {d : PyData} {ds : List PyData} {w W k : Nat} (h : DOk d w k) (t : DOkA ds W k) : DOkA (d :: ds) (w + 1 + W) k := by
  refine ⟨?_, ?_, ?_, ?_⟩
  · simp only [PyData.leavesShortAll, Bool.and_eq_true]; exact ⟨h.ls, t.ls⟩
  · simp only [PyData.showableAll, Bool.and_eq_true]; exact ⟨h.sh, t.sh⟩
  · simp only [PyData.weightAll]; have := h.wt; have := t.wt; omega
  · simp only [PyData.depthAll]; have := h.dp; have := t.dp; omega
theorem DOkA.append {ds es : List PyData} {W U k : Nat} (h : DOkA ds W k) (t : DOkA es U k) : DOkA (ds ++ es) (W + U) k := by
  induction ds generalizing W with
  | nil => exact (t.more (by omega) (Nat.le_refl _))
  | cons d ds ih =>
    have h1 : DOk d d.weight k := ⟨by have := h.ls; simp only [PyData.leavesShortAll, Bool.and_eq_true] at this; exact this.1, by have := h.sh; simp only [PyData.showableAll, Bool.and_eq_true] at this; exact this.1, Nat.le_refl _, by have := h.dp; simp only [PyData.depthAll] at this; omega⟩
    have h2 : DOkA ds (PyData.weightAll ds) k := ⟨by have := h.ls; simp only [PyData.leavesShortAll, Bool.and_eq_true] at this; exact this.2, by have := h.sh; simp only [PyData.showableAll, Bool.and_eq_true] at this; exact this.2, Nat.le_refl _, by have := h.dp; simp only [PyData.depthAll] at this; omega⟩
    refine (DOkA.cons h1 (ih h2)).more ?_ (Nat.le_refl _)
    have := h.wt
    simp only [PyData.weightAll] at this
    omega
theorem DOkA.all {w k : Nat} : ∀ {ds : List PyData}, (∀ d ∈ ds, DOk d w k) → DOkA ds (ds.length * (w + 1)) k
  | [], _ => DOkA.nil.more (by omega) (Nat.le_refl _)
  | d :: ds, h => (DOkA.cons (h d List.mem_cons_self) (DOkA.all fun e he => h e (List.mem_cons_of_mem _ he))).more (by rw [List.length_cons, Nat.succ_mul]; omega) (Nat.le_refl _)
theorem DOk.list {ds : List PyData} {W k : Nat} (h : DOkA ds W k) : DOk (.list ds) W (k + 1) :=
  ⟨by simp only [PyData.leavesShort]; exact h.ls, by simp only [PyData.showable]; exact h.sh, by simp only [PyData.weight]; exact h.wt, by simp only [PyData.depth]; have := h.dp; omega⟩
theorem DOk.tuple {ds : List PyData} {W k : Nat} (h : DOkA ds W k) : DOk (.tuple ds) W (k + 1) :=
  ⟨by simp only [PyData.leavesShort]; exact h.ls, by simp only [PyData.showable]; exact h.sh, by simp only [PyData.weight]; exact h.wt, by simp only [PyData.depth]; have := h.dp; omega⟩
theorem DOkV.nil {k : Nat} : DOkV [] 0 k := ⟨rfl, rfl, Nat.le_refl _, Nat.zero_le _⟩
theorem DOkV.cons {c d : PyData} {ds : List (PyData × PyData)} {v w W k : Nat} (g : DOk c v k) (h : DOk d w k) (t : DOkV ds W k) : DOkV ((c, d) :: ds) (v + w + 2 + W) k := by
  refine ⟨?_, ?_, ?_, ?_⟩
  · simp only [PyData.leavesShortKv, Bool.and_eq_true]; exact ⟨⟨g.ls, h.ls⟩, t.ls⟩
  · simp only [PyData.showableKv, Bool.and_eq_true]; exact ⟨⟨g.sh, h.sh⟩, t.sh⟩
  · simp only [PyData.weightKv]; have := g.wt; have := h.wt; have := t.wt; omega
  · simp only [PyData.depthKv]; have := g.dp; have := h.dp; have := t.dp; omega
theorem DOk.dict {ds : List (PyData × PyData)} {W k : Nat} (h : DOkV ds W k) : DOk (.dict ds) W (k + 1) :=
  ⟨by simp only [PyData.leavesShort]; exact h.ls, by simp only [PyData.showable]; exact h.sh, by simp only [PyData.weight]; exact h.wt, by simp only [PyData.depth]; have := h.dp; omega⟩
theorem DOk.fits {d : PyData} {W k : Nat} (h : DOk d W k) (hw : W ≤ 399000) : d.shown.length ≤ sizeLine := by
  have h1 := PyData.shown_le 40 (by decide) d h.ls
  have h2 : (40 + 2) * d.weight ≤ 42 * 399000 := Nat.mul_le_mul (by decide) (Nat.le_trans h.wt hw)
  rw [sizeLine_eq]
  omega

/-! ### values of such data -/
def Dx (F : Hp) (v : V) (W k : Nat) : Prop := ∃ d, Dt F v d ∧ DOk d W k
def DxA (F : Hp) (vs : List V) (W k : Nat) : Prop := ∃ ds, DtAll F vs ds ∧ DOkA ds W k
theorem Dx.mono {F F' : Hp} {v : V} {W k : Nat} (e : Same F F') (h : Dx F v W k) : Dx F' v W k := let ⟨d, h1, h2⟩ := h; ⟨d, h1.mono e, h2⟩
theorem Dx.more {F : Hp} {v : V} {W W' k k' : Nat} (h : Dx F v W k) (hw : W ≤ W') (hk : k ≤ k') : Dx F v W' k' := let ⟨d, h1, h2⟩ := h; ⟨d, h1, h2.more hw hk⟩
theorem DxA.mono {F F' : Hp} {v : List V} {W k : Nat} (e : Same F F') (h : DxA F v W k) : DxA F' v W k := let ⟨d, h1, h2⟩ := h; ⟨d, h1.mono e, h2⟩
theorem DxA.more {F : Hp} {v : List V} {W W' k k' : Nat} (h : DxA F v W k) (hw : W ≤ W') (hk : k ≤ k') : DxA F v W' k' := let ⟨d, h1, h2⟩ := h; ⟨d, h1, h2.more hw hk⟩
section
variable {F : Hp} {v : V} {vs us : List V} {w W U k : Nat} {a : Addr}
theorem Dx.non : Dx F .non 0 0 := ⟨_, .non, .non⟩
theorem Dx.bl (b : Bool) : Dx F (.bl b) 0 0 := ⟨_, .bl b, .bl b⟩
theorem Dx.int {i : Int} (h0 : -(10 ^ 39) < i) (h1 : i < 10 ^ 39) : Dx F (.int i) 130 0 := ⟨_, .int i, .int h0 h1⟩
theorem Dx.nm {z : Str} (h : nmStr z = true) : Dx F (.str z) 8 0 := ⟨_, .str z, .nm h⟩
theorem Dx.str {z : Str} (h : ∀ c ∈ z.cps.toList, c < 16 ^ 8) : Dx F (.str z) z.cps.size 0 := ⟨_, .str z, .str h⟩
theorem DxA.nil : DxA F [] 0 k := ⟨_, .nil, .nil⟩
theorem DxA.cons (h : Dx F v w k) (t : DxA F vs W k) : DxA F (v :: vs) (w + 1 + W) k := let ⟨_, h1, h2⟩ := h; let ⟨_, t1, t2⟩ := t; ⟨_, .cons h1 t1, .cons h2 t2⟩
theorem DtAll.append {H : Hp} : ∀ {vs us : List V} {ds es : List PyData}, DtAll H vs ds → DtAll H us es → DtAll H (vs ++ us) (ds ++ es)
  | _, _, _, _, .nil, k => k
  | _, _, _, _, .cons h t, k => .cons h (DtAll.append t k)
theorem DxA.append (h : DxA F vs W k) (t : DxA F us U k) : DxA F (vs ++ us) (W + U) k := let ⟨_, h1, h2⟩ := h; let ⟨_, t1, t2⟩ := t; ⟨_, DtAll.append h1 t1, h2.append t2⟩
theorem DxA.all : ∀ {vs : List V}, (∀ v ∈ vs, Dx F v w k) → DxA F vs (vs.length * (w + 1)) k
  | [], _ => DxA.nil.more (by omega) (Nat.le_refl _)
  | v :: vs, h => (DxA.cons (h v List.mem_cons_self) (DxA.all fun e he => h e (List.mem_cons_of_mem _ he))).more (by rw [List.length_cons, Nat.succ_mul]; omega) (Nat.le_refl _)
theorem Dx.lst (h : F a = some (.lst vs)) (t : DxA F vs W k) : Dx F (.ref a) W (k + 1) := let ⟨_, t1, t2⟩ := t; ⟨_, .lst h t1, .list t2⟩
theorem Dx.tup (h : F a = some (.tup vs)) (t : DxA F vs W k) : Dx F (.ref a) W (k + 1) := let ⟨_, t1, t2⟩ := t; ⟨_, .tup h t1, .tuple t2⟩
theorem line_kv : ∀ (ks : List (Str × Int)), (∀ p ∈ ks, nmStr p.1 = true) → (∀ p ∈ ks, -(10 ^ 30) ≤ p.2 ∧ p.2 ≤ 10 ^ 30) → ∃ ds, DtKv F (lineK ks) ds ∧ DOkV ds (ks.length * 140) 0
  | [], _, _ => ⟨[], .nil, .nil⟩
  | p :: ks, h1, h2 => by
    obtain ⟨ds, q1, q2⟩ := line_kv ks (fun x hx => h1 x (List.mem_cons_of_mem _ hx)) fun x hx => h2 x (List.mem_cons_of_mem _ hx)
    have b := h2 p List.mem_cons_self
    have e : (10 : Int) ^ 30 < 10 ^ 39 := by decide
    refine ⟨(.str p.1, .int p.2) :: ds, .cons (k := .inr p.1) (.int p.2) q1, ?_⟩
    have := DOkV.cons (DOk.nm (h1 p List.mem_cons_self)) (DOk.int (i := p.2) (by omega) (by omega)) q2
    exact ⟨this.ls, this.sh, Nat.le_trans this.wt (by rw [List.length_cons, Nat.succ_mul]; omega), this.dp⟩
theorem Dx.line {ks : List (Str × Int)} (h : F a = some (.dK (lineK ks))) (ok : LineOk ks) : Dx F (.ref a) 5600 1 := by
  obtain ⟨ds, q1, q2⟩ := line_kv (F := F) ks ok.nm ok.ps
  exact ⟨_, .dct h q1, (DOk.dict q2).more (by have := ok.len2; omega) (Nat.le_refl _)⟩
theorem Dx.tS {p : Str × Str} {t : Addr} (h : F t = some (.tup [.str p.1, .str p.2])) (h1 : nmStr p.1 = true) (h2 : nmStr p.2 = true) : Dx F (.ref t) 18 1 :=
  (Dx.tup h (.cons (.nm h1) (.cons (.nm h2) .nil))).more (by decide) (Nat.le_refl _)
end

/-! ### many new things, none of them written again -/
def Has (F : Hp) (l : List (Addr × HO)) : Prop := ∀ x ∈ l, F x.1 = some x.2
section
variable {H H1 F F0 : Hp} {L l : List (Addr × HO)} {p a : Addr} {o : HO}
theorem Has.nil : Has F [] := fun _ h => nomatch h
theorem Has.get (h : Has F l) (i : Nat) (e : l[i]? = some (a, o) := by rfl) : F a = some o := h _ (List.mem_of_getElem? e)
theorem Has.mono {F' : Hp} (s : Same F F') (h : Has F l) : Has F' l := fun x hx => s _ _ (h x hx)
theorem Led.nh (D : Led H F L) (s : Same F0 F) (hh : Has F l) (hp : H p = none) (e : upd H p o = H1) : ∃ F1, Same F0 F1 ∧ Has F1 ((p, o) :: l) ∧ Led H1 F1 L := by
  obtain ⟨F1, s1, h1, _, D1⟩ := D.nf hp e
  refine ⟨F1, s.trans s1, fun x hx => ?_, D1⟩
  rcases List.mem_cons.mp hx with e | hx
  · rw [e]; exact h1
  · exact s1 _ _ (hh x hx)
theorem Led.after {H' : Hp} (D : Led H F L) (s : Same H H') : Led H' F L := ⟨D.ext.trans s, fun x hx => ⟨s _ _ (D.ent x hx).1, (D.ent x hx).2⟩, D.nd⟩
end
theorem y_disp {trs : List (TE × TE)} {σ : L2.St} {H : Hp} {Q : VK} (q : ∀ p, H p = none → tPairs trs σ (upd H p (.dK [])) fun ps H2 => H2 p = some (.dK []) ∧ ∃ kvs : List (Key × V), ps = kvs.map (fun kv => (kV kv.1, kv.2)) ∧ kvs.length ≤ 15 ∧ Q (.ref p) (upd H2 p (.dK (mergeK [] kvs)))) : tDisp trs σ H Q := q
end FL
namespace FL
open PySem PySem.Spec PyProof.Rows L2

/-! ### frames that are none, lists of frames with one that is none -/
section
variable {F : Hp} {ks : List (Str × Int)} {t l : Addr} {u v x : V} {xs : List V} {z : Str} {s s' : String} {W k : Nat}
theorem host_no (h : z ∉ ks.map (·.1)) : isHost ks (.str z) = false := by
  show (ks.any fun p => decide (p.1 = z)) = false
  rw [List.any_eq_false]
  intro p hp e
  exact h (List.mem_map.mpr ⟨p, hp, of_decide_eq_true e⟩)
theorem host_is (h : z ∈ ks.map (·.1)) : isHost ks (.str z) = true := by
  obtain ⟨p, hp, e⟩ := List.mem_map.mp h
  exact List.any_eq_true.mpr ⟨p, hp, decide_eq_true e⟩
theorem frP (h : F t = some (.tup [u, v])) (hu : Ar F u s) (hv : Ar F v s') (e : (isHost ks u && isHost ks v && !decide (u = v)) = false) : FrB ks F (.ref t) false := e ▸ .pair h hu hv
theorem frE (h : F t = some (.tup [.str z, .str z])) : FrB ks F (.ref t) false := frP h (.str _) (.str _) (by simp)
theorem frR (h : F t = some (.tup [u, v])) (hu : Ar F u s) (hv : Ar F v s') (e : isHost ks v = false) : FrB ks F (.ref t) false := frP h hu hv (by rw [e, Bool.and_false, Bool.false_and])
theorem frLf (h : F t = some (.tup [u, v])) (hu : Ar F u s) (hv : Ar F v s') (e : isHost ks u = false) : FrB ks F (.ref t) false := frP h hu hv (by rw [e, Bool.false_and, Bool.false_and])
theorem frT (h : F t = some (.tup xs)) (n : xs.length ≠ 2) (m : xs.length ≤ 100000) : FrB ks F (.ref t) false :=
  .no (.tup h) (fun t' u v e q => by cases e; rw [h] at q; cases q; exact n rfl) (fun t' ys e q => by cases e; rw [h] at q; cases q; exact m)
theorem frL (h : F t = some (.lst xs)) : FrB ks F (.ref t) false :=
  .no (.lst h) (fun t' u v e q => by cases e; rw [h] at q; cases q) (fun t' ys e q => by cases e; rw [h] at q; cases q)
theorem frD {kvs : List (Key × V)} (h : F t = some (.dK kvs)) : FrB ks F (.ref t) false :=
  .no (.dK h) (fun t' u v e q => by cases e; rw [h] at q; cases q) (fun t' ys e q => by cases e; rw [h] at q; cases q)
theorem frA (h : Ar F x s) (n : ∀ a, x ≠ .ref a) : FrB ks F x false := .no h (fun t _ _ e _ => n t e) (fun t _ e _ => absurd e (n t))
theorem frs_true : ∀ {xs : List V}, (∀ v ∈ xs, FrB ks F v true) → ∃ bs, Paired (FrB ks F) xs bs ∧ bs.all id = true
  | [], _ => ⟨[], .nil, rfl⟩
  | x :: xs, h => by
    obtain ⟨bs, p, e⟩ := frs_true fun v hv => h v (List.mem_cons_of_mem _ hv)
    exact ⟨true :: bs, .cons (h x List.mem_cons_self) p, e⟩
theorem frs_any : ∀ {xs : List V}, (∀ v ∈ xs, ∃ b, FrB ks F v b) → ∃ bs, Paired (FrB ks F) xs bs
  | [], _ => ⟨[], .nil⟩
  | x :: xs, h => by
    obtain ⟨bs, p⟩ := frs_any fun v hv => h v (List.mem_cons_of_mem _ hv)
    obtain ⟨b, q⟩ := h x List.mem_cons_self
    exact ⟨b :: bs, .cons q p⟩
theorem frs_false : ∀ {xs : List V}, x ∈ xs → FrB ks F x false → (∀ v ∈ xs, ∃ b, FrB ks F v b) → ∃ bs, Paired (FrB ks F) xs bs ∧ bs.all id = false
  | y :: xs, hx, f, h => by
    rcases List.mem_cons.mp hx with e | hx
    · subst e
      obtain ⟨bs, p⟩ := frs_any fun v hv => h v (List.mem_cons_of_mem _ hv)
      exact ⟨false :: bs, .cons f p, rfl⟩
    · obtain ⟨bs, p, e⟩ := frs_false hx f fun v hv => h v (List.mem_cons_of_mem _ hv)
      obtain ⟨b, q⟩ := h y List.mem_cons_self
      exact ⟨b :: bs, .cons q p, by rw [List.all_cons, e, Bool.and_false]⟩
theorem framesT (h : F l = some (.lst xs)) (n : xs.length ≤ 300) (q : ∀ v ∈ xs, FrB ks F v true) : FramesB ks F (.ref l) true := by
  obtain ⟨bs, p, e⟩ := frs_true q
  have := FramesB.lst h n p
  rw [e] at this
  exact this
theorem framesF (h : F l = some (.lst xs)) (n : xs.length ≤ 300) (hx : x ∈ xs) (f : FrB ks F x false) (q : ∀ v ∈ xs, ∃ b, FrB ks F v b) : FramesB ks F (.ref l) false := by
  obtain ⟨bs, p, e⟩ := frs_false hx f q
  have := FramesB.lst h n p
  rw [e] at this
  exact this
theorem pr_true {p : Str × Str} (h : F t = some (.tup [.str p.1, .str p.2])) (h1 : p.1 ∈ ks.map (·.1)) (h2 : p.2 ∈ ks.map (·.1)) (n : p.1 ≠ p.2) : FrB ks F (.ref t) true := by
  have := FrB.pair (ks := ks) h (.str _) (.str _)
  rw [host_is h1, host_is h2, decide_eq_false (fun e => n (by injection e))] at this
  exact this
theorem sendsT : ∀ {ts : List Addr} {ps : List (Str × Str)}, TupsAt F ts ps → (∀ p ∈ ps, p.1 ∈ ks.map (·.1) ∧ p.2 ∈ ks.map (·.1) ∧ p.1 ≠ p.2) → ∀ v ∈ ts.map V.ref, FrB ks F v true
  | _, _, .nil, _, v, hv => nomatch hv
  | t :: ts, p :: ps, .cons r tp, so, v, hv => by
    rcases List.mem_cons.mp hv with e | hv
    · rw [e]
      have q := so p List.mem_cons_self
      exact pr_true r q.1 q.2.1 q.2.2
    · exact sendsT tp (fun p hp => so p (List.mem_cons_of_mem _ hp)) v hv
theorem sendsX : ∀ {ts : List Addr} {ps : List (Str × Str)}, TupsAt F ts ps → (∀ p ∈ ps, nmStr p.1 = true ∧ nmStr p.2 = true) → ∀ v ∈ ts.map V.ref, Dx F v 18 1
  | _, _, .nil, _, v, hv => nomatch hv
  | t :: ts, p :: ps, .cons r tp, so, v, hv => by
    rcases List.mem_cons.mp hv with e | hv
    · rw [e]
      have q := so p List.mem_cons_self
      exact Dx.tS r q.1 q.2
    · exact sendsX tp (fun p hp => so p (List.mem_cons_of_mem _ hp)) v hv
/-- the sends with one wrong item among them -/
theorem mixF {a : Nat} {fs : List V} (h : F l = some (.lst (fs.take a ++ [x] ++ fs.drop a))) (hl : fs.length ≤ 299) (hf : ∀ v ∈ fs, FrB ks F v true) (f : FrB ks F x false) : FramesB ks F (.ref l) false := by
  refine framesF h ?_ (x := x) (by simp) f fun v hv => ?_
  · rw [List.length_append, List.length_append, List.length_take, List.length_drop, List.length_singleton]; omega
  · rcases List.mem_append.mp hv with hv | hv
    · rcases List.mem_append.mp hv with hv | hv
      · exact ⟨_, hf v (List.mem_of_mem_take hv)⟩
      · rw [List.mem_singleton.mp hv]; exact ⟨_, f⟩
    · exact ⟨_, hf v (List.mem_of_mem_drop hv)⟩
theorem mixX {a : Nat} {fs : List V} (h : F l = some (.lst (fs.take a ++ [x] ++ fs.drop a))) (hl : fs.length ≤ 299) (hf : ∀ v ∈ fs, Dx F v 18 1) (f : Dx F x 200 3) : Dx F (.ref l) 6000 4 := by
  refine (Dx.lst h (DxA.append (DxA.append (DxA.all (w := 18) (k := 3) fun v hv => (hf v (List.mem_of_mem_take hv)).more (Nat.le_refl _) (by decide)) (DxA.cons f DxA.nil)) (DxA.all (w := 18) (k := 3) fun v hv => (hf v (List.mem_of_mem_drop hv)).more (Nat.le_refl _) (by decide)))).more ?_ (Nat.le_refl _)
  rw [List.length_take, List.length_drop]; omega
theorem xN (h : nmStr z = true) : Dx F (.str z) 8 k := (Dx.nm h).more (Nat.le_refl _) (Nat.zero_le _)
theorem xS (h : ∀ c ∈ z.cps.toList, c < 16 ^ 8 := by decide) (e : z.cps.size ≤ 8 := by decide) : Dx F (.str z) 8 k := (Dx.str h).more e (Nat.zero_le _)
theorem xI {i : Int} (h0 : -(10 ^ 39) < i := by decide) (h1 : i < 10 ^ 39 := by decide) : Dx F (.int i) 130 k := (Dx.int h0 h1).more (Nat.le_refl _) (Nat.zero_le _)
theorem xB (b : Bool) : Dx F (.bl b) 0 k := (Dx.bl b).more (Nat.le_refl _) (Nat.zero_le _)
theorem xO : Dx F .non 0 k := Dx.non.more (Nat.le_refl _) (Nat.zero_le _)
theorem xD (h : F t = some (.dK [])) : Dx F (.ref t) 0 (k + 1) := ⟨_, .dct h .nil, DOk.dict (DOkV.nil (k := k))⟩
end
theorem alN {α : Type} {p : α → Prop} : ∀ x ∈ ([] : List α), p x := fun _ h => nomatch h
theorem alC {α : Type} {p : α → Prop} {a : α} {l : List α} (h : p a) (t : ∀ x ∈ l, p x) : ∀ x ∈ a :: l, p x := List.forall_mem_cons.mpr ⟨h, t⟩
theorem alA {α : Type} {p : α → Prop} {l m : List α} (h : ∀ x ∈ l, p x) (t : ∀ x ∈ m, p x) : ∀ x ∈ l ++ m, p x := fun x hx => (List.mem_append.mp hx).elim (h x) (t x)
theorem alR {α : Type} {p : α → Prop} {l : List α} {n : Nat} (h : ∀ x ∈ l, p x) : ∀ x ∈ (List.replicate n l).flatten, p x := fun x hx => by
  obtain ⟨m, hm, q⟩ := List.mem_flatten.mp hx
  rw [List.eq_of_mem_replicate hm] at q
  exact h x q
theorem flat_len {α : Type} (n : Nat) (x : α) : ((List.replicate n [x]).flatten).length = n := by simp
theorem Led.froz {H F : Hp} {L : List (Addr × HO)} {a : Addr} {o : HO} (D : Led H F ((a, o) :: L)) : ∃ F1, Same F F1 ∧ Has F1 [(a, o)] ∧ Led H F1 L :=
  ⟨upd F a o, D.grow, fun x hx => by rw [List.mem_singleton.mp hx]; exact upd_same, D.freeze⟩
theorem bit300 (q : Bool) (n : Prop) (h : q = true → n) : ∃ j : Nat, j ≤ 300 ∧ (300 * (if q = true then (1 : Int) else 0)) = (j : Int) ∧ (j = 0 ∨ n) := by
  cases q with
  | true => exact ⟨300, by decide, by simp, .inr (h rfl)⟩
  | false => exact ⟨0, by decide, by simp, .inl rfl⟩
theorem y_disp1 {σ : L2.St} {H : Hp} {Q : VK} {k : Str} {v : V} (q : ∀ p, H p = none → Q (.ref p) (upd H p (.dK [(.inr k, v)]))) : tDisp [(tC (.str k), tC v)] σ H Q := y_disp fun p np => by
  have e : upd (upd H p (.dK [])) p (.dK [(.inr k, v)]) = upd H p (.dK [(.inr k, v)]) := by
    funext b
    by_cases h : b = p
    · rw [h, upd_same, upd_same]
    · rw [upd_ne h, upd_ne h, upd_ne h]
  have h := q p np
  rw [← e] at h
  exact ⟨upd_same, [(.inr k, v)], rfl, by simp, h⟩
theorem oneA : LineOk [("a", 0)] := ⟨by decide, by decide, by decide, by decide, by decide, by decide⟩
theorem Ar.lock {H : Hp} {x : V} {s : String} {a : Addr} {o : HO} (h : Ar H x s) (n : x ≠ .ref a) : Ar (upd H a o) x s := by
  cases h with
  | non => exact .non
  | bl b => exact .bl b
  | int i => exact .int i
  | str x => exact .str x
  | lst h => exact .lst (by rw [upd_ne (fun e => n (by rw [e]))]; exact h)
  | tup h => exact .tup (by rw [upd_ne (fun e => n (by rw [e]))]; exact h)
  | dK h => exact .dK (by rw [upd_ne (fun e => n (by rw [e]))]; exact h)
end FL
namespace FL
open PySem PySem.Spec PyProof.Rows L2

/-! ### a law's def, called by nobody else: no repr runs -/
section
variable {P : Program} {w : World} {K : PySem.W.Frag} {mg : Str → Option Value} {k : Nat} {f a : Addr} {nm x : Str} {sp : Sp} {z : Shared} {us : List Value} {ns : List Int}
/-- what the script's list is, in the abstract -/
theorem pick_script (ha : z.heap.get? a = some { cls := .type "list", data := .seq us.toArray }) (hi : IntsAre us ns) (hl : ns.length ≤ sizeLine) (kx : K.In z.heap) :
    ∃ H : Hp, HOk P w H z.heap ∧ SqL K H a (ns.map V.int) ∧ ∀ b o, H b = some o → b = a ∧ K.lookup a = none ∧ ∃ o' xs, o = .frz o' (.lst xs) := by
  have rv := vals_ints hi
  cases hk : K.lookup a with
  | some o =>
    have e := (kx a o hk).symm.trans ha
    cases e
    refine ⟨fun _ => none, (fun b o q => nomatch q), .inr ⟨_, us.toArray, _, hk, rfl, rfl, rfl, ?_, ?_⟩, fun b o q => nomatch q⟩
    · rw [List.size_toArray, hi.length]; exact hl
    · simpa using rv
  | none =>
    refine ⟨upd (fun _ => none) a (.frz { cls := .type "list", data := .seq us.toArray } (.lst (ns.map V.int))), fun b o q => ?_, .inl (.inr ⟨_, upd_same⟩), fun b o q => ?_⟩
    · by_cases hb : b = a
      · subst hb
        rw [upd_same] at q
        cases q
        exact ⟨ha, by rw [List.length_map]; exact hl, us, _, rv, ha⟩
      · rw [upd_ne hb] at q; cases q
    · by_cases hb : b = a
      · subst hb
        rw [upd_same] at q
        cases q
        exact ⟨rfl, rfl, _, _, rfl⟩
      · rw [upd_ne hb] at q; cases q
theorem run_script (M : L2.Mod K mg z.heap) (hsm : ∃ o es ep, z.heap.get? sysModules = some o ∧ o.data = .dict es ep) (hg : z.gens = #[])
    (ha : z.heap.get? a = some { cls := .type "list", data := .seq us.toArray }) (hi : IntsAre us ns) (hl : ns.length ≤ sizeLine) (hr : Room k callerA)
    (hf : mg nm = some (.ref f)) (F : ∀ base : Heap, (∃ o, base.get? sysModules = some o) → DfnG P w K mg base nm [x] k sp)
    (hsp : ∀ H : Hp, SqL K H a (ns.map V.int) → sp [.ref a] H (fun v _ => v = .bl true) fun _ _ _ => False) :
    codeAny (model P w) callerA (.call (.ref f) ⟨[.ref a], []⟩) (fun r s' => r = .ok (.ret (.bool true)) ∧ OldK z.heap s'.heap ∧ s'.os = z.os ∧ AllBare s'.gens) z := by
  obtain ⟨H, ok, hs, own⟩ := pick_script (P := P) (w := w) ha hi hl M.kin
  have notA : ∀ {b : Addr} {o : Obj} {es : Array DictEntry} {ep : Nat}, z.heap.get? b = some o → o.data = .dict es ep → H b = none := fun {b o es ep} e d => by
    cases q : H b with
    | none => rfl
    | some u =>
      obtain ⟨rfl, _⟩ := own b u q
      rw [ha] at e
      cases e
      cases (show Data.seq us.toArray _ = Data.dict es ep from d)
  have ns_up : ∀ {b : Addr} {m : Str → Option Value}, z.heap.Ns b m → (hidT z.heap H).Ns b m := fun ⟨o, es, ep, e, d, r⟩ => ⟨o, es, ep, hidT_get e (notA e d), d, r⟩
  have kin : K.In (hidT z.heap H) := fun b o e => hidT_get (M.kin b o e) (by
    cases q : H b with
    | none => rfl
    | some u =>
      obtain ⟨rfl, h, _⟩ := own b u q
      rw [h] at e
      cases e)
  obtain ⟨mb, b1, b2⟩ := M.blt
  obtain ⟨mc, c1, c2⟩ := M.nolimit
  have M' : L2.Mod K mg (hidT z.heap H) := { kin := kin, glob := ns_up M.glob, blt := ⟨mb, ns_up b1, b2⟩, nolimit := ⟨mc, ns_up c1, c2⟩ }
  have sm : ∃ o, (hidT z.heap H).get? sysModules = some o := let ⟨o, _, _, e, d⟩ := hsm; ⟨o, hidT_get e (notA e d)⟩
  have start : Env0 P w K mg (hidT z.heap H) callerA [] z H :=
    { frames := rfl, mod := M', bs := fun _ _ e => of_hidT e, bsz := Nat.le_of_eq (hidT_size _ _), funs := trivial, frf := fun b hm => absurd hm (by show b ∉ ([] : List Addr); simp), hok := ok, bare := .of_eq hg }
  obtain ⟨f', fd, hm', _, hb, FF⟩ := (F _ sm).ex
  cases hm'.symm.trans hf
  have bt := hb z [Value.ref a] M.kin rfl
  rw [List.append_nil] at bt
  have call := FF.run callerA [] z H ⟨[.ref a], []⟩ [.ref a] [.ref a] _ _ hr rfl start bt (.cons rfl .nil) (hsp H hs)
  refine codeAny_mono call fun r s' end_ => ?_
  match r, end_ with
  | .error e, h => exact False.elim h
  | .ok .next, h => exact False.elim h
  | .ok .brk, h => exact False.elim h
  | .ok .cont, h => exact False.elim h
  | .ok (.ret u), ⟨v, H', e1, e2, un, ok', rv, hv⟩ =>
    have hv : v = .bl true := hv
    subst hv
    cases (show u = Value.bool true from rv)
    refine ⟨rfl, OldK.of_keep fun b o e => ?_, e1, e2⟩
    cases q : H b with
    | none => exact un.keep b o e q (fun hm => absurd hm (by show b ∉ ([] : List Addr); simp)) (by simp)
    | some u =>
      obtain ⟨rfl, _, o', xs, rfl⟩ := own b u q
      have g1 := (ok b _ q).1
      have g2 := (ok' b _ (un.frzs b o' _ q)).1
      rw [e] at g1
      cases g1
      exact g2
end
/-- the goal that the head leaves, from what the law's def promises -/
theorem law_end {l : PySem.W.OpenLaw} {n k : Nat} {q : Program} {loose : List Str} {XP : (Str → Option Value) → Heap → Prop} {YP : World → Heap → Prop} {d : DefRec} {K : Params → PySem.W.Frag} {x : Str} {sp : PySem.W.Frag → Sp}
    (hn : l.most = some n) (hn2 : n ≤ sizeLine) (hdf : d.params.defaults = []) (hr : Room k callerA) (hY : ∀ (w : World) (h : Heap), YP w h → (K w.params).In h) (hi : importsNone q = true)
    (F : ∀ (w : World) (mg : Str → Option Value) (h : Heap), (K w.params).In h → h.Ns mainGlobals mg → XP mg h → ∀ base : Heap, (∃ o, base.get? sysModules = some o) → DfnG l.prog w (K w.params) mg base d.name [x] k (sp (K w.params)))
    (hsp : ∀ (K : PySem.W.Frag) (H : Hp) (a : Addr) (ns : List Int), ns.length ≤ n → SqL K H a (ns.map V.int) → sp K [.ref a] H (fun v _ => v = .bl true) fun _ _ _ => False) :
    PySem.W.WalkO q loose XP YP l.row.toRowW d [] (fun f vs => PySem.call f vs) := by
  refine Att.attach_call hn hdf fun w s₀ z mg mb fa o pm cd doc a us ns G Y ho hd hcd hmg hobj hints hlen hg => ?_
  have kx := hY w _ Y
  obtain ⟨mm, m1, _⟩ := (G.T.seer hi).mods
  obtain ⟨so, es, ep, m2, m3, _⟩ := m1
  exact run_script ⟨kx, G.T.g, ⟨mb, G.T.b, G.T.builtins⟩, G.T.nolimit⟩ ⟨so, es, ep, m2, m3⟩ hg hobj hints (Nat.le_trans hlen hn2) hr hmg (F w mg z.heap kx G.T.g G.X) (fun H hS => hsp _ H a ns hlen hS)
end FL
namespace FL
open PySem PySem.Spec PyProof.Rows L2

/-! ### intervals as data -/
abbrev Span := Option (Option Int × Option Int)
def oV : Option Int → V
  | none => .non
  | some i => .int i
def SpanAt (F : Hp) (v : V) : Span → Prop
  | none => v = .non
  | some (l, h) => ∃ t, v = .ref t ∧ F t = some (.tup [oV l, oV h])
theorem SpanAt.mono {F F' : Hp} {v : V} : ∀ {s : Span}, Same F F' → SpanAt F v s → SpanAt F' v s
  | none, _, h => h
  | some (_, _), e, ⟨t, h1, h2⟩ => ⟨t, h1, e _ _ h2⟩
def lowOk : Option Int → Int → Bool
  | none, _ => true
  | some i, p => decide (i ≤ p)
def highOk : Option Int → Int → Bool
  | none, _ => true
  | some i, p => decide (p ≤ i)
def inSpan : Span → Int → Bool
  | none, _ => false
  | some (l, h), p => lowOk l p && highOk h p

/-! ### dicts with text keys, any values; states -/
def strK (es : List (Str × V)) : List (Key × V) := es.map fun p => (.inr p.1, p.2)
theorem strK_app (es fs : List (Str × V)) : strK (es ++ fs) = strK es ++ strK fs := List.map_append ..
theorem strK_len (es : List (Str × V)) : (strK es).length = es.length := List.length_map ..
theorem strK_keys (es : List (Str × V)) : (strK es).map (·.1) = (es.map (·.1)).map Sum.inr := by
  unfold strK
  rw [List.map_map, List.map_map]; rfl
theorem putK_str {es : List (Str × V)} {z : Str} (v : V) (h : z ∉ es.map (·.1)) : putK (strK es) (.inr z) v = strK (es ++ [(z, v)]) := by
  unfold putK
  rw [if_neg]
  · rw [strK_app]; rfl
  · rw [List.any_eq_true]
    rintro ⟨kv, hm, e⟩
    have e := of_decide_eq_true e
    obtain ⟨p, hp, rfl⟩ := List.mem_map.mp hm
    have e : (Sum.inr p.1 : Key) = Sum.inr z := e
    injection e with e
    exact h (List.mem_map.mpr ⟨p, hp, e⟩)
theorem merge_str : ∀ (fs es : List (Str × V)), ((es ++ fs).map (·.1)).Nodup → mergeK (strK es) (strK fs) = strK (es ++ fs)
  | [], es, _ => by rw [List.append_nil]; rfl
  | p :: fs, es, h => by
    show mergeK (putK (strK es) (.inr p.1) p.2) (strK fs) = _
    have hn : p.1 ∉ es.map (·.1) := fun z => by
      rw [List.map_append, List.map_cons, List.nodup_append] at h
      exact h.2.2 _ z _ List.mem_cons_self rfl
    rw [putK_str p.2 hn, merge_str fs _ (by rw [List.append_assoc]; exact h), List.append_assoc]; rfl
theorem valV_str {z : Str} {v : V} : ∀ {es : List (Str × V)}, (z, v) ∈ es → (es.map (·.1)).Nodup → valV (strK es) (.inr z) = some v
  | p :: es, h, nd => by
    show valV ((Sum.inr p.1, p.2) :: strK es) (Sum.inr z : Key) = _
    rcases List.mem_cons.mp h with e | h
    · rw [valV_pos (by show (Sum.inr p.1 : Key) = Sum.inr z; rw [← e]), ← e]
    · have hn := List.nodup_cons.mp nd
      have ne : p.1 ≠ z := fun e => hn.1 (by show p.1 ∈ _; rw [e]; exact List.mem_map.mpr ⟨_, h, rfl⟩)
      have ih := valV_str h hn.2
      unfold valV at ih ⊢
      rw [List.find?_cons_of_neg (by simp; exact ne)]
      exact ih
/-- a state stands at d: the hosts in some order, the interval of each -/
def StAt (F : Hp) (ks : List (Str × Int)) (d : Addr) (sp : Str → Span) : Prop :=
  ∃ es : List (Str × V), F d = some (.dK (strK es)) ∧ (es.map (·.1)).Perm (ks.map (·.1)) ∧ ∀ p ∈ es, SpanAt F p.2 (sp p.1)
theorem StAt.mono {F F' : Hp} {ks : List (Str × Int)} {d : Addr} {sp : Str → Span} (s : Same F F') : StAt F ks d sp → StAt F' ks d sp :=
  fun ⟨es, h1, h2, h3⟩ => ⟨es, s _ _ h1, h2, fun p hp => (h3 p hp).mono s⟩
/-- an interval that a host at o may have on the line ks -/
def spanOk (ks : List (Str × Int)) (o : Int) : Span → Prop
  | none => True
  | some (l, h) => (∀ i, l = some i → i ∈ ks.map (·.2) ∧ i ≤ o) ∧ ∀ i, h = some i → i ∈ ks.map (·.2) ∧ o ≤ i

/-! ### a comprehension over a dict's values, the dict locked meanwhile; its items make nothing new -/
section
variable {H F H' : Hp} {L : List (Addr × HO)} {a : Addr} {o u : HO}
theorem Led.lockF (D : Led H F L) (hf : F a = some u) : Led (upd H a o) (upd F a o) L := by
  refine ⟨fun b x e => ?_, fun x hx => ?_, D.nd⟩
  · by_cases hb : b = a
    · subst hb; rw [upd_same] at e ⊢; exact e
    · rw [upd_ne hb] at e ⊢; exact D.ext b x e
  · have q := D.ent x hx
    have ne : x.1 ≠ a := fun e => by rw [e, hf] at q; cases q.2
    rw [upd_ne ne, upd_ne ne]; exact q
theorem Led.unlock (D : Led H' (upd F a o) L) (hf : F a = some u) : Led (upd H' a u) F L := by
  refine ⟨fun b x e => ?_, fun x hx => ?_, D.nd⟩
  · by_cases hb : b = a
    · subst hb; rw [hf] at e; rw [upd_same]; exact e
    · rw [upd_ne hb]; exact D.ext b x (by rw [upd_ne hb]; exact e)
  · have q := D.ent x hx
    have ne : x.1 ≠ a := fun e => by rw [e, upd_same] at q; cases q.2
    rw [upd_ne ne] at q ⊢; exact q
theorem walk_vals {kvs : List (Key × V)} {od : Obj} : WalkIt (Itd a od kvs) kvs.length (fun i x => ∃ k, kvs[i]? = some (k, x)) (fun H => H a = some (.frz od (.dK kvs))) where
  go := fun i H h hi => ⟨h, hi⟩
  yld := fun i H x H' h y => ⟨y.1, y.2⟩
  stop := fun H h => ⟨h, Nat.le_refl _⟩
end
section
variable {σ : L2.St} {H F : Hp} {L : List (Addr × HO)} {a : Addr} {kvs : List (Key × V)} {Q : VK} {g : TG} {tt : TT} {te tc : TE} {vs : List Nat}
theorem lc_lockVals (D0 : Led H F L) (hf : F a = some (.dK kvs)) (hn : kvs.length ≤ 100000) (acc : Nat → List V) (h0 : acc 0 = []) (he : ∀ H1 R, R (.ref a) H1 → tc σ H1 R)
    (turn : ∀ (od : Obj) (Kp : V → Hp → Prop) (Sk : Hp → Prop) i H' x k, kvs[i]? = some (k, x) → H' a = some (.frz od (.dK kvs)) → (∀ y, acc (i + 1) = acc i ++ [y] → Kp y H') → (acc (i + 1) = acc i → Sk H') →
      g x (wipe σ vs) H' fun σ2 H2 => wipe σ2 vs = wipe σ vs ∧ tt σ2 H2 fun b H3 => if b = true then te σ2 H3 Kp else Sk H3)
    (done : ∀ Dl H', Led H' F ((Dl, .lst (acc kvs.length)) :: L) → Q (.ref Dl) H') : tLockE (tLc (iVals tc) g tt te vs) σ H Q := by
  refine ⟨a, .dK kvs, D0.frz hf, trivial, fun od => ?_⟩
  refine y_lc (he _ _ ⟨a, od, kvs, rfl, upd_same, ?_⟩)
  refine lc_led (D0.lockF hf) walk_vals hn (fun i ac F' L' => F' = upd F a (.frz od (.dK kvs)) ∧ L' = L ∧ ac = acc i) ⟨rfl, rfl, h0.symm⟩ (fun i ac F' L' H' Dl ⟨e, _, _⟩ D => D.frz (by rw [e, upd_same])) ?_ ?_
  · rintro Kp Sk i ac F' L' H' Dl x hi ⟨k, hx⟩ ⟨rfl, rfl, rfl⟩ D ha kp sk
    exact turn od Kp Sk i H' x k hx (D.frz upd_same) (fun y e => kp y _ _ H' D ⟨rfl, rfl, e.symm⟩) (fun e => sk _ _ H' D ⟨rfl, rfl, e.symm⟩)
  · rintro ac F' L' H' Dl ⟨rfl, rfl, rfl⟩ D ha
    exact ⟨D.frz upd_same, done Dl _ (D.unlock hf)⟩
end
theorem line_at {ks : List (Str × Int)} {i : Nat} {k : Key} {v : V} (h : (lineK ks)[i]? = some (k, v)) : ∃ p, ks[i]? = some p ∧ (k, v) = (.inr p.1, .int p.2) := by
  unfold lineK at h
  rw [List.getElem?_map] at h
  cases e : ks[i]? with
  | none => rw [e] at h; cases h
  | some p => rw [e] at h; exact ⟨p, rfl, (Option.some.inj h).symm⟩
theorem side_at {ks : List (Str × Int)} {pr : Str × Int → Bool} {d : Int} (h0 : 0 ≤ d) (h1 : d < ((((ks.filter pr).map fun p => V.int p.2) ++ [V.non]).length : Int)) :
    ∃ l : Option Int, atI (((ks.filter pr).map fun p => V.int p.2) ++ [V.non]) d = some (oV l) ∧ ∀ i, l = some i → ∃ p ∈ ks, p.2 = i ∧ pr p = true := by
  obtain ⟨k, rfl⟩ := Int.eq_ofNat_of_zero_le h0
  have hk : k < (((ks.filter pr).map fun p => V.int p.2) ++ [V.non]).length := by omega
  have hm := List.getElem_mem hk
  have e := List.getElem?_eq_getElem hk
  rcases List.mem_append.mp hm with m | m
  · obtain ⟨p, hp, q⟩ := List.mem_map.mp m
    obtain ⟨p1, p2⟩ := List.mem_filter.mp hp
    refine ⟨some p.2, at_nat (by rw [e, ← q]; rfl), fun i e => ?_⟩
    cases e
    exact ⟨p, p1, rfl, p2⟩
  · refine ⟨none, at_nat (by rw [e, List.mem_singleton.mp m]; rfl), fun i e => nomatch e⟩
theorem take_fresh {ys : List Str} {i : Nat} {z : Str} (nd : ys.Nodup) (h : ys[i]? = some z) : z ∉ ys.take i := fun m => by
  have e : ys.take (i + 1) = ys.take i ++ [z] := by rw [List.take_add_one, h]; rfl
  have n2 : (ys.take (i + 1)).Nodup := nd.sublist (List.take_sublist _ _)
  rw [e, List.nodup_append] at n2
  exact n2.2.2 z m z List.mem_cons_self rfl
theorem posOf_eq {ks : List (Str × Int)} {p : Str × Int} (nd : (ks.map (·.1)).Nodup) (h : p ∈ ks) : posOf ks p.1 = p.2 := by
  have h1 := valV_line_some (z := p.1) (n := p.2) h nd
  have h2 := valV_line_some (posOf_in (List.mem_map.mpr ⟨p, h, rfl⟩)) nd
  rw [h1] at h2
  exact (V.int.inj (Option.some.inj h2)).symm
/-- intervals by name, out of a list -/
def spOf (fs : List (Str × Span)) (z : Str) : Span := ((fs.find? fun f => decide (f.1 = z)).map (·.2)).getD none
theorem spOf_in : ∀ {fs : List (Str × Span)} {f : Str × Span}, (fs.map (·.1)).Nodup → f ∈ fs → spOf fs f.1 = f.2
  | g :: fs, f, nd, h => by
    have hn := List.nodup_cons.mp nd
    unfold spOf
    rcases List.mem_cons.mp h with e | h
    · rw [List.find?_cons_of_pos (by simp [e]), e]; rfl
    · have ne : g.1 ≠ f.1 := fun e => hn.1 (by show g.1 ∈ _; rw [e]; exact List.mem_map.mpr ⟨f, h, rfl⟩)
      rw [List.find?_cons_of_neg (by simp; exact ne)]
      exact spOf_in hn.2 h
theorem paired_mem {α β : Type} {F : α → β → Prop} : ∀ {xs : List α} {ys : List β}, Paired F xs ys → ∀ x ∈ xs, ∃ y ∈ ys, F x y
  | _, _, .nil, x, h => nomatch h
  | _, _, .cons r t, x, h => by
    rcases List.mem_cons.mp h with e | h
    · subst e; exact ⟨_, List.mem_cons_self, r⟩
    · obtain ⟨y, h1, h2⟩ := paired_mem t x h
      exact ⟨y, List.mem_cons_of_mem _ h1, h2⟩
theorem paired_fst {G : (Str × V) → (Str × Span) → Prop} : ∀ {es : List (Str × V)} {fs : List (Str × Span)}, Paired G es fs → (∀ e f, G e f → e.1 = f.1) → es.map (·.1) = fs.map (·.1)
  | _, _, .nil, _ => rfl
  | _, _, .cons r t, h => by rw [List.map_cons, List.map_cons, h _ _ r, paired_fst t h]
end FL
/-! ### sorted of pairs of an int and a text, no int with two texts -/
namespace SrtF
open PySem PySem.W PySem.Calls PyProof.Rows Srt SrtO
def IsIS (h : Heap) (v : Value) (x : Int) (z : Str) : Prop := ∃ b ob t u n, v = .ref b ∧ h.get? b = some ob ∧ ob.cls = .type "tuple" ∧ ob.data = .seq #[.int x t, .str z u] n
theorem IsIS.up {h h' : Heap} {v : Value} {x : Int} {z : Str} (p : IsIS h v x z) (k : ∀ b o, h.get? b = some o → o.cls = .type "tuple" → h'.get? b = some o) : IsIS h' v x z :=
  let ⟨b, ob, t, u, n, e1, e2, e3, e4⟩ := p; ⟨b, ob, t, u, n, e1, k _ _ e2 e3, e3, e4⟩
def byFst (k : Value → Int × Str) (v u : Value) : Bool := decide ((k v).1 < (k u).1)
theorem swo_fst {α : Type} (f : α → Int) : Swo fun v u => decide (f v < f u) :=
  ⟨fun x y h => decide_eq_false (by have := of_decide_eq_true h; omega), fun x y z h1 h2 => decide_eq_false (by have := of_decide_eq_false h1; have := of_decide_eq_false h2; omega)⟩
theorem heads_of {h : Heap} : ∀ {us : List Value}, (∀ v ∈ us, ∃ x z, IsIS h v x z) → ∃ fs : List Value, KatTups h us fs ∧ fs.length = us.length ∧ ∀ f ∈ fs, ∃ x t, f = Value.int x t
  | [], _ => ⟨[], .nil, rfl, fun _ q => nomatch q⟩
  | v :: us, hp => by
    obtain ⟨fs, k1, k2, k3⟩ := heads_of (us := us) fun y hy => hp y (.tail _ hy)
    obtain ⟨x, z, b, ob, t, u, n, rfl, e2, e3, e4⟩ := hp v (.head _)
    refine ⟨.int x t :: fs, .cons e2 e3 e4 rfl k1, by simp [k2], fun f hf => ?_⟩
    rcases List.mem_cons.mp hf with e | hf
    · exact ⟨x, t, e⟩
    · exact k3 f hf
section
variable {prog : Program} {w : World} {A : Around} {E : Value → Shared → Prop} {s : Shared}
theorem cmp_is {us : List Value} {k : Value → Int × Str} (hp : ∀ v ∈ us, IsIS s.heap v (k v).1 (k v).2) (hd : ∀ v ∈ us, ∀ u ∈ us, (k v).1 = (k u).1 → (k v).2 = (k u).2) :
    Cmp prog w A s (tuples' true) (fun p => p.1 ∈ us) (lt2 (byFst k)) := by
  intro p q mp mq
  have ip := hp _ mp
  have iq := hp _ mq
  have dd := hd _ mp _ mq
  show wpAny (model prog w) A (keyLt' (tuples' true) p.1 q.1) (fun r s' => s' = s ∧ r = decide ((k p.1).1 < (k q.1).1)) (fun _ _ => False) s
  generalize (k p.1).1 = x at ip dd ⊢
  generalize (k p.1).2 = z at ip dd
  generalize (k q.1).1 = x' at iq dd ⊢
  generalize (k q.1).2 = z' at iq dd
  obtain ⟨b, ob, t, u, n, e1, e2, e3, e4⟩ := ip
  obtain ⟨b', ob', t', u', n', e1', e2', e3', e4'⟩ := iq
  rw [e1, e1']
  refine kat_lt e2 e4 e2' e4' ?_
  show KatLex prog w A true (decide (2 < 2)) _ [(.int x t, .int x' t'), (.str z u, .str z' u')] 0 s
  refine kat_cons (SeqAt.EqAt.int_int x t x' t' prog w _ _ ?_)
  refine kat_go (fun eq => ?_) (fun ne => ?_)
  · have ex : x = x' := by simpa using eq
    have ez := dd ex
    subst ex ez
    refine kat_yes (kat_cons (SeqAt.EqAt.str_str z u z u' prog w _ _ ?_))
    refine kat_go (fun _ => ?_) (fun ne => ?_)
    · exact kat_yes (kat_nil ⟨rfl, (decide_eq_false (Int.lt_irrefl _)).symm⟩)
    · exact absurd ne (by simp)
  · exact kat_no (oneLt_int ⟨rfl, rfl⟩)
theorem sorted_is {l : Addr} {us : List Value} {k : Value → Int × Str} {Q : Value → Shared → Prop} (hl : s.heap.IsList l us.toArray) (hz : us.length ≤ sizeLine) (hp : ∀ v ∈ us, IsIS s.heap v (k v).1 (k v).2)
    (hd : ∀ v ∈ us, ∀ u ∈ us, (k v).1 = (k u).1 → (k v).2 = (k u).2)
    (h : ∀ (h' : Heap) (d : Addr) (out : List Value), Srtd (byFst k) out → out.Perm us → (∀ b o, s.heap.get? b = some o → h'.get? b = some o) → s.heap.objs.size ≤ d → (∃ n, h'.get? d = some (seqObj "list" out.toArray n)) → Q (.ref d) { s with heap := h' }) :
    wpAny (model prog w) A (call (.builtin "sorted") [.ref l]) Q E s := by
  refine sorted_ord (swo_fst fun v => (k v).1) hl hz (fun h2 h1 a ha kk => ?_) fun out hs hb => h _ _ out hs hb.perm (fun b o e => sortedAll_old e) (Nat.le_succ _) (sortedAll_at s.heap us out.toArray)
  intro h' keep
  have at1 : ∀ v ∈ us, IsIS h' v (k v).1 (k v).2 := fun v hv => (hp v hv).up fun b o e c => keep b o (fun z => by
    subst z
    exact (kk _ _ e).1 rfl) (kk _ _ e).2
  obtain ⟨fs, k1, k2, k3⟩ := heads_of fun v hv => ⟨_, _, at1 v hv⟩
  refine ⟨tuples' true, fun Q E hq => ?_, cmp_is at1 hd⟩
  refine kat_kind (T := .type "int") k1 (by omega) (fun f hf => ?_) (by rfl) ?_
  · obtain ⟨x, t, rfl⟩ := k3 f hf
    exact Looks.now
  · rw [show (Value.type "int" != Value.type "tuple") = true from by decide +kernel]
    exact hq
end
end SrtF
namespace FL
open PySem PySem.Spec PyProof.Rows L2
def rSortedF (K : PySem.W.Frag) : List V → Hp → VK → Prop := fun vs H Q => ∃ (a : Addr) (xs : List V) (k : V → Int × Str), vs = [V.ref a] ∧ SqL K H a xs ∧ (∀ x ∈ xs, ∃ t, x = V.ref t ∧ H t = some (.tup [.int (k x).1, .str (k x).2])) ∧
  (∀ x ∈ xs, ∀ y ∈ xs, (k x).1 = (k y).1 → (k x).2 = (k y).2) ∧ ∀ ys p, ys.Perm xs → ys.Pairwise (fun x y => (k x).1 ≤ (k y).1) → H p = none → Q (.ref p) (upd H p (.lst ys))
theorem cr_sortedF {X : Cx} : CallR X (.builtin "sorted") (rSortedF X.K) := by
  intro pins s σ H vs us Q I r h
  obtain ⟨a, xs, k, rfl, hs, hx, hd, q⟩ := h
  obtain ⟨its, rv, hl, hz⟩ := I.list hs
  obtain ⟨u, rfl, ru⟩ := vals1 r
  obtain rfl : u = Value.ref a := ru
  obtain ⟨e1, e2⟩ := refs_back rv fun x m => let ⟨t, e, _⟩ := hx x m; ⟨t, e⟩
  have inX : ∀ v ∈ its, backV v ∈ xs := fun v hv => by rw [e1]; exact List.mem_map.mpr ⟨_, hv, rfl⟩
  refine SrtF.sorted_is (k := fun u => k (backV u)) hl.isList (by rw [← rv.length]; exact hz) (fun v hv => ?_) (fun v hv u hu => hd _ (inX v hv) _ (inX u hu)) fun h' d out h1 h2 kp hd2 hn => ?_
  · have hm := inX v hv
    obtain ⟨t, rfl⟩ := e2 v hv
    obtain ⟨t', e, ht⟩ := hx _ hm
    cases e
    obtain ⟨_, its2, r2, o, ho, hc, n, hd3⟩ := I.hok _ _ ht
    obtain ⟨u1, u2, rfl, ⟨t1, rfl⟩, ⟨t2, rfl⟩⟩ := vals2 r2
    exact ⟨t, o, t1, t2, n, rfl, ho, hc, hd3⟩
  · have h3 : ∀ u ∈ out, ∃ a, u = Value.ref a := fun u hu => e2 u (h2.mem_iff.mp hu)
    obtain ⟨n, hn⟩ := hn
    have hb : (out.map backV).Perm xs := by rw [e1]; exact h2.map backV
    refine ⟨.ref d, upd H d (.lst (out.map backV)), I.laid (t' := s.toks) kp hd2 ⟨by rw [hb.length_eq]; exact hz, out, n, vals_back h3, hn⟩, rfl, q _ d hb ?_ (I.hok.fresh hd2)⟩
    exact List.pairwise_map.mpr (h1.imp fun {v u} e => Int.not_lt.mp (of_decide_eq_false e))
end FL
namespace FL
open PySem PySem.Spec PyProof.Rows L2
section
variable {σ : L2.St} {H F : Hp} {L : List (Addr × HO)} {a : Addr} {kvs : List (Key × V)} {Q : VK} {g : TG} {tt : TT} {te tc : TE} {vs : List Nat}
/-- a comprehension over a dict's items, the dict locked meanwhile -/
theorem lc_lockItems (D0 : Led H F L) (hf : F a = some (.dK kvs)) (hn : kvs.length ≤ 100000) (Inv : Nat → List V → Hp → Prop) (h0 : ∀ F', Inv 0 [] F') (he : ∀ H1 R, R (.ref a) H1 → tc σ H1 R)
    (turn : ∀ (od : Obj) (Kp : V → Hp → Prop) (Sk : Hp → Prop) i acc F' H' T Dl k v, kvs[i]? = some (k, v) → F' a = some (.frz od (.dK kvs)) → Inv i acc F' → Led H' F' ((Dl, .lst acc) :: L) → F' T = some (.tup [kV k, v]) → acc.length ≤ i →
      (∀ y F2 H4, Same F' F2 → Led H4 F2 ((Dl, .lst acc) :: L) → Inv (i + 1) (acc ++ [y]) F2 → Kp y H4) →
      g (.ref T) (wipe σ vs) H' fun σ2 H2 => wipe σ2 vs = wipe σ vs ∧ tt σ2 H2 fun b H3 => if b = true then te σ2 H3 Kp else Sk H3)
    (mono : ∀ i acc F1 F2, Inv i acc F1 → Same F1 F2 → Inv i acc F2)
    (fin : ∀ od acc F1 F2, Inv kvs.length acc F1 → F1 a = some (.frz od (.dK kvs)) → (∀ b o, b ≠ a → F1 b = some o → F2 b = some o) → Inv kvs.length acc F2)
    (done : ∀ acc Dl F' H', Same F F' → Inv kvs.length acc F' → Led H' F' ((Dl, .lst acc) :: L) → acc.length ≤ kvs.length → Q (.ref Dl) H') : tLockE (tLc (iItems tc) g tt te vs) σ H Q := by
  refine ⟨a, .dK kvs, D0.frz hf, trivial, fun od => ?_⟩
  refine y_lc (he _ _ ⟨a, od, kvs, rfl, upd_same, ?_⟩)
  have D1 := D0.lockF (o := .frz od (.dK kvs)) hf
  intro Dl hD
  refine ⟨fun i m H' => m = kvs.length - i ∧ i ≤ kvs.length ∧ ∃ acc F', Same (upd F a (.frz od (.dK kvs))) F' ∧ Led H' F' ((Dl, .lst acc) :: L) ∧ Inv i acc F' ∧ acc.length ≤ i, ⟨kvs.length, by omega, by omega, [], _, Same.refl _, D1.new hD, h0 _, Nat.le_refl _⟩, ?_⟩
  rintro i m H' ⟨rfl, hi, acc, F', s, D, I, ha⟩
  have hfa : F' a = some (.frz od (.dK kvs)) := s _ _ upd_same
  by_cases hlt : i < kvs.length
  · refine .inr ⟨⟨D.frz hfa, hlt⟩, fun H2 => i + 1 ≤ kvs.length ∧ ∃ acc F', Same (upd F a (.frz od (.dK kvs))) F' ∧ Led H2 F' ((Dl, .lst acc) :: L) ∧ Inv (i + 1) acc F' ∧ acc.length ≤ i + 1, fun H2 ⟨_, q⟩ => ⟨kvs.length - (i + 1), by omega, rfl, hlt, q⟩, fun x H2 y => ?_⟩
    obtain ⟨T, k, v, e, rfl, hT, rfl⟩ := y
    obtain ⟨F2, s2, hT2, -, D2⟩ := D.nf hT rfl
    exact turn od _ _ i acc F2 _ T Dl k v e (s2 _ _ hfa) (mono _ _ _ _ I s2) D2 hT2 ha
      (fun y F3 H4 s3 D3 I3 => ⟨acc, D3.get 0, lt_line (by omega), hlt, acc ++ [y], F3, s.trans (s2.trans s3), D3.set 0, I3, by simp; omega⟩)
  · have e : i = kvs.length := by omega
    subst e
    refine .inl ⟨⟨D.frz hfa, Nat.le_refl _⟩, D.frz hfa, ?_⟩
    exact done acc Dl (upd F' a (.dK kvs)) _ (same_lock hf s) (fin od acc F' _ I hfa fun b o nb e => by rw [upd_ne nb]; exact e) (D.lockF hfa) ha
end
/-- the hosts by their positions: no two ways -/
theorem ord_uniq : ∀ {l m : List (Str × Int)}, l.Perm m → l.Pairwise (fun x y => x.2 < y.2) → m.Pairwise (fun x y => x.2 < y.2) → l = m
  | [], m, p, _, _ => (List.Perm.eq_nil p.symm).symm
  | x :: l, [], p, _, _ => absurd p.length_eq (by simp)
  | x :: l, y :: m, p, hl, hm => by
    obtain ⟨x1, x2⟩ := List.pairwise_cons.mp hl
    obtain ⟨y1, y2⟩ := List.pairwise_cons.mp hm
    have e : x = y := by
      rcases List.mem_cons.mp (p.mem_iff.mp (List.mem_cons_self (a := x) (l := l))) with e | hx
      · exact e
      · rcases List.mem_cons.mp (p.mem_iff.mpr (List.mem_cons_self (a := y) (l := m))) with e | hy
        · exact e.symm
        · have := y1 _ hx
          have := x1 _ hy
          omega
    subst e
    rw [ord_uniq (List.Perm.cons_inv p) x2 y2]
def byPos (ks os : List (Str × Int)) : Prop := os.Perm ks ∧ os.Pairwise fun x y => x.2 < y.2
/-- an int and a text out of a tuple -/
def kOf (F : Hp) : V → Int × Str
  | .ref t => match F t with
    | some (.tup [.int i, .str z]) => (i, z)
    | _ => (0, "")
  | _ => (0, "")
theorem kOf_at {F : Hp} {t : Addr} {i : Int} {z : Str} (h : F t = some (.tup [.int i, .str z])) : kOf F (.ref t) = (i, z) := by
  show (match F t with | some (.tup [.int i, .str z]) => (i, z) | _ => (0, Str.ofString "")) = (i, z)
  rw [h]
def IsAt (F : Hp) (ts : List Addr) (ps : List (Str × Int)) : Prop := Paired (fun t (p : Str × Int) => F t = some (.tup [.int p.2, .str p.1])) ts ps
theorem kOf_map {F : Hp} : ∀ {ts : List Addr} {ps : List (Str × Int)}, IsAt F ts ps → (ts.map V.ref).map (fun x => ((kOf F x).2, (kOf F x).1)) = ps
  | _, _, .nil => rfl
  | _, _, .cons r t => by rw [List.map_cons, List.map_cons, kOf_at r, kOf_map t]
theorem kOf_mem {F : Hp} {ts : List Addr} {ps : List (Str × Int)} (h : IsAt F ts ps) : ∀ x ∈ ts.map V.ref, ∃ t, x = V.ref t ∧ F t = some (.tup [.int (kOf F x).1, .str (kOf F x).2]) ∧ ((kOf F x).2, (kOf F x).1) ∈ ps := fun x hx => by
  obtain ⟨t, ht, rfl⟩ := List.mem_map.mp hx
  obtain ⟨p, hp, e⟩ := paired_mem h t ht
  rw [kOf_at e]
  exact ⟨t, rfl, e, hp⟩
theorem pos_inj {ks : List (Str × Int)} (nd : (ks.map (·.2)).Nodup) {p q : Str × Int} (hp : p ∈ ks) (hq : q ∈ ks) (e : p.2 = q.2) : p = q := by
  induction ks with
  | nil => cases hp
  | cons x ks ih =>
    obtain ⟨n1, n2⟩ := List.nodup_cons.mp nd
    rcases List.mem_cons.mp hp with e1 | h1 <;> rcases List.mem_cons.mp hq with e2 | h2
    · rw [e1, e2]
    · subst e1; exact absurd (List.mem_map.mpr ⟨q, h2, e.symm⟩) n1
    · subst e2; exact absurd (List.mem_map.mpr ⟨p, h1, e⟩) n1
    · exact ih n2 h1 h2
theorem sorted_byPos {F : Hp} {ks : List (Str × Int)} {ts : List Addr} {ys : List V} (nd : (ks.map (·.2)).Nodup) (pt : IsAt F ts ks) (perm : ys.Perm (ts.map V.ref)) (srt : ys.Pairwise fun x y => (kOf F x).1 ≤ (kOf F y).1) :
    byPos ks (ys.map fun x => ((kOf F x).2, (kOf F x).1)) := by
  have pm : (ys.map fun x => ((kOf F x).2, (kOf F x).1)).Perm ks := by
    have := perm.map fun x => ((kOf F x).2, (kOf F x).1)
    rwa [kOf_map pt] at this
  refine ⟨pm, List.pairwise_map.mpr ?_⟩
  have n2 : (ys.map fun x => (kOf F x).1).Nodup := by
    have := (pm.map (·.2)).nodup_iff.mpr nd
    rw [List.map_map] at this
    exact this
  have n3 : ys.Pairwise fun x y => (kOf F x).1 ≠ (kOf F y).1 := List.pairwise_map.mp n2
  exact (srt.and n3).imp fun {x y} h => by
    have h1 := h.1
    have h2 := h.2
    show (kOf F x).1 < (kOf F y).1
    omega
end FL
namespace FL
open PySem PySem.Spec PyProof.Rows L2
section
variable {σ : L2.St} {H F : Hp} {L : List (Addr × HO)} {a : Addr} {kvs : List (Key × V)} {Q : VK} {g : TG} {tt : TT} {te tc : TE} {vs : List Nat}
/-- a comprehension over a dict's keys, the dict locked meanwhile -/
theorem lc_lockKeys (D0 : Led H F L) (hf : F a = some (.dK kvs)) (hn : kvs.length ≤ 100000) (Inv : Nat → List V → Hp → Prop) (h0 : ∀ F', Inv 0 [] F') (he : ∀ H1 R, R (.ref a) H1 → tc σ H1 R)
    (turn : ∀ (od : Obj) (Kp : V → Hp → Prop) (Sk : Hp → Prop) i acc F' H' Dl k v, kvs[i]? = some (k, v) → Same (upd F a (.frz od (.dK kvs))) F' → Inv i acc F' → Led H' F' ((Dl, .lst acc) :: L) → acc.length ≤ i →
      (∀ y F2 H4, Same F' F2 → Led H4 F2 ((Dl, .lst acc) :: L) → Inv (i + 1) (acc ++ [y]) F2 → Kp y H4) → (∀ F2 H3, Same F' F2 → Led H3 F2 ((Dl, .lst acc) :: L) → Inv (i + 1) acc F2 → Sk H3) →
      g (kV k) (wipe σ vs) H' fun σ2 H2 => wipe σ2 vs = wipe σ vs ∧ tt σ2 H2 fun b H3 => if b = true then te σ2 H3 Kp else Sk H3)
    (fin : ∀ od acc F1 F2, Inv kvs.length acc F1 → F1 a = some (.frz od (.dK kvs)) → (∀ b o, b ≠ a → F1 b = some o → F2 b = some o) → Inv kvs.length acc F2)
    (done : ∀ acc Dl F' H', Same F F' → Inv kvs.length acc F' → Led H' F' ((Dl, .lst acc) :: L) → acc.length ≤ kvs.length → Q (.ref Dl) H') : tLockE (tLc (iKeys tc) g tt te vs) σ H Q := by
  refine ⟨a, .dK kvs, D0.frz hf, trivial, fun od => ?_⟩
  refine y_lc (he _ _ ⟨a, od, rfl, .inl ⟨kvs, upd_same, ?_⟩⟩)
  have D1 := D0.lockF (o := .frz od (.dK kvs)) hf
  intro Dl hD
  refine ⟨fun i m H' => m = kvs.length - i ∧ i ≤ kvs.length ∧ ∃ acc F', Same (upd F a (.frz od (.dK kvs))) F' ∧ Led H' F' ((Dl, .lst acc) :: L) ∧ Inv i acc F' ∧ acc.length ≤ i, ⟨kvs.length, by omega, by omega, [], _, Same.refl _, D1.new hD, h0 _, Nat.le_refl _⟩, ?_⟩
  rintro i m H' ⟨rfl, hi, acc, F', s, D, I, ha⟩
  have hfa : F' a = some (.frz od (.dK kvs)) := s _ _ upd_same
  by_cases hlt : i < kvs.length
  · refine .inr ⟨⟨D.frz hfa, hlt⟩, fun H2 => i + 1 ≤ kvs.length ∧ ∃ acc F', Same (upd F a (.frz od (.dK kvs))) F' ∧ Led H2 F' ((Dl, .lst acc) :: L) ∧ Inv (i + 1) acc F' ∧ acc.length ≤ i + 1, fun H2 ⟨_, q⟩ => ⟨kvs.length - (i + 1), by omega, rfl, hlt, q⟩, fun x H2 y => ?_⟩
    obtain ⟨rfl, k, v, e, rfl⟩ := y
    exact turn od _ _ i acc F' _ Dl k v e s I D ha
      (fun y F3 H4 s3 D3 I3 => ⟨acc, D3.get 0, lt_line (by omega), hlt, acc ++ [y], F3, s.trans s3, D3.set 0, I3, by simp; omega⟩)
      (fun F3 H3 s3 D3 I3 => ⟨hlt, acc, F3, s.trans s3, D3, I3, by omega⟩)
  · have e : i = kvs.length := by omega
    subst e
    refine .inl ⟨⟨D.frz hfa, Nat.le_refl _⟩, D.frz hfa, ?_⟩
    exact done acc Dl (upd F' a (.dK kvs)) _ (same_lock hf s) (fin od acc F' _ I hfa fun b o nb e => by rw [upd_ne nb]; exact e) (D.lockF hfa) ha
end
theorem lock_asg {t : TE} {σ : L2.St} {H : Hp} {D : Ends} {i : Nat} (h : tLockE t σ H fun v H' => D.nx (σ.set i (some v)) H') : tLock (tAsg t (gName i)) D σ H := h
theorem eqv_texts : ∀ xs ys : List Str, PyData.eqv (.list (dS xs)) (.list (dS ys)) = decide (xs = ys)
  | [], [] => rfl
  | [], _ :: _ => rfl
  | _ :: _, [] => rfl
  | x :: xs, y :: ys => by
    have ih := eqv_texts xs ys
    have e : PyData.eqv (.list (dS (x :: xs))) (.list (dS (y :: ys))) = ((x == y) && PyData.eqv (.list (dS xs)) (.list (dS ys))) := by
      first | rfl | (show PyData.eqvAll _ _ = _; simp only [dS, List.map_cons, PyData.eqvAll]; rfl) | simp [dS, PyData.eqv, PyData.eqvAll]
    rw [e, ih]
    by_cases h : x = y
    · subst h
      rw [beq_self_eq_true, Bool.true_and]
      exact decide_eq_decide.mpr ⟨fun q => by rw [q], fun q => by injection q⟩
    · rw [beq_false_of_ne h, Bool.false_and, decide_eq_false fun q => h (by injection q)]
theorem stAt_val {F : Hp} {ks : List (Str × Int)} {d : Addr} {sp : Str → Span} (h : StAt F ks d sp) (nd : (ks.map (·.1)).Nodup) : ∃ es : List (Str × V), F d = some (.dK (strK es)) ∧ es.length = ks.length ∧ ∀ z ∈ ks.map (·.1), ∃ v, valV (strK es) (.inr z) = some v ∧ SpanAt F v (sp z) := by
  obtain ⟨es, h1, h2, h3⟩ := h
  refine ⟨es, h1, by have := h2.length_eq; rwa [List.length_map, List.length_map] at this, fun z hz => ?_⟩
  obtain ⟨e, he, q⟩ := List.mem_map.mp (h2.mem_iff.mpr hz)
  have := h3 e he
  rw [q] at this
  exact ⟨e.2, valV_str (by rw [← q]; exact he) (h2.nodup_iff.mpr nd), this⟩
theorem SpanAt.up {F F' : Hp} {a : Addr} {kvs : List (Key × V)} {v : V} (ha : F a = some (.dK kvs)) (up : ∀ b o, b ≠ a → F b = some o → F' b = some o) : ∀ {s : Span}, SpanAt F v s → SpanAt F' v s
  | none, h => h
  | some (_, _), ⟨t, e, h⟩ => ⟨t, e, up t _ (fun z => by rw [z, ha] at h; cases h) h⟩
theorem SpanAt.noInt {F : Hp} {o : Int} : ∀ {s : Span}, ¬ SpanAt F (.int o) s
  | none, h => by cases (show V.int o = V.non from h)
  | some (_, _), ⟨t, e, h⟩ => by cases e
theorem flat_texts (n : Nat) (z : Str) : (List.replicate n [V.str z]).flatten = (List.replicate n z).map V.str := by
  induction n with
  | zero => rfl
  | succ n ih => rw [List.replicate_succ, List.flatten_cons, ih, List.replicate_succ, List.map_cons]; rfl
theorem all_same (z : Str) : ∀ kk : List Str, decide (kk = List.replicate kk.length z) = (kk.map fun k => decide (k = z)).all id
  | [] => rfl
  | k :: kk => by
    have ih := all_same z kk
    rw [List.map_cons, List.all_cons, ← ih, List.length_cons, List.replicate_succ]
    by_cases h : k = z
    · subst h
      rw [id, decide_eq_true rfl, Bool.true_and]
      exact decide_eq_decide.mpr ⟨fun q => by injection q, fun q => by rw [← q]⟩
    · rw [id, decide_eq_false h, Bool.false_and]
      exact decide_eq_false fun q => h (by injection q)
end FL
namespace FL
open PySem PySem.Spec PyProof.Rows L2
/-! ### sorted(e.values()) of a dict with fewer than 64 ints as values -/
def rSortVals : V → Hp → VK → Prop := fun x H Q => ∃ (d : Addr) (kvs : List (Key × V)) (ns : List Int), x = .ref d ∧ Rd H d (.dK kvs) ∧ kvs.map (·.2) = ns.map V.int ∧ ns.length < 64 ∧
  ∀ (ns' : List Int) (p : Addr), ns'.Perm ns → ns'.Pairwise (· ≤ ·) → H p = none → Q (.ref p) (upd H p (.lst (ns'.map V.int)))
def tSortVals (te : TE) : TE := fun σ H Q => te σ H fun x H1 => rSortVals x H1 Q
section
variable {X : Cx} {e : Expr} {te : TE} {p apos cpos pos : Pos}
theorem pe_sortValues (hcalm : X.calm = true) (he : PE X e te) (hg : Gl X "sorted") (hm : X.mg "sorted" = none) (hv : bootBuiltins "sorted" = some (.builtin "sorted"))
    (hbase : attributeBase e "values" X.env (eval e X.env) = eval e X.env := by rfl) (hline : (apos.endLine == cpos.line) = true := by rfl)
    (hs : starEach [.Call (.Attribute e "values" apos) [] [] cpos] X.env = (false, eval (.Call (.Attribute e "values" apos) [] [] cpos) X.env) :: starEach [] X.env := by rfl) :
    PE X (.Call (.Name "sorted" p) [.Call (.Attribute e "values" apos) [] [] cpos] [] pos) (tSortVals te) := by
  refine ⟨fun pins s σ H Q I hq => wpAny_Call_Name_kw (ld_blt I hg hm hv (PyProof.Rows.callWith_builtin1 ?_ hs rfl))⟩
  rw [hs]
  show wpAny (model X.prog X.w) X.A (spliced ((false, eval (Expr.Call (Expr.Attribute e "values" apos) [] [] cpos) X.env) :: backTo pos (starEach [] X.env))) _ X.xe s
  refine Calls.spliced_cons (wpAny_Call_method (args := []) (T := "dict") (id := "dict.values") hbase rfl hline F.plainAttrs_dict F.slot_dict_values F.type_dict_values
    (thn (he.run pins s σ H _ I hq) fun u s1 ⟨x, H1, I1, rx, d, kvs, ns, ex, hd, hns, h64, q⟩ => ?_))
  subst ex
  obtain rfl : u = Value.ref d := rx
  obtain ⟨hz, hs0, vs, kv, hdo⟩ : ObjOk X.prog X.w H1 s1.heap d (.dK kvs) := hd.elim (I1.hok d _) fun ⟨_, hq⟩ => (I1.hok d _ hq).2
  obtain ⟨ep, hat⟩ := hdo.dictAt
  have I2 : Inv X pins σ H1 { s1 with heap := s1.heap.push { cls := .type "dict_values", data := .fields #[.ref d] } } := I1.kept (t' := s1.toks) fun b ob w => Heap.get?_push_of_some _ w
  have lk : kvs.length = vs.length := Paired.length kv
  refine ⟨hdo.typeIs, hdo.mapOf.noDict, ?_⟩
  show wpAny (model X.prog X.w) X.A (callWith cpos (Value.builtin "dict.values") [Value.ref d] [] []) _ X.xe s1
  refine method_meetsIn F.slot_dict_values F.entry_dict_values rfl (PySem.evalArgs_none ⟨rfl, hdo.typeIs, F.args_dict_values_1 _, _, meets_dict_values (mixKind X.prog X.w) d hs0, ⟨vs, hdo⟩, Calls.spliced_nil ?_⟩)
  refine Calls.call_function_entry PyProof.Rows.kind_sorted PyProof.Rows.plain_sorted PyProof.Rows.entry_sorted (PyProof.Rows.args_sorted1 _) ?_
  unfold Builtin.«sorted»
  refine wpAny_bind (m := checkCount "sorted" 1 1 _) (wpAny_pure ?_)
  refine wpAny_bind (PySem.W.kdu_collect (A := X.A.in1) (PySem.W.kdl_values (knd := mixKind X.prog X.w) (kvs := vs) (ep := ep)) (I1.ok.hd hcalm) ⟨⟨_, Heap.get?_push_size _ rfl, rfl, rfl⟩, hat.push _⟩ (by omega) fun h' tk acc hk hacc => ?_)
  have ev : acc.toList = vs.map (·.2) := PySem.W.kdl_vals_eq acc.toList (by rw [Array.length_toList]; exact hacc.1) fun j v e => hacc.2 j v (by rw [← Array.getElem?_toList]; exact e)
  have hvv : Vals (kvs.map (·.2)) acc.toList := by rw [ev]; exact kv_snd kv
  rw [hns] at hvv
  have hI := hvv.ints
  have hal : acc.toList.length = ns.length := by rw [← hvv.length, List.length_map]
  have I3 : Inv X pins σ H1 { s1 with heap := h', toks := tk } := I2.kept hk
  refine wpAny_bind (wpAny_newList ?_ (by rw [hal, sizeLine_eq]; omega))
  have hoL : (h'.push (seqObj "list" acc.toList.toArray 0)).get? h'.objs.size = some (seqObj "list" acc.toList.toArray 0) := Heap.get?_push_size _ rfl
  show wpAny _ _ _ _ _ { s1 with heap := h'.push (seqObj "list" acc.toList.toArray 0), toks := tk }
  refine wpAny_bind (wpAny_holding (wpAny_call_entry PyProof.Rows.slot_list_sort ⟨_, hoL, rfl⟩ PyProof.Rows.entry_list_sort
    (PyProof.Rows.list_sort_tree hoL hI (by rw [hal]; exact h64) fun out ns' a1 a2 a3 => ⟨_, rfl, ?_⟩) (PyProof.Rows.args_list_sort _)))
  obtain ⟨ep', he'⟩ := PyProof.Rows.sortedHeap_at (vs := acc.toList) (out := out) hoL
  have hlen : (ns'.map V.int).length ≤ sizeLine := by rw [List.length_map, a2.length_eq]; exact lt_line (by omega) |> Nat.le_of_lt
  refine wpAny_pure ⟨_, rfl, .ref h'.objs.size, upd H1 h'.objs.size (.lst (ns'.map V.int)), I3.laid (t' := tk) (fun b u e => ?_) (Nat.le_refl _)
    (show ObjOk X.prog X.w _ _ _ (.lst (ns'.map V.int)) from ⟨hlen, out.toList, ep', vals_of_ints a1, by rw [Array.toArray_toList]; exact he'⟩), rfl, q ns' _ a2 a3 (I3.hok.fresh (Nat.le_refl _))⟩
  have hb : b < h'.objs.size := Heap.lt_size e
  rw [PyProof.Rows.sortedHeap_old (Nat.ne_of_lt hb) (by rw [size_push']; exact Nat.lt_succ_of_lt hb)]
  exact Heap.get?_push_of_some _ e
end
end FL
namespace FL
open PySem PySem.Spec PyProof.Rows L2
/-! ### who lacks: two ways to say it -/
theorem low_up {l : Option Int} {x z : Int} (h : lowOk l x = true) (e : x ≤ z) : lowOk l z = true := by
  cases l with
  | none => rfl
  | some i => exact decide_eq_true (Int.le_trans (of_decide_eq_true h) e)
theorem high_down {l : Option Int} {y z : Int} (h : highOk l y = true) (e : z ≤ y) : highOk l z = true := by
  cases l with
  | none => rfl
  | some i => exact decide_eq_true (Int.le_trans e (of_decide_eq_true h))
theorem span_mid {s : Span} {x y z : Int} (h1 : inSpan s x = true) (h2 : inSpan s y = true) (e1 : x ≤ z) (e2 : z ≤ y) : inSpan s z = true := by
  match s with
  | none => cases h1
  | some (l, h) =>
    obtain ⟨a1, _⟩ := Bool.and_eq_true_iff.mp (show (lowOk l x && highOk h x) = true from h1)
    obtain ⟨_, b2⟩ := Bool.and_eq_true_iff.mp (show (lowOk l y && highOk h y) = true from h2)
    exact Bool.and_eq_true_iff.mpr ⟨low_up a1 e1, high_down b2 e2⟩
theorem span_own {ks : List (Str × Int)} {o : Int} {s : Span} (ok : spanOk ks o s) (h : s ≠ none) : inSpan s o = true := by
  match s with
  | none => exact absurd rfl h
  | some (l, hi) =>
    obtain ⟨k1, k2⟩ := ok
    refine Bool.and_eq_true_iff.mpr ⟨?_, ?_⟩
    · cases l with
      | none => rfl
      | some i => exact decide_eq_true (k1 i rfl).2
    · cases hi with
      | none => rfl
      | some i => exact decide_eq_true (k2 i rfl).2
theorem pos_head {os : List (Str × Int)} {a : Str × Int} (h : os[0]? = some a) (pw : os.Pairwise fun x y => x.2 < y.2) : ∀ p ∈ os, a.2 ≤ p.2 := by
  match os, h with
  | x :: os, h =>
    have e : x = a := Option.some.inj h
    subst e
    intro p hp
    rcases List.mem_cons.mp hp with e | hp
    · rw [e]; exact Int.le_refl _
    · exact Int.le_of_lt ((List.pairwise_cons.mp pw).1 p hp)
theorem pos_last {oi : List (Str × Int)} {b : Str × Int} (pw : (oi ++ [b]).Pairwise fun x y => x.2 < y.2) : ∀ p ∈ oi ++ [b], p.2 ≤ b.2 := by
  intro p hp
  rcases List.mem_append.mp hp with hp | hp
  · exact Int.le_of_lt ((List.pairwise_append.mp pw).2.2 p hp b List.mem_cons_self)
  · rw [List.mem_singleton.mp hp]; exact Int.le_refl _
def lackN (sp : Str → Span) (os : List (Str × Int)) (lo hi : Int) : List Str := (os.filter fun p => !(inSpan (sp p.1) lo && inSpan (sp p.1) hi)).map (·.1)
/-- the hosts that lack, os by positions -/
def lackO (sp : Str → Span) (os : List (Str × Int)) : List Str := if os.length = 1 then [] else lackN sp os ((os.head?.map (·.2)).getD 0) ((os.getLast?.map (·.2)).getD 0)
def dueAt (sp : Str → Span) (ks : List (Str × Int)) (p : Str × Int) : Bool := !((ks.filter fun q => !decide (q.1 = p.1)).all fun q => inSpan (sp p.1) q.2)
def dueO (sp : Str → Span) (ks os : List (Str × Int)) : List Str := (os.filter (dueAt sp ks)).map (·.1)
theorem name_inj {ks : List (Str × Int)} (nd : (ks.map (·.1)).Nodup) {p q : Str × Int} (hp : p ∈ ks) (hq : q ∈ ks) (e : p.1 = q.1) : p = q := by
  have h1 := posOf_eq nd hp
  have h2 := posOf_eq nd hq
  rw [e] at h1
  exact Prod.ext e (h1.symm.trans h2)
theorem lack_due {ks os : List (Str × Int)} {sp : Str → Span} (hk : LineOk ks) (bp : byPos ks os) (ok : ∀ p ∈ ks, spanOk ks p.2 (sp p.1)) : lackO sp os = dueO sp ks os := by
  have lo := bp.1.length_eq
  have l1 := hk.len1
  unfold lackO
  by_cases h1 : os.length = 1
  · rw [if_pos h1]
    match os, h1, bp with
    | [p], _, bp =>
      have e : ks = [p] := (List.perm_singleton.mp bp.1.symm)
      unfold dueO dueAt
      rw [e]
      simp
  rw [if_neg h1]
  obtain ⟨o1, h0⟩ : ∃ z, os[0]? = some z := ⟨_, List.getElem?_eq_getElem (by omega)⟩
  obtain ⟨oi, ol, eos⟩ : ∃ yi yl, os = yi ++ [yl] := ⟨_, _, (List.dropLast_concat_getLast (l := os) (by intro e; rw [e] at lo; simp at lo; omega)).symm⟩
  rw [show (os.head?.map (·.2)).getD 0 = o1.2 from by rw [List.head?_eq_getElem?, h0]; rfl, show (os.getLast?.map (·.2)).getD 0 = ol.2 from by rw [eos]; simp]
  have m0 : o1 ∈ ks := bp.1.mem_iff.mp (List.mem_of_getElem? h0)
  have ml : ol ∈ ks := bp.1.mem_iff.mp (by rw [eos]; simp)
  have le0 : ∀ q ∈ ks, o1.2 ≤ q.2 := fun q hq => pos_head h0 bp.2 q (bp.1.mem_iff.mpr hq)
  have leL : ∀ q ∈ ks, q.2 ≤ ol.2 := fun q hq => by
    have pw := bp.2
    have hq2 := bp.1.mem_iff.mpr hq
    rw [eos] at pw hq2
    exact pos_last pw q hq2
  have key : ∀ p ∈ os, (!(inSpan (sp p.1) o1.2 && inSpan (sp p.1) ol.2)) = dueAt sp ks p := fun p hp => by
    have pk := bp.1.mem_iff.mp hp
    unfold dueAt
    congr 1
    cases hc : (ks.filter fun q => !decide (q.1 = p.1)).all fun q => inSpan (sp p.1) q.2 with
    | true =>
      have all := List.all_eq_true.mp hc
      have other : ∃ q ∈ ks, q.1 ≠ p.1 := by
        by_cases e : o1.1 = p.1
        · refine ⟨ol, ml, fun e2 => ?_⟩
          have e3 := name_inj hk.ndn m0 ml (e.trans e2.symm)
          have pw := bp.2
          rw [eos] at pw h0
          cases oi with
          | nil => rw [eos] at h1; exact h1 rfl
          | cons x xs =>
            have ex : x = o1 := Option.some.inj h0
            have := (List.pairwise_append.mp pw).2.2 x List.mem_cons_self ol List.mem_cons_self
            rw [ex, e3] at this
            exact absurd this (Int.lt_irrefl _)
        · exact ⟨o1, m0, e⟩
      obtain ⟨q, hq, nq⟩ := other
      have inq := all q (List.mem_filter.mpr ⟨hq, by simp [nq]⟩)
      have nn : sp p.1 ≠ none := fun e => by rw [e] at inq; cases inq
      have own := span_own (ok p pk) nn
      have every : ∀ q ∈ ks, inSpan (sp p.1) q.2 = true := fun q hq => by
        by_cases e : q.1 = p.1
        · rw [name_inj hk.ndn hq pk e]; exact own
        · exact all q (List.mem_filter.mpr ⟨hq, by simp [e]⟩)
      rw [every o1 m0, every ol ml]; rfl
    | false =>
      cases hb : inSpan (sp p.1) o1.2 && inSpan (sp p.1) ol.2 with
      | false => rfl
      | true =>
        obtain ⟨b1, b2⟩ := Bool.and_eq_true_iff.mp hb
        obtain ⟨q, hq, nq⟩ := List.all_eq_false.mp hc
        have qk := (List.mem_filter.mp hq).1
        exact absurd (span_mid b1 b2 (le0 q qk) (leL q qk)) nq
  unfold lackN dueO
  rw [List.filter_congr key]
end FL
namespace FL
open PySem PySem.Spec PyProof.Rows L2
def rReprB : List V → Hp → VK → Prop := fun xs H Q => ∃ b : Bool, xs = [.bl b] ∧ Q (.str (if b then "True" else "False")) H
theorem call_reprB {X : Cx} : CallR X (.builtin "repr") rReprB := by
  intro pins s σ H xs us Q I r h
  obtain ⟨b, rfl, q⟩ := h
  obtain ⟨u, rfl, rb⟩ := vals1 r
  cases rb
  exact PySem.P.repr_of_bool ⟨.str _, H, I.tok _, ⟨_, rfl⟩, q⟩
theorem pos_of {ks : List (Str × Int)} (hk : LineOk ks) {i : Int} (h : i ∈ ks.map (·.2)) : -(10 ^ 39) < i ∧ i < 10 ^ 39 := by
  obtain ⟨p, hp, e⟩ := List.mem_map.mp h
  have b := hk.ps p hp
  rw [← e]
  have c : (10 : Int) ^ 30 < 10 ^ 39 := by decide
  omega
theorem oV_dx {F : Hp} {ks : List (Str × Int)} (hk : LineOk ks) : ∀ {o : Option Int}, (∀ i, o = some i → i ∈ ks.map (·.2)) → Dx F (oV o) 130 0
  | none, _ => xO.more (Nat.zero_le _) (Nat.le_refl _)
  | some i, h => Dx.int (pos_of hk (h i rfl)).1 (pos_of hk (h i rfl)).2
theorem span_dx {F : Hp} {ks : List (Str × Int)} (hk : LineOk ks) {o : Int} {v : V} : ∀ {s : Span}, spanOk ks o s → SpanAt F v s → Dx F v 262 1
  | none, _, e => by rw [show v = V.non from e]; exact xO.more (Nat.zero_le _) (Nat.le_refl _)
  | some (l, h), ⟨k1, k2⟩, ⟨t, e, ht⟩ => by
    rw [e]
    exact (Dx.tup ht (.cons (oV_dx hk fun i e => (k1 i e).1) (.cons (oV_dx hk fun i e => (k2 i e).1) .nil))).more (by decide) (Nat.le_refl _)
theorem es_kv {F : Hp} : ∀ (es : List (Str × V)), (∀ e ∈ es, nmStr e.1 = true ∧ Dx F e.2 262 1) → ∃ ds, DtKv F (strK es) ds ∧ DOkV ds (es.length * 272) 1
  | [], _ => ⟨[], .nil, DOkV.nil⟩
  | e :: es, h => by
    obtain ⟨ds, q1, q2⟩ := es_kv es fun x hx => h x (List.mem_cons_of_mem _ hx)
    obtain ⟨h1, d, h2, h3⟩ := h e List.mem_cons_self
    refine ⟨(.str e.1, d) :: ds, .cons (k := .inr e.1) h2 q1, ?_⟩
    have := DOkV.cons ((DOk.nm h1).more (Nat.le_refl _) (Nat.zero_le 1)) h3 q2
    exact ⟨this.ls, this.sh, Nat.le_trans this.wt (by rw [List.length_cons, Nat.succ_mul]; omega), this.dp⟩
theorem Dx.state {F : Hp} {ks : List (Str × Int)} {d : Addr} {sp : Str → Span} (hk : LineOk ks) (h : StAt F ks d sp) (ok : ∀ p ∈ ks, spanOk ks p.2 (sp p.1)) : Dx F (.ref d) 10880 2 := by
  obtain ⟨es, h1, h2, h3⟩ := h
  have l2 := hk.len2
  have le : es.length ≤ 40 := by have := h2.length_eq; rw [List.length_map, List.length_map] at this; omega
  obtain ⟨ds, q1, q2⟩ := es_kv (F := F) es fun e he => by
    obtain ⟨p, hp, q⟩ := List.mem_map.mp (h2.mem_iff.mp (List.mem_map.mpr ⟨e, he, rfl⟩))
    have o := ok p hp
    rw [q] at o
    exact ⟨by rw [← q]; exact hk.nm p hp, span_dx hk o (h3 e he)⟩
  exact ⟨_, .dct h1 q1, (DOk.dict q2).more (by omega) (Nat.le_refl _)⟩
theorem due_nm {ks os : List (Str × Int)} {sp : Str → Span} (hk : LineOk ks) (bp : byPos ks os) : ∀ z ∈ dueO sp ks os, nmStr z = true := fun z hz => by
  obtain ⟨p, hp, e⟩ := List.mem_map.mp hz
  rw [← e]
  exact hk.nm p (bp.1.mem_iff.mp (List.mem_filter.mp hp).1)
theorem due_len {ks os : List (Str × Int)} {sp : Str → Span} (hk : LineOk ks) (bp : byPos ks os) : (dueO sp ks os).length ≤ 40 := by
  unfold dueO
  rw [List.length_map]
  have h1 := bp.1.length_eq
  have h2 := hk.len2
  exact Nat.le_trans (List.length_filter_le _ _) (by omega)
theorem byPos_uniq {ks os os' : List (Str × Int)} (h : byPos ks os) (h' : byPos ks os') : os' = os := ord_uniq (h'.1.trans h.1.symm) h'.2 h.2
theorem exA3 : LineOk [("a", 3)] := ⟨by decide, by decide, by decide, by decide, by decide, by decide⟩
theorem exAB : LineOk [("a", 0), ("b", 1)] := ⟨by decide, by decide, by decide, by decide, by decide, by decide⟩
def spAB (z : Str) : Span := if z = "a" then some (some 0, some 1) else none
theorem okAB : ∀ p ∈ ([("a", 0), ("b", 1)] : List (Str × Int)), spanOk [("a", 0), ("b", 1)] p.2 (spAB p.1) :=
  alC (by
    show spanOk _ 0 (spAB "a")
    rw [show spAB "a" = some (some 0, some 1) from by decide]
    exact ⟨fun i e => by cases e; decide, fun i e => by cases e; decide⟩) (alC (by
    show spanOk _ 1 (spAB "b")
    rw [show spAB "b" = none from by decide]
    trivial) alN)
theorem byAB : byPos [("a", 0), ("b", 1)] [("a", 0), ("b", 1)] := ⟨List.Perm.refl _, by decide⟩
theorem lackAB : lackO spAB [("a", 0), ("b", 1)] = [Str.ofString "b"] := by decide +kernel
end FL
/-! Data: what a value is worth, whatever objects carry it. -/
namespace FD
open PySem PySem.Spec PyProof.Rows L2 FL

inductive Dv where
  | non | bl (b : Bool) | int (i : Int) | str (x : Str)
  | lst (xs : List Dv) | tup (xs : List Dv) | dct (kvs : List (Key × Dv)) | dcT (kvs : List (List Key × Dv)) | scr (ns : List Int)

mutual
inductive Dd (K : PySem.W.Frag) (F : Hp) : V → Dv → Prop
  | non : Dd K F .non .non
  | bl (b : Bool) : Dd K F (.bl b) (.bl b)
  | int (i : Int) : Dd K F (.int i) (.int i)
  | str (x : Str) : Dd K F (.str x) (.str x)
  | lst {a : Addr} {xs : List V} {ds : List Dv} (h : F a = some (.lst xs)) (hs : DdA K F xs ds) : Dd K F (.ref a) (.lst ds)
  | scr {a : Addr} {ns : List Int} (h : SqL K F a (ns.map V.int)) : Dd K F (.ref a) (.scr ns)
  | tup {a : Addr} {xs : List V} {ds : List Dv} (h : F a = some (.tup xs)) (hs : DdA K F xs ds) : Dd K F (.ref a) (.tup ds)
  | dct {a : Addr} {kvs : List (Key × V)} {ds : List (Key × Dv)} (h : Rd F a (.dK kvs)) (hs : DdK K F kvs ds) : Dd K F (.ref a) (.dct ds)
  | dcT {a : Addr} {kvs : List (List Key × V)} {ds : List (List Key × Dv)} (h : Rd F a (.dT kvs)) (hs : DdT K F kvs ds) : Dd K F (.ref a) (.dcT ds)
inductive DdA (K : PySem.W.Frag) (F : Hp) : List V → List Dv → Prop
  | nil : DdA K F [] []
  | cons {v : V} {vs : List V} {d : Dv} {ds : List Dv} (h : Dd K F v d) (t : DdA K F vs ds) : DdA K F (v :: vs) (d :: ds)
inductive DdK (K : PySem.W.Frag) (F : Hp) : List (Key × V) → List (Key × Dv) → Prop
  | nil : DdK K F [] []
  | cons {k : Key} {v : V} {kvs : List (Key × V)} {d : Dv} {ds : List (Key × Dv)} (h : Dd K F v d) (t : DdK K F kvs ds) : DdK K F ((k, v) :: kvs) ((k, d) :: ds)
inductive DdT (K : PySem.W.Frag) (F : Hp) : List (List Key × V) → List (List Key × Dv) → Prop
  | nil : DdT K F [] []
  | cons {k : List Key} {v : V} {kvs : List (List Key × V)} {d : Dv} {ds : List (List Key × Dv)} (h : Dd K F v d) (t : DdT K F kvs ds) : DdT K F ((k, v) :: kvs) ((k, d) :: ds)
end
/-- all that can be read can be read still -/
def Pl : HO → Prop
  | .frz _ _ => False
  | _ => True
structure Le (F F' : Hp) : Prop where
  rd : ∀ a o, Pl o → Rd F a o → Rd F' a o
  tp : ∀ a xs, F a = some (.tup xs) → F' a = some (.tup xs)
  ls : ∀ a xs, F a = some (.lst xs) → F' a = some (.lst xs)
theorem Le.refl (F : Hp) : Le F F := ⟨fun _ _ _ h => h, fun _ _ h => h, fun _ _ h => h⟩
theorem Le.trans {F F1 F2 : Hp} (a : Le F F1) (b : Le F1 F2) : Le F F2 := ⟨fun x o p h => b.rd x o p (a.rd x o p h), fun x xs h => b.tp x xs (a.tp x xs h), fun x xs h => b.ls x xs (a.ls x xs h)⟩
theorem Le.of {F F' : Hp} (s : Same F F') : Le F F' := ⟨fun a o _ h => h.imp (s _ _) fun ⟨od, q⟩ => ⟨od, s _ _ q⟩, fun a xs h => s _ _ h, fun a xs h => s _ _ h⟩
theorem Le.seq {K : PySem.W.Frag} {F F' : Hp} {a : Addr} {xs : List V} (e : Le F F') (h : SqL K F a xs) : SqL K F' a xs := h.imp (e.rd _ _ True.intro) id
theorem Le.lock {F : Hp} {a : Addr} {u : HO} {od : Obj} (h : F a = some u) (pu : Pl u) (nt : ∀ xs, u ≠ .tup xs) (nl : ∀ xs, u ≠ .lst xs) : Le F (upd F a (.frz od u)) := ⟨fun b o p r => by
  by_cases e : b = a
  · subst e
    rcases r with r | ⟨od', r⟩
    · rw [h] at r; cases r; exact .inr ⟨od, upd_same⟩
    · rw [h] at r; cases r; cases pu
  · exact r.imp (fun q => by rw [upd_ne e]; exact q) fun ⟨od', q⟩ => ⟨od', by rw [upd_ne e]; exact q⟩, fun b xs q => by
  by_cases e : b = a
  · subst e; rw [h] at q; cases q; exact absurd rfl (nt xs)
  · rw [upd_ne e]; exact q, fun b xs q => by
  by_cases e : b = a
  · subst e; rw [h] at q; cases q; exact absurd rfl (nl xs)
  · rw [upd_ne e]; exact q⟩
theorem Le.unlock {F : Hp} {a : Addr} {u : HO} {od : Obj} (h : F a = some (.frz od u)) : Le F (upd F a u) := ⟨fun b o p r => by
  by_cases e : b = a
  · subst e
    rcases r with r | ⟨od', r⟩
    · rw [h] at r; cases r; cases p
    · rw [h] at r; cases r; exact .inl upd_same
  · exact r.imp (fun q => by rw [upd_ne e]; exact q) fun ⟨od', q⟩ => ⟨od', by rw [upd_ne e]; exact q⟩, fun b xs q => by
  by_cases e : b = a
  · subst e; rw [h] at q; cases q
  · rw [upd_ne e]; exact q, fun b xs q => by
  by_cases e : b = a
  · subst e; rw [h] at q; cases q
  · rw [upd_ne e]; exact q⟩
mutual
theorem Dd.mono {K : PySem.W.Frag} {F F' : Hp} (e : Le F F') : ∀ {d : Dv} {v : V}, Dd K F v d → Dd K F' v d
  | .non, _, h => by cases h; exact .non
  | .bl b, _, h => by cases h; exact .bl b
  | .int i, _, h => by cases h; exact .int i
  | .str x, _, h => by cases h; exact .str x
  | .lst ds, _, h => by
    cases h with
    | lst h hs => exact .lst (e.ls _ _ h) (DdA.mono e hs)
  | .scr ns, _, h => by
    cases h with
    | scr h => exact .scr (e.seq h)
  | .tup ds, _, h => by
    cases h with
    | tup h hs => exact .tup (e.tp _ _ h) (DdA.mono e hs)
  | .dct ds, _, h => by
    cases h with
    | dct h hs => exact .dct (e.rd _ _ True.intro h) (DdK.mono e hs)
  | .dcT ds, _, h => by
    cases h with
    | dcT h hs => exact .dcT (e.rd _ _ True.intro h) (DdT.mono e hs)
theorem DdA.mono {K : PySem.W.Frag} {F F' : Hp} (e : Le F F') : ∀ {ds : List Dv} {vs : List V}, DdA K F vs ds → DdA K F' vs ds
  | [], _, h => by cases h; exact .nil
  | d :: ds, _, h => by
    cases h with
    | cons h t => exact .cons (Dd.mono e h) (DdA.mono e t)
theorem DdK.mono {K : PySem.W.Frag} {F F' : Hp} (e : Le F F') : ∀ {ds : List (Key × Dv)} {kvs : List (Key × V)}, DdK K F kvs ds → DdK K F' kvs ds
  | [], _, h => by cases h; exact .nil
  | (k, d) :: ds, _, h => by
    cases h with
    | cons h t => exact .cons (Dd.mono e h) (DdK.mono e t)
theorem DdT.mono {K : PySem.W.Frag} {F F' : Hp} (e : Le F F') : ∀ {ds : List (List Key × Dv)} {kvs : List (List Key × V)}, DdT K F kvs ds → DdT K F' kvs ds
  | [], _, h => by cases h; exact .nil
  | (k, d) :: ds, _, h => by
    cases h with
    | cons h t => exact .cons (Dd.mono e h) (DdT.mono e t)
end
section
variable {K : PySem.W.Frag} {F : Hp}
theorem DdA.len : ∀ {vs : List V} {ds : List Dv}, DdA K F vs ds → vs.length = ds.length
  | _, _, .nil => rfl
  | _, _, .cons _ t => congrArg (· + 1) (DdA.len t)
theorem DdK.len : ∀ {vs : List (Key × V)} {ds : List (Key × Dv)}, DdK K F vs ds → vs.length = ds.length
  | _, _, .nil => rfl
  | _, _, .cons _ t => congrArg (· + 1) (DdK.len t)
theorem DdA.get : ∀ {vs : List V} {ds : List Dv}, DdA K F vs ds → ∀ {i : Nat} {d : Dv}, ds[i]? = some d → ∃ v, vs[i]? = some v ∧ Dd K F v d
  | _, _, .nil, i, d, h => by cases h
  | _, _, .cons r t, 0, d, h => ⟨_, rfl, (Option.some.inj h) ▸ r⟩
  | _, _, .cons r t, i + 1, d, h => DdA.get t (i := i) h
theorem DdA.get' : ∀ {vs : List V} {ds : List Dv}, DdA K F vs ds → ∀ {i : Nat} {v : V}, vs[i]? = some v → ∃ d, ds[i]? = some d ∧ Dd K F v d
  | _, _, .nil, i, d, h => by cases h
  | _, _, .cons r t, 0, d, h => ⟨_, rfl, (Option.some.inj h) ▸ r⟩
  | _, _, .cons r t, i + 1, d, h => DdA.get' t (i := i) h
theorem DdA.app : ∀ {vs us : List V} {ds es : List Dv}, DdA K F vs ds → DdA K F us es → DdA K F (vs ++ us) (ds ++ es)
  | _, _, _, _, .nil, k => k
  | _, _, _, _, .cons r t, k => .cons r (DdA.app t k)
theorem DdA.of_get : ∀ {vs : List V} {ds : List Dv}, vs.length = ds.length → (∀ (i : Nat) (v : V) (d : Dv), vs[i]? = some v → ds[i]? = some d → Dd K F v d) → DdA K F vs ds
  | [], [], _, _ => .nil
  | v :: vs, d :: ds, hl, h => .cons (h 0 v d rfl rfl) (DdA.of_get (by simpa using hl) fun i v d e1 e2 => h (i + 1) v d e1 e2)
  | [], _ :: _, hl, _ => by simp at hl
  | _ :: _, [], hl, _ => by simp at hl
theorem DdA.take (n : Nat) {vs : List V} {ds : List Dv} (h : DdA K F vs ds) : DdA K F (vs.take n) (ds.take n) :=
  DdA.of_get (by rw [List.length_take, List.length_take, h.len]) fun i v d e1 e2 => by
    rw [List.getElem?_take] at e1 e2
    split at e1
    · rename_i hi
      rw [if_pos hi] at e2
      obtain ⟨v', q, r⟩ := h.get e2
      rw [e1] at q; cases q; exact r
    · cases e1
theorem DdA.drop (n : Nat) {vs : List V} {ds : List Dv} (h : DdA K F vs ds) : DdA K F (vs.drop n) (ds.drop n) :=
  DdA.of_get (by rw [List.length_drop, List.length_drop, h.len]) fun i v d e1 e2 => by
    rw [List.getElem?_drop] at e1 e2
    obtain ⟨v', q, r⟩ := h.get e2
    rw [e1] at q; cases q; exact r
theorem DdA.reverse {vs : List V} {ds : List Dv} (h : DdA K F vs ds) : DdA K F vs.reverse ds.reverse := by
  induction ds generalizing vs with
  | nil => cases h; exact .nil
  | cons d ds ih =>
    cases h with
    | cons r t => rw [List.reverse_cons, List.reverse_cons]; exact (ih t).app (.cons r .nil)
theorem DdA.set (i : Nat) {vs : List V} {ds : List Dv} {v : V} {d : Dv} (h : DdA K F vs ds) (r : Dd K F v d) : DdA K F (vs.set i v) (ds.set i d) := by
  induction ds generalizing vs i with
  | nil => cases h; exact .nil
  | cons e ds ih =>
    cases h with
    | cons r1 t =>
      cases i with
      | zero => exact .cons r t
      | succ i => exact .cons r1 (ih i t)
theorem DdA.erase (i : Nat) {vs : List V} {ds : List Dv} (h : DdA K F vs ds) : DdA K F (vs.eraseIdx i) (ds.eraseIdx i) := by
  induction ds generalizing vs i with
  | nil => cases h; exact .nil
  | cons e ds ih =>
    cases h with
    | cons r1 t =>
      cases i with
      | zero => exact t
      | succ i => exact .cons r1 (ih i t)
theorem DdA.rep (n : Nat) {vs : List V} {ds : List Dv} (h : DdA K F vs ds) : DdA K F (List.replicate n vs).flatten (List.replicate n ds).flatten := by
  induction n with
  | zero => exact .nil
  | succ n ih => rw [List.replicate_succ, List.replicate_succ, List.flatten_cons, List.flatten_cons]; exact h.app ih
theorem DdK.app : ∀ {vs us : List (Key × V)} {ds es : List (Key × Dv)}, DdK K F vs ds → DdK K F us es → DdK K F (vs ++ us) (ds ++ es)
  | _, _, _, _, .nil, k => k
  | _, _, _, _, .cons r t, k => .cons r (DdK.app t k)
theorem DdK.get : ∀ {vs : List (Key × V)} {ds : List (Key × Dv)}, DdK K F vs ds → ∀ {i : Nat} {k : Key} {d : Dv}, ds[i]? = some (k, d) → ∃ v, vs[i]? = some (k, v) ∧ Dd K F v d
  | _, _, .nil, i, k, d, h => by cases h
  | _, _, .cons r t, 0, k, d, h => by cases h; exact ⟨_, rfl, r⟩
  | _, _, .cons r t, i + 1, k, d, h => DdK.get t (i := i) h
theorem DdK.keys : ∀ {vs : List (Key × V)} {ds : List (Key × Dv)}, DdK K F vs ds → vs.map (·.1) = ds.map (·.1)
  | _, _, .nil => rfl
  | _, _, .cons r t => by rw [List.map_cons, List.map_cons, DdK.keys t]
theorem DdK.vals : ∀ {vs : List (Key × V)} {ds : List (Key × Dv)}, DdK K F vs ds → DdA K F (vs.map (·.2)) (ds.map (·.2))
  | _, _, .nil => .nil
  | _, _, .cons r t => .cons r (DdK.vals t)
/-- the value at a key -/
def lookK (kvs : List (Key × Dv)) (k : Key) : Option Dv := (kvs.find? fun p => decide (p.1 = k)).map (·.2)
def putD (kvs : List (Key × Dv)) (k : Key) (d : Dv) : List (Key × Dv) := if kvs.any (fun p => decide (p.1 = k)) then kvs.map fun p => if p.1 = k then (k, d) else p else kvs ++ [(k, d)]
end
end FD
/-! The slots' data; readings of expressions as functions on data. -/
namespace FD
open PySem PySem.Spec PyProof.Rows L2 FL
section
variable {K : PySem.W.Frag} {F F' H : Hp}
theorem lookK_cons {k k' : Key} {d : Dv} {ds : List (Key × Dv)} : lookK ((k', d) :: ds) k = if k' = k then some d else lookK ds k := by
  unfold lookK
  by_cases e : k' = k
  · rw [if_pos e, List.find?_cons_of_pos (by simp [e])]; rfl
  · rw [if_neg e, List.find?_cons_of_neg (by simp [e])]
theorem DdK.look {k : Key} : ∀ {kvs : List (Key × V)} {ds : List (Key × Dv)}, DdK K F kvs ds → (lookK ds k = none ∧ valV kvs k = none) ∨ ∃ d v, lookK ds k = some d ∧ valV kvs k = some v ∧ Dd K F v d
  | _, _, .nil => .inl ⟨rfl, rfl⟩
  | _, _, @DdK.cons _ _ k' v kvs d ds r t => by
    rw [lookK_cons]
    by_cases e : k' = k
    · exact .inr ⟨d, v, by rw [if_pos e], valV_pos e, r⟩
    · rw [if_neg e, valV_neg (p := (k', v)) e]; exact DdK.look t
theorem DdK.any {k : Key} {kvs : List (Key × V)} {ds : List (Key × Dv)} (h : DdK K F kvs ds) : (kvs.any fun p => decide (p.1 = k)) = ds.any fun p => decide (p.1 = k) := by
  have e := h.keys
  have e1 : (kvs.any fun p => decide (p.1 = k)) = (kvs.map (·.1)).any fun x => decide (x = k) := by rw [List.any_map]; rfl
  have e2 : (ds.any fun p => decide (p.1 = k)) = (ds.map (·.1)).any fun x => decide (x = k) := by rw [List.any_map]; rfl
  rw [e1, e2, e]
theorem DdK.mapk {k : Key} {v : V} {d : Dv} (r : Dd K F v d) : ∀ {kvs : List (Key × V)} {ds : List (Key × Dv)}, DdK K F kvs ds → DdK K F (kvs.map fun kv => if kv.1 = k then (kv.1, v) else kv) (ds.map fun p => if p.1 = k then (k, d) else p)
  | _, _, .nil => .nil
  | _, _, @DdK.cons _ _ k' v' kvs d' ds r' t => by
    rw [List.map_cons, List.map_cons]
    by_cases e : k' = k
    · subst e; rw [if_pos rfl, if_pos rfl]; exact .cons r (DdK.mapk r t)
    · rw [if_neg e, if_neg e]; exact .cons r' (DdK.mapk r t)
theorem DdK.put {k : Key} {v : V} {d : Dv} {kvs : List (Key × V)} {ds : List (Key × Dv)} (h : DdK K F kvs ds) (r : Dd K F v d) : DdK K F (putK kvs k v) (putD ds k d) := by
  unfold putK putD
  rw [h.any]
  split
  · exact h.mapk r
  · exact h.app (.cons r .nil)

/-! ### what is written still: its content -/
inductive DO (K : PySem.W.Frag) (F : Hp) : HO → Dv → Prop
  | lst {xs : List V} {ds : List Dv} (h : DdA K F xs ds) : DO K F (.lst xs) (.lst ds)
  | dct {kvs : List (Key × V)} {ds : List (Key × Dv)} (h : DdK K F kvs ds) : DO K F (.dK kvs) (.dct ds)
  | dcT {kvs : List (List Key × V)} {ds : List (List Key × Dv)} (h : DdT K F kvs ds) : DO K F (.dT kvs) (.dcT ds)
theorem DO.mono {o : HO} {d : Dv} (e : Le F F') (h : DO K F o d) : DO K F' o d := by
  cases h with
  | lst h => exact .lst (h.mono e)
  | dct h => exact .dct (h.mono e)
  | dcT h => exact .dcT (h.mono e)
theorem DO.pl {o : HO} {d : Dv} (h : DO K F o d) : Pl o := by cases h <;> exact True.intro
theorem DO.dd {o : HO} {d : Dv} {a : Addr} (h : DO K F o d) (ha : F a = some o) : Dd K F (.ref a) d := by
  cases h with
  | lst h => exact .lst ha h
  | dct h => exact .dct (.inl ha) h
  | dcT h => exact .dcT (.inl ha) h

/-! ### own trees: what of a value is one's own -/
/-- fr: left as it is; fl: an own list or dict; lk n: the same, its place named n; ho n: lent out, its place named n; ls, dc: an own list, dict of trees; tp: a tuple of trees; io: an own instance; nl, cn, fc: lists of shapes -/
inductive Sh where
  | fr | fl | lk (n : Nat) | ho (n : Nat) | ls (s : Sh) | dc (s : Sh) | tp (ss : Sh) | io (c : String) (fs : Sh) | nl | cn (s t : Sh) | fc (f : Str) (s t : Sh)
deriving DecidableEq
mutual
inductive DN (K : PySem.W.Frag) (F : Hp) (α : Nat → Addr) : Sh → List (Addr × HO) → V → Dv → Prop
  | fr {v : V} {d : Dv} (h : Dd K F v d) : DN K F α .fr [] v d
  | fl {a : Addr} {o : HO} {d : Dv} (h : DO K F o d) : DN K F α .fl [(a, o)] (.ref a) d
  | lk {n : Nat} {o : HO} {d : Dv} (h : DO K F o d) : DN K F α (.lk n) [(α n, o)] (.ref (α n)) d
  | ho {n : Nat} {d : Dv} : DN K F α (.ho n) [] (.ref (α n)) d
  | ls {a : Addr} {xs : List V} {ds : List Dv} {s : Sh} {L : List (Addr × HO)} (h : DNU K F α s L xs ds) : DN K F α (.ls s) ((a, .lst xs) :: L) (.ref a) (.lst ds)
  | dc {a : Addr} {kvs : List (Key × V)} {ds : List (Key × Dv)} {s : Sh} {L : List (Addr × HO)} (h : DNK K F α s L kvs ds) : DN K F α (.dc s) ((a, .dK kvs) :: L) (.ref a) (.dct ds)
  | tp {a : Addr} {xs : List V} {ds : List Dv} {ss : Sh} {L : List (Addr × HO)} (h : F a = some (.tup xs)) (hs : DNA K F α ss L xs ds) : DN K F α (.tp ss) L (.ref a) (.tup ds)
  | io {x C dx : Addr} {c : String} {fs : Sh} {L : List (Addr × HO)} {fv : List (Str × V)} {ds : List (Key × Dv)} (hc : PySem.W.nsIn K mainGlobals c = some (some (.ref C))) (h : DNF K F α fs L fv ds) : DN K F α (.io c fs) ((x, .ins C dx fv) :: (dx, .own x) :: L) (.ref x) (.dct ds)
inductive DNU (K : PySem.W.Frag) (F : Hp) (α : Nat → Addr) : Sh → List (Addr × HO) → List V → List Dv → Prop
  | nil {s : Sh} : DNU K F α s [] [] []
  | cons {s : Sh} {M L : List (Addr × HO)} {v : V} {d : Dv} {vs : List V} {ds : List Dv} (h : DN K F α s M v d) (t : DNU K F α s L vs ds) : DNU K F α s (M ++ L) (v :: vs) (d :: ds)
inductive DNK (K : PySem.W.Frag) (F : Hp) (α : Nat → Addr) : Sh → List (Addr × HO) → List (Key × V) → List (Key × Dv) → Prop
  | nil {s : Sh} : DNK K F α s [] [] []
  | cons {s : Sh} {M L : List (Addr × HO)} {k : Key} {v : V} {d : Dv} {vs : List (Key × V)} {ds : List (Key × Dv)} (h : DN K F α s M v d) (t : DNK K F α s L vs ds) : DNK K F α s (M ++ L) ((k, v) :: vs) ((k, d) :: ds)
inductive DNA (K : PySem.W.Frag) (F : Hp) (α : Nat → Addr) : Sh → List (Addr × HO) → List V → List Dv → Prop
  | nil : DNA K F α .nl [] [] []
  | cons {s t : Sh} {M L : List (Addr × HO)} {v : V} {d : Dv} {vs : List V} {ds : List Dv} (h : DN K F α s M v d) (r : DNA K F α t L vs ds) : DNA K F α (.cn s t) (M ++ L) (v :: vs) (d :: ds)
inductive DNF (K : PySem.W.Frag) (F : Hp) (α : Nat → Addr) : Sh → List (Addr × HO) → List (Str × V) → List (Key × Dv) → Prop
  | nil : DNF K F α .nl [] [] []
  | cons {f : Str} {s t : Sh} {M L : List (Addr × HO)} {v : V} {d : Dv} {vs : List (Str × V)} {ds : List (Key × Dv)} (h : DN K F α s M v d) (r : DNF K F α t L vs ds) : DNF K F α (.fc f s t) (M ++ L) ((f, v) :: vs) ((.inr f, d) :: ds)
end
mutual
theorem DN.mono {α : Nat → Addr} (e : Le F F') : ∀ {s : Sh} {L : List (Addr × HO)} {v : V} {d : Dv}, DN K F α s L v d → DN K F' α s L v d
  | _, _, _, _, .fr h => .fr (h.mono e)
  | _, _, _, _, .fl h => .fl (h.mono e)
  | _, _, _, _, .lk h => .lk (h.mono e)
  | _, _, _, _, .ho => .ho
  | _, _, _, _, .ls h => .ls (DNU.mono e h)
  | _, _, _, _, .dc h => .dc (DNK.mono e h)
  | _, _, _, _, .tp h hs => .tp (e.tp _ _ h) (DNA.mono e hs)
  | _, _, _, _, .io hc h => .io hc (DNF.mono e h)
theorem DNU.mono {α : Nat → Addr} (e : Le F F') : ∀ {s : Sh} {L : List (Addr × HO)} {v : List V} {d : List Dv}, DNU K F α s L v d → DNU K F' α s L v d
  | _, _, _, _, .nil => .nil
  | _, _, _, _, .cons h t => .cons (DN.mono e h) (DNU.mono e t)
theorem DNK.mono {α : Nat → Addr} (e : Le F F') : ∀ {s : Sh} {L : List (Addr × HO)} {v : List (Key × V)} {d : List (Key × Dv)}, DNK K F α s L v d → DNK K F' α s L v d
  | _, _, _, _, .nil => .nil
  | _, _, _, _, .cons h t => .cons (DN.mono e h) (DNK.mono e t)
theorem DNA.mono {α : Nat → Addr} (e : Le F F') : ∀ {s : Sh} {L : List (Addr × HO)} {v : List V} {d : List Dv}, DNA K F α s L v d → DNA K F' α s L v d
  | _, _, _, _, .nil => .nil
  | _, _, _, _, .cons h t => .cons (DN.mono e h) (DNA.mono e t)
theorem DNF.mono {α : Nat → Addr} (e : Le F F') : ∀ {s : Sh} {L : List (Addr × HO)} {v : List (Str × V)} {d : List (Key × Dv)}, DNF K F α s L v d → DNF K F' α s L v d
  | _, _, _, _, .nil => .nil
  | _, _, _, _, .cons h t => .cons (DN.mono e h) (DNF.mono e t)
end
/-! ### slots -/
inductive Sl where
  | no | sh (d : Dv) | ow (t : Option Nat) (d : Dv) | on (t : Option Nat) (s : Sh) (d : Dv)
abbrev Env := List Sl
inductive RelS (K : PySem.W.Frag) (F : Hp) (α : Nat → Addr) : List (Option V) → List Sl → List (Addr × HO) → Prop
  | nil : RelS K F α [] [] []
  | no {x : Option V} {σ : List (Option V)} {δ : List Sl} {L : List (Addr × HO)} (t : RelS K F α σ δ L) : RelS K F α (x :: σ) (.no :: δ) L
  | sh {v : V} {d : Dv} {σ : List (Option V)} {δ : List Sl} {L : List (Addr × HO)} (h : Dd K F v d) (t : RelS K F α σ δ L) : RelS K F α (some v :: σ) (.sh d :: δ) L
  | ow {a : Addr} {o : HO} {d : Dv} {t : Option Nat} {σ : List (Option V)} {δ : List Sl} {L : List (Addr × HO)} (h : DO K F o d) (ht : ∀ k, t = some k → a = α k) (r : RelS K F α σ δ L) : RelS K F α (some (.ref a) :: σ) (.ow t d :: δ) ((a, o) :: L)
  | on {v : V} {s : Sh} {d : Dv} {t : Option Nat} {σ : List (Option V)} {δ : List Sl} {M L : List (Addr × HO)} (h : DN K F α s M v d) (ht : ∀ k, t = some k → v = .ref (α k)) (r : RelS K F α σ δ L) : RelS K F α (some v :: σ) (.on t s d :: δ) (M ++ L)
variable {α : Nat → Addr} {σ : List (Option V)} {δ : List Sl} {L : List (Addr × HO)}
theorem RelS.mono (e : Le F F') (h : RelS K F α σ δ L) : RelS K F' α σ δ L := by
  induction h with
  | nil => exact .nil
  | no t ih => exact .no ih
  | sh h t ih => exact .sh (h.mono e) ih
  | ow h ht t ih => exact .ow (h.mono e) ht ih
  | on h ht t ih => exact .on (h.mono e) ht ih
theorem RelS.len (h : RelS K F α σ δ L) : σ.length = δ.length := by
  induction h with
  | nil => rfl
  | no t ih => simp [ih]
  | sh h t ih => simp [ih]
  | ow h ht t ih => simp [ih]
  | on h ht t ih => simp [ih]
theorem RelS.sh_at (h : RelS K F α σ δ L) : ∀ {i : Nat} {d : Dv}, δ[i]? = some (.sh d) → ∃ v, σ[i]? = some (some v) ∧ Dd K F v d := by
  induction h with
  | nil => intro i d e; cases e
  | no t ih => intro i d e; cases i with
    | zero => cases e
    | succ i => exact ih (i := i) e
  | sh h t ih => intro i d e; cases i with
    | zero => cases e; exact ⟨_, rfl, h⟩
    | succ i => exact ih (i := i) e
  | ow h ht t ih => intro i d e; cases i with
    | zero => cases e
    | succ i => exact ih (i := i) e
  | on h ht t ih => intro i d e; cases i with
    | zero => cases e
    | succ i => exact ih (i := i) e
/-- a slot of one's own object: its place, what else may stand there -/
theorem RelS.ow_at (h : RelS K F α σ δ L) : ∀ {i : Nat} {t : Option Nat} {d : Dv}, δ[i]? = some (.ow t d) → ∃ a o L1 L2, L = L1 ++ (a, o) :: L2 ∧ σ[i]? = some (some (.ref a)) ∧ DO K F o d ∧ (∀ k, t = some k → a = α k) ∧
    (∀ F' o' d', Le F F' → DO K F' o' d' → RelS K F' α σ (δ.set i (.ow t d')) (L1 ++ (a, o') :: L2)) ∧ (∀ F' d', Le F F' → Dd K F' (.ref a) d' → RelS K F' α σ (δ.set i (.sh d')) (L1 ++ L2)) ∧ ∀ F', Le F F' → RelS K F' α σ (δ.set i .no) (L1 ++ L2) := by
  induction h with
  | nil => intro i t d e; cases e
  | no r ih =>
    intro i t d e
    cases i with
    | zero => cases e
    | succ i =>
      obtain ⟨a, o, L1, L2, e1, e2, h1, h2, k1, k2, k3⟩ := ih (i := i) e
      exact ⟨a, o, L1, L2, e1, e2, h1, h2, fun F' o' d' l q => .no (k1 F' o' d' l q), fun F' d' l q => .no (k2 F' d' l q), fun F' l => .no (k3 F' l)⟩
  | sh h r ih =>
    intro i t d e
    cases i with
    | zero => cases e
    | succ i =>
      obtain ⟨a, o, L1, L2, e1, e2, h1, h2, k1, k2, k3⟩ := ih (i := i) e
      exact ⟨a, o, L1, L2, e1, e2, h1, h2, fun F' o' d' l q => .sh (h.mono l) (k1 F' o' d' l q), fun F' d' l q => .sh (h.mono l) (k2 F' d' l q), fun F' l => .sh (h.mono l) (k3 F' l)⟩
  | @ow a o d0 t0 σ δ L h ht r ih =>
    intro i t d e
    cases i with
    | zero =>
      cases e
      exact ⟨a, o, [], L, rfl, rfl, h, ht, fun F' o' d' l q => .ow q ht (r.mono l), fun F' d' l q => .sh q (r.mono l), fun F' l => .no (r.mono l)⟩
    | succ i =>
      obtain ⟨b, o1, L1, L2, e1, e2, h1, h2, k1, k2, k3⟩ := ih (i := i) e
      exact ⟨b, o1, (a, o) :: L1, L2, by rw [e1]; rfl, e2, h1, h2, fun F' o' d' l q => .ow (h.mono l) ht (k1 F' o' d' l q), fun F' d' l q => .ow (h.mono l) ht (k2 F' d' l q), fun F' l => .ow (h.mono l) ht (k3 F' l)⟩
  | @on v s0 d0 t0 σ δ M L h ht r ih =>
    intro i t d e
    cases i with
    | zero => cases e
    | succ i =>
      obtain ⟨b, o1, L1, L2, e1, e2, h1, h2, k1, k2, k3⟩ := ih (i := i) e
      refine ⟨b, o1, M ++ L1, L2, by rw [e1, List.append_assoc], e2, h1, h2, fun F' o' d' l q => ?_, fun F' d' l q => ?_, fun F' l => ?_⟩
      · rw [List.append_assoc]; exact .on (h.mono l) ht (k1 F' o' d' l q)
      · rw [List.append_assoc]; exact .on (h.mono l) ht (k2 F' d' l q)
      · rw [List.append_assoc]; exact .on (h.mono l) ht (k3 F' l)
/-- a slot of one's own tree: its value, what else may stand there -/
theorem RelS.on_at (h : RelS K F α σ δ L) : ∀ {i : Nat} {t : Option Nat} {s : Sh} {d : Dv}, δ[i]? = some (.on t s d) → ∃ v M L1 L2, L = L1 ++ (M ++ L2) ∧ σ[i]? = some (some v) ∧ DN K F α s M v d ∧ (∀ k, t = some k → v = .ref (α k)) ∧
    (∀ F' M' s' d', Le F F' → DN K F' α s' M' v d' → RelS K F' α σ (δ.set i (.on t s' d')) (L1 ++ (M' ++ L2))) ∧ (∀ F' d', Le F F' → Dd K F' v d' → RelS K F' α σ (δ.set i (.sh d')) (L1 ++ L2)) ∧ (∀ F', Le F F' → RelS K F' α σ (δ.set i .no) (L1 ++ L2)) ∧
    (∀ F' a o d', Le F F' → v = .ref a → DO K F' o d' → RelS K F' α σ (δ.set i (.ow t d')) (L1 ++ ((a, o) :: L2))) := by
  induction h with
  | nil => intro i t s d e; cases e
  | no r ih =>
    intro i t s d e
    cases i with
    | zero => cases e
    | succ i =>
      obtain ⟨v, M, L1, L2, e1, e2, h1, h2, k1, k2, k3, k4⟩ := ih (i := i) e
      exact ⟨v, M, L1, L2, e1, e2, h1, h2, fun F' M' s' d' l q => .no (k1 F' M' s' d' l q), fun F' d' l q => .no (k2 F' d' l q), fun F' l => .no (k3 F' l), fun F' a o d' l q w => .no (k4 F' a o d' l q w)⟩
  | sh h r ih =>
    intro i t s d e
    cases i with
    | zero => cases e
    | succ i =>
      obtain ⟨v, M, L1, L2, e1, e2, h1, h2, k1, k2, k3, k4⟩ := ih (i := i) e
      exact ⟨v, M, L1, L2, e1, e2, h1, h2, fun F' M' s' d' l q => .sh (h.mono l) (k1 F' M' s' d' l q), fun F' d' l q => .sh (h.mono l) (k2 F' d' l q), fun F' l => .sh (h.mono l) (k3 F' l), fun F' a o d' l q w => .sh (h.mono l) (k4 F' a o d' l q w)⟩
  | @ow a o d0 t0 σ δ L h ht r ih =>
    intro i t s d e
    cases i with
    | zero => cases e
    | succ i =>
      obtain ⟨v, M, L1, L2, e1, e2, h1, h2, k1, k2, k3, k4⟩ := ih (i := i) e
      exact ⟨v, M, (a, o) :: L1, L2, by rw [e1]; rfl, e2, h1, h2, fun F' M' s' d' l q => .ow (h.mono l) ht (k1 F' M' s' d' l q), fun F' d' l q => .ow (h.mono l) ht (k2 F' d' l q), fun F' l => .ow (h.mono l) ht (k3 F' l), fun F' a o d' l q w => .ow (h.mono l) ht (k4 F' a o d' l q w)⟩
  | @on w s0 d0 t0 σ δ M0 L h ht r ih =>
    intro i t s d e
    cases i with
    | zero =>
      cases e
      exact ⟨w, M0, [], L, rfl, rfl, h, ht, fun F' M' s' d' l q => RelS.on (M := M') (L := L) q ht (r.mono l), fun F' d' l q => .sh q (r.mono l), fun F' l => .no (r.mono l), fun F' a o d' l q w => by
        subst q
        exact .ow w (fun k e => by have := ht k e; injection this) (r.mono l)⟩
    | succ i =>
      obtain ⟨v, M, L1, L2, e1, e2, h1, h2, k1, k2, k3, k4⟩ := ih (i := i) e
      refine ⟨v, M, M0 ++ L1, L2, by rw [e1, List.append_assoc], e2, h1, h2, fun F' M' s' d' l q => ?_, fun F' d' l q => ?_, fun F' l => ?_, fun F' a o d' l q w => ?_⟩
      · rw [List.append_assoc]; exact .on (h.mono l) ht (k1 F' M' s' d' l q)
      · rw [List.append_assoc]; exact .on (h.mono l) ht (k2 F' d' l q)
      · rw [List.append_assoc]; exact .on (h.mono l) ht (k3 F' l)
      · rw [List.append_assoc]; exact .on (h.mono l) ht (k4 F' a o d' l q w)
/-- a slot is forgotten -/
theorem RelS.kill (h : RelS K F α σ δ L) (i : Nat) : ∃ L', L'.Sublist L ∧ RelS K F α σ (δ.set i .no) L' := by
  induction h generalizing i with
  | nil => exact ⟨[], List.Sublist.refl _, .nil⟩
  | no t ih => cases i with
    | zero => exact ⟨_, List.Sublist.refl _, .no t⟩
    | succ i => obtain ⟨L', s, r⟩ := ih i; exact ⟨L', s, .no r⟩
  | sh h t ih => cases i with
    | zero => exact ⟨_, List.Sublist.refl _, .no t⟩
    | succ i => obtain ⟨L', s, r⟩ := ih i; exact ⟨L', s, .sh h r⟩
  | ow h ht t ih => cases i with
    | zero => exact ⟨_, List.sublist_cons_self _ _, .no t⟩
    | succ i => obtain ⟨L', s, r⟩ := ih i; exact ⟨_, .cons₂ _ s, .ow h ht r⟩
  | on h ht t ih => cases i with
    | zero => exact ⟨_, List.sublist_append_right _ _, .no t⟩
    | succ i => obtain ⟨L', s, r⟩ := ih i; exact ⟨_, (List.Sublist.refl _).append s, .on h ht r⟩
theorem RelS.set_no (h : RelS K F α σ δ L) (i : Nat) (x : Option V) (e : δ[i]? = some .no ∨ δ.length ≤ i) : RelS K F α (σ.set i x) δ L := by
  induction h generalizing i with
  | nil => exact .nil
  | no t ih => cases i with
    | zero => exact .no t
    | succ i => exact .no (ih i (e.imp id fun q => by simpa using q))
  | sh h t ih => cases i with
    | zero => rcases e with e | e
              · cases e
              · simp at e
    | succ i => exact .sh h (ih i (e.imp id fun q => by simpa using q))
  | ow h ht t ih => cases i with
    | zero => rcases e with e | e
              · cases e
              · simp at e
    | succ i => exact .ow h ht (ih i (e.imp id fun q => by simpa using q))
  | on h ht t ih => cases i with
    | zero => rcases e with e | e
              · cases e
              · simp at e
    | succ i => exact .on h ht (ih i (e.imp id fun q => by simpa using q))
theorem RelS.put_sh (h : RelS K F α σ δ L) {i : Nat} {v : V} {d : Dv} (e : δ[i]? = some .no) (r : Dd K F v d) : RelS K F α (σ.set i (some v)) (δ.set i (.sh d)) L := by
  induction h generalizing i with
  | nil => cases e
  | no t ih => cases i with
    | zero => exact .sh r t
    | succ i => exact .no (ih (i := i) e)
  | sh h t ih => cases i with
    | zero => cases e
    | succ i => exact .sh h (ih (i := i) e)
  | ow h ht t ih => cases i with
    | zero => cases e
    | succ i => exact .ow h ht (ih (i := i) e)
  | on h ht t ih => cases i with
    | zero => cases e
    | succ i => exact .on h ht (ih (i := i) e)
theorem RelS.put_ow (h : RelS K F α σ δ L) {i : Nat} {a : Addr} {o : HO} {d : Dv} (e : δ[i]? = some .no) (r : DO K F o d) : ∃ L', L'.Perm ((a, o) :: L) ∧ RelS K F α (σ.set i (some (.ref a))) (δ.set i (.ow none d)) L' := by
  induction h generalizing i with
  | nil => cases e
  | no t ih => cases i with
    | zero => exact ⟨_, List.Perm.refl _, .ow r (fun _ z => nomatch z) t⟩
    | succ i => obtain ⟨L', p, q⟩ := ih (i := i) e; exact ⟨L', p, .no q⟩
  | sh h t ih => cases i with
    | zero => cases e
    | succ i => obtain ⟨L', p, q⟩ := ih (i := i) e; exact ⟨L', p, .sh h q⟩
  | ow h ht t ih => cases i with
    | zero => cases e
    | succ i =>
      obtain ⟨L', p, q⟩ := ih (i := i) e
      exact ⟨_, (p.cons _).trans (List.Perm.swap _ _ _), .ow h ht q⟩
  | @on w s0 d0 t0 σ δ M0 L h ht t ih => cases i with
    | zero => cases e
    | succ i =>
      obtain ⟨L', p, q⟩ := ih (i := i) e
      exact ⟨_, (List.Perm.append (List.Perm.refl _) p).trans List.perm_middle, .on h ht q⟩
theorem RelS.put_on (h : RelS K F α σ δ L) {i : Nat} {v : V} {M : List (Addr × HO)} {s : Sh} {d : Dv} (e : δ[i]? = some .no) (r : DN K F α s M v d) : ∃ L', L'.Perm (M ++ L) ∧ RelS K F α (σ.set i (some v)) (δ.set i (.on none s d)) L' := by
  induction h generalizing i with
  | nil => cases e
  | no t ih => cases i with
    | zero => exact ⟨_, List.Perm.refl _, .on r (fun _ z => nomatch z) t⟩
    | succ i => obtain ⟨L', p, q⟩ := ih (i := i) e; exact ⟨L', p, .no q⟩
  | sh h t ih => cases i with
    | zero => cases e
    | succ i => obtain ⟨L', p, q⟩ := ih (i := i) e; exact ⟨L', p, .sh h q⟩
  | ow h ht t ih => cases i with
    | zero => cases e
    | succ i =>
      obtain ⟨L', p, q⟩ := ih (i := i) e
      exact ⟨_, (p.cons _).trans List.perm_middle.symm, .ow h ht q⟩
  | @on w s0 d0 t0 σ δ M0 L h ht t ih => cases i with
    | zero => cases e
    | succ i =>
      obtain ⟨L', p, q⟩ := ih (i := i) e
      refine ⟨_, ?_, .on h ht q⟩
      refine (List.Perm.append (List.Perm.refl M0) p).trans ?_
      rw [← List.append_assoc, ← List.append_assoc]
      exact List.Perm.append List.perm_append_comm (List.Perm.refl _)
theorem set_set {β : Type} (l : List β) (i : Nat) (x y : β) : (l.set i x).set i y = l.set i y := List.set_set ..
theorem RelS.set_sh (h : RelS K F α σ δ L) {i : Nat} {v : V} {d : Dv} (r : Dd K F v d) : ∃ L', L'.Sublist L ∧ RelS K F α (σ.set i (some v)) (δ.set i (.sh d)) L' := by
  obtain ⟨L', s, q⟩ := h.kill i
  refine ⟨L', s, ?_⟩
  by_cases hi : i < δ.length
  · have := q.put_sh (i := i) (v := v) (d := d) (by simp [hi]) r
    rwa [set_set] at this
  · have e1 : δ.set i (.sh d) = δ := by rw [List.set_eq_of_length_le (by omega)]
    have e2 : σ.set i (some v) = σ := by rw [List.set_eq_of_length_le (by have := h.len; omega)]
    have e3 : δ.set i .no = δ := by rw [List.set_eq_of_length_le (by omega)]
    rw [e1, e2]; rwa [e3] at q
theorem RelS.set_ow (h : RelS K F α σ δ L) {i : Nat} {a : Addr} {o : HO} {d : Dv} (hi : i < δ.length) (r : DO K F o d) : ∃ L1 L', L1.Sublist L ∧ L'.Perm ((a, o) :: L1) ∧ RelS K F α (σ.set i (some (.ref a))) (δ.set i (.ow none d)) L' := by
  obtain ⟨L1, s, q⟩ := h.kill i
  obtain ⟨L', p, w⟩ := q.put_ow (i := i) (a := a) (o := o) (d := d) (by simp [hi]) r
  rw [set_set] at w
  exact ⟨L1, L', s, p, w⟩
end

theorem RelS.set_on {K : PySem.W.Frag} {F : Hp} {α : Nat → Addr} {σ : List (Option V)} {δ : List Sl} {L : List (Addr × HO)} (h : RelS K F α σ δ L) {i : Nat} {v : V} {M : List (Addr × HO)} {s : Sh} {d : Dv} (hi : i < δ.length) (r : DN K F α s M v d) : ∃ L1 L', L1.Sublist L ∧ L'.Perm (M ++ L1) ∧ RelS K F α (σ.set i (some v)) (δ.set i (.on none s d)) L' := by
  obtain ⟨L1, sl, q⟩ := h.kill i
  obtain ⟨L', p, w⟩ := q.put_on (i := i) (v := v) (M := M) (s := s) (d := d) (by simp [hi]) r
  rw [set_set] at w
  exact ⟨L1, L', sl, p, w⟩

/-! ### the ledger of a frame: what the slots own, ahead of the rest -/
section
variable {H F : Hp} {L L1 L2 L' R : List (Addr × HO)} {a : Addr} {o u : HO}
theorem Led.subA (D : Led H F (L ++ R)) (s : L'.Sublist L) : Led H F (L' ++ R) := FL.Led.sub D (s.append (List.Sublist.refl _))
theorem Led.permA (D : Led H F (L ++ R)) (s : L'.Perm L) : Led H F (L' ++ R) := FL.Led.perm D (s.append (List.Perm.refl _))
theorem Led.mid (D : Led H F (L1 ++ (a, o) :: L2)) : Led H F ((a, o) :: (L1 ++ L2)) := FL.Led.perm D List.perm_middle.symm
theorem Led.unmid (D : Led H F ((a, o) :: (L1 ++ L2))) : Led H F (L1 ++ (a, o) :: L2) := FL.Led.perm D List.perm_middle
theorem Led.wr (D : Led H F ((a, o) :: L)) : Led (upd H a u) F ((a, u) :: L) := FL.Led.set D 0
theorem Led.head (D : Led H F ((a, o) :: L)) : H a = some o := D.get 0
end

/-! ### an expression's value: data, or the object that a slot owns -/
inductive Rv where
  | dv (d : Dv) | al (i : Nat)
def Rv.get (δ : Env) : Rv → Option Dv
  | .dv d => some d
  | .al i => match δ[i]? with
    | some (.ow _ d) => some d
    | _ => none
def RvR (K : PySem.W.Frag) (F : Hp) (σ : L2.St) (v : V) : Rv → Prop
  | .dv d => Dd K F v d
  | .al i => σ[i]? = some (some v)
/-- v may be read as d: what is in it stays -/
def Dr (K : PySem.W.Frag) (H F : Hp) (v : V) (d : Dv) : Prop := Dd K F v d ∨ ∃ a o, v = .ref a ∧ H a = some o ∧ DO K F o d
theorem RvR.mono {K : PySem.W.Frag} {F F' : Hp} {σ : L2.St} {v : V} {r : Rv} (e : Le F F') (h : RvR K F σ v r) : RvR K F' σ v r := by
  cases r with
  | dv d => exact Dd.mono e h
  | al i => exact h
theorem RvR.dr {K : PySem.W.Frag} {H F : Hp} {α : Nat → Addr} {σ : L2.St} {δ : Env} {L R : List (Addr × HO)} {v : V} {r : Rv} {d : Dv} (D : Led H F (L ++ R)) (S : RelS K F α σ δ L) (h : RvR K F σ v r) (e : r.get δ = some d) : Dr K H F v d := by
  cases r with
  | dv d' => cases e; exact .inl h
  | al i =>
    unfold Rv.get at e
    simp only at e
    split at e
    · rename_i t d' q
      cases e
      obtain ⟨a, o, L1, L2, e1, e2, h1, -⟩ := S.ow_at q
      have h : σ[i]? = some (some v) := h
      rw [e2] at h
      cases h
      refine .inr ⟨a, o, rfl, ?_, h1⟩
      exact (D.ent (a, o) (by rw [e1]; simp)).1
    · cases e
section
variable {K : PySem.W.Frag} {H F : Hp} {L : List (Addr × HO)} {v : V}
theorem Dr.lst {ds : List Dv} (D : Led H F L) (h : Dr K H F v (.lst ds)) : ∃ a xs, v = .ref a ∧ H a = some (.lst xs) ∧ DdA K F xs ds := by
  rcases h with h | ⟨a, o, rfl, ha, h⟩
  · cases h with
    | lst h hs => exact ⟨_, _, rfl, D.ext _ _ h, hs⟩
  · cases h with
    | lst h => exact ⟨a, _, rfl, ha, h⟩
theorem Dr.scr {ns : List Int} (D : Led H F L) (h : Dr K H F v (.scr ns)) : ∃ a, v = .ref a ∧ SqL K H a (ns.map V.int) := by
  rcases h with h | ⟨a, o, rfl, ha, h⟩
  · cases h with
    | scr h => exact ⟨_, rfl, (Le.of D.ext).seq h⟩
  · cases h
theorem Dr.tup {ds : List Dv} (D : Led H F L) (h : Dr K H F v (.tup ds)) : ∃ a xs, v = .ref a ∧ H a = some (.tup xs) ∧ DdA K F xs ds := by
  rcases h with h | ⟨a, o, rfl, ha, h⟩
  · cases h with
    | tup h hs => exact ⟨_, _, rfl, D.ext _ _ h, hs⟩
  · cases h
theorem Dr.dct {ds : List (Key × Dv)} (D : Led H F L) (h : Dr K H F v (.dct ds)) : ∃ a kvs, v = .ref a ∧ Rd H a (.dK kvs) ∧ DdK K F kvs ds := by
  rcases h with h | ⟨a, o, rfl, ha, h⟩
  · cases h with
    | dct h hs => exact ⟨_, _, rfl, (Le.of D.ext).rd _ _ True.intro h, hs⟩
  · cases h with
    | dct h => exact ⟨a, _, rfl, .inl ha, h⟩
theorem Dr.int {i : Int} (h : Dr K H F v (.int i)) : v = .int i := by
  rcases h with h | ⟨a, o, rfl, ha, h⟩
  · cases h; rfl
  · cases h
theorem Dr.bl {i : Bool} (h : Dr K H F v (.bl i)) : v = .bl i := by
  rcases h with h | ⟨a, o, rfl, ha, h⟩
  · cases h; rfl
  · cases h
theorem Dr.str {i : Str} (h : Dr K H F v (.str i)) : v = .str i := by
  rcases h with h | ⟨a, o, rfl, ha, h⟩
  · cases h; rfl
  · cases h
theorem Dr.non (h : Dr K H F v .non) : v = .non := by
  rcases h with h | ⟨a, o, rfl, ha, h⟩
  · cases h; rfl
  · cases h
theorem Dr.dd {d : Dv} (D : Led H F L) (h : Dr K H F v d) : Dd K H v d := by
  rcases h with h | ⟨a, o, rfl, ha, h⟩
  · exact h.mono (Le.of D.ext)
  · exact DO.dd (h.mono (Le.of D.ext)) ha
end

/-! ### readings -/
/-- te reads as the function fe -/
def DE (K : PySem.W.Frag) (te : TE) (fe : Env → Option (Rv × Env)) : Prop :=
  ∀ (α : Nat → Addr) (σ : L2.St) (H F : Hp) (L R : List (Addr × HO)) (δ δ' : Env) (r : Rv) (Q : VK), Led H F (L ++ R) → RelS K F α σ δ L → fe δ = some (r, δ') →
    (∀ v H' F' L', Same F F' → Led H' F' (L' ++ R) → RelS K F' α σ δ' L' → RvR K F' σ v r → Q v H') → te σ H Q
/-- te makes a new object of the data fe -/
def DEO (K : PySem.W.Frag) (te : TE) (fe : Env → Option (Dv × Env)) : Prop :=
  ∀ (α : Nat → Addr) (σ : L2.St) (H F : Hp) (L R : List (Addr × HO)) (δ δ' : Env) (d : Dv) (Q : VK), Led H F (L ++ R) → RelS K F α σ δ L → fe δ = some (d, δ') →
    (∀ a o H' F' L', Same F F' → Led H' F' ((a, o) :: (L' ++ R)) → RelS K F' α σ δ' L' → DO K F' o d → Q (.ref a) H') → te σ H Q
def DA (K : PySem.W.Frag) (ta : TA) (fa : Env → Option (List Rv × Env)) : Prop :=
  ∀ (α : Nat → Addr) (σ : L2.St) (H F : Hp) (L R : List (Addr × HO)) (δ δ' : Env) (r : List Rv) (Q : List V → Hp → Prop), Led H F (L ++ R) → RelS K F α σ δ L → fa δ = some (r, δ') →
    (∀ vs H' F' L', Same F F' → Led H' F' (L' ++ R) → RelS K F' α σ δ' L' → Paired (RvR K F' σ) vs r → Q vs H') → ta σ H Q
def DT (K : PySem.W.Frag) (tt : TT) (ft : Env → Option (Bool × Env)) : Prop :=
  ∀ (α : Nat → Addr) (σ : L2.St) (H F : Hp) (L R : List (Addr × HO)) (δ δ' : Env) (b : Bool) (Q : Bool → Hp → Prop), Led H F (L ++ R) → RelS K F α σ δ L → ft δ = some (b, δ') →
    (∀ H' F' L', Same F F' → Led H' F' (L' ++ R) → RelS K F' α σ δ' L' → Q b H') → tt σ H Q
/-- the data alone -/
def got (fe : Env → Option (Rv × Env)) (δ : Env) : Option (Dv × Env) := match fe δ with
  | some (r, δ') => match r.get δ' with
    | some d => some (d, δ')
    | none => none
  | none => none
theorem got_some {fe : Env → Option (Rv × Env)} {δ δ' : Env} {d : Dv} (h : got fe δ = some (d, δ')) : ∃ r, fe δ = some (r, δ') ∧ r.get δ' = some d := by
  unfold got at h
  split at h
  · rename_i r δ1 e
    split at h
    · rename_i d1 e1
      cases h
      exact ⟨r, e, e1⟩
    · cases h
  · cases h
/-- read: te's value may be read as data -/
theorem DE.rd {K : PySem.W.Frag} {te : TE} {fe : Env → Option (Rv × Env)} (h : DE K te fe) {α : Nat → Addr} {σ : L2.St} {H F : Hp} {L R : List (Addr × HO)} {δ δ' : Env} {d : Dv} {Q : VK} (D : Led H F (L ++ R)) (S : RelS K F α σ δ L) (e : got fe δ = some (d, δ'))
    (q : ∀ v H' F' L', Same F F' → Led H' F' (L' ++ R) → RelS K F' α σ δ' L' → Dr K H' F' v d → Q v H') : te σ H Q := by
  obtain ⟨r, e1, e2⟩ := got_some e
  exact h α σ H F L R δ δ' r Q D S e1 fun v H' F' L' s D' S' rr => q v H' F' L' s D' S' (rr.dr D' S' e2)
section
variable {K : PySem.W.Frag}
def fVar (i : Nat) (δ : Env) : Option (Rv × Env) := match δ[i]? with
  | some (.sh d) => some (.dv d, δ)
  | some (.ow _ _) => some (.al i, δ)
  | _ => none
theorem de_var (i : Nat) : DE K (tVar i) (fVar i) := by
  intro α σ H F L R δ δ' r Q D S e q
  unfold fVar at e
  split at e
  · rename_i d h
    cases e
    obtain ⟨v, e1, r⟩ := S.sh_at h
    exact ⟨v, e1, q v H F L (Same.refl _) D S r⟩
  · rename_i t d h
    cases e
    obtain ⟨a, o, L1, L2, e1, e2, -⟩ := S.ow_at h
    exact ⟨.ref a, e2, q _ H F L (Same.refl _) D S e2⟩
  · cases e
/-- constants -/
inductive IsC : V → Dv → Prop
  | non : IsC .non .non
  | bl (b : Bool) : IsC (.bl b) (.bl b)
  | int (i : Int) : IsC (.int i) (.int i)
  | str (x : Str) : IsC (.str x) (.str x)
theorem IsC.dd {v : V} {d : Dv} {F : Hp} (h : IsC v d) : Dd K F v d := by
  cases h with
  | non => exact .non
  | bl b => exact .bl b
  | int i => exact .int i
  | str x => exact .str x
def fC (d : Dv) (δ : Env) : Option (Rv × Env) := some (.dv d, δ)
theorem de_c {v : V} {d : Dv} (h : IsC v d) : DE K (tC v) (fC d) := by
  intro α σ H F L R δ δ' r Q D S e q
  cases e
  exact q v H F L (Same.refl _) D S h.dd
/-! operators -/
def R2D (K : PySem.W.Frag) (r : R2) (op : Dv → Dv → Option Dv) : Prop := ∀ (H F : Hp) (L : List (Addr × HO)) (x y : V) (a b d : Dv) (Q : VK), Led H F L → Dr K H F x a → Dr K H F y b → op a b = some d →
  (∀ v H' F', Same F F' → Led H' F' L → Dd K F' v d → Q v H') → r x y H Q
def fOp (op : Dv → Dv → Option Dv) (fa fb : Env → Option (Rv × Env)) (δ : Env) : Option (Rv × Env) := match fa δ with
  | some (r, δ1) => match fb δ1 with
    | some (s, δ2) => match r.get δ2, s.get δ2 with
      | some a, some b => match op a b with
        | some d => some (.dv d, δ2)
        | none => none
      | _, _ => none
    | none => none
  | none => none
theorem de_op {r : R2} {op : Dv → Dv → Option Dv} {ta tb : TE} {fa fb : Env → Option (Rv × Env)} (hr : R2D K r op) (ha : DE K ta fa) (hb : DE K tb fb) : DE K (tOp r ta tb) (fOp op fa fb) := by
  intro α σ H F L R δ δ' rr Q D S e q
  unfold fOp at e
  split at e
  · rename_i r1 δ1 e1
    split at e
    · rename_i r2 δ2 e2
      split at e
      · rename_i a b g1 g2
        split at e
        · rename_i d e3
          cases e
          refine ha α σ H F L R δ δ1 r1 _ D S e1 fun x H1 F1 L1 s1 D1 S1 R1 => ?_
          refine hb α σ H1 F1 L1 R δ1 _ r2 _ D1 S1 e2 fun y H2 F2 L2 s2 D2 S2 R2 => ?_
          refine hr H2 F2 _ x y a b d Q D2 ((R1.mono (Le.of s2)).dr D2 S2 g1) (R2.dr D2 S2 g2) e3 fun v H3 F3 s3 D3 dv => ?_
          exact q v H3 F3 L2 (s1.trans (s2.trans s3)) D3 (S2.mono (Le.of s3)) dv
        · cases e
      · cases e
    · cases e
  · cases e
end
end FD
namespace FD
open PySem PySem.Spec PyProof.Rows L2 FL
section
variable {K : PySem.W.Frag}

/-! ### what is made new, left as it is -/
def fZ (fo : Env → Option (Dv × Env)) (δ : Env) : Option (Rv × Env) := match fo δ with
  | some (d, δ') => some (.dv d, δ')
  | none => none
theorem DEO.frz {te : TE} {fo : Env → Option (Dv × Env)} (h : DEO K te fo) : DE K te (fZ fo) := by
  intro α σ H F L R δ δ' r Q D S e q
  unfold fZ at e
  split at e
  · rename_i d δ1 e1
    cases e
    refine h α σ H F L R δ _ d Q D S e1 fun a o H' F' L' s D' S' h' => ?_
    have g := D'.grow
    exact q _ H' (upd F' a o) L' (s.trans g) D'.freeze (S'.mono (Le.of g)) ((h'.mono (Le.of g)).dd upd_same)
  · cases e
/-! ### arguments -/
def aNil (δ : Env) : Option (List Rv × Env) := some ([], δ)
def aCons (fe : Env → Option (Rv × Env)) (fa : Env → Option (List Rv × Env)) (δ : Env) : Option (List Rv × Env) := match fe δ with
  | some (r, δ1) => match fa δ1 with
    | some (rs, δ2) => some (r :: rs, δ2)
    | none => none
  | none => none
theorem da_nil : DA K tNil aNil := by
  intro α σ H F L R δ δ' r Q D S e q
  cases e
  exact q [] H F L (Same.refl _) D S .nil
theorem paired_mono {F F' : Hp} {σ : L2.St} (e : Le F F') : ∀ {vs : List V} {rs : List Rv}, Paired (RvR K F σ) vs rs → Paired (RvR K F' σ) vs rs
  | _, _, .nil => .nil
  | _, _, .cons h t => .cons (h.mono e) (paired_mono e t)
theorem da_cons {te : TE} {ta : TA} {fe : Env → Option (Rv × Env)} {fa : Env → Option (List Rv × Env)} (he : DE K te fe) (ha : DA K ta fa) : DA K (tCons te ta) (aCons fe fa) := by
  intro α σ H F L R δ δ' r Q D S e q
  unfold aCons at e
  split at e
  · rename_i r1 δ1 e1
    split at e
    · rename_i rs δ2 e2
      cases e
      refine he α σ H F L R δ δ1 r1 _ D S e1 fun x H1 F1 L1 s1 D1 S1 R1 => ?_
      refine ha α σ H1 F1 L1 R δ1 _ rs _ D1 S1 e2 fun xs H2 F2 L2 s2 D2 S2 R2 => ?_
      exact q _ H2 F2 L2 (s1.trans s2) D2 S2 (.cons (R1.mono (Le.of s2)) R2)
    · cases e
  · cases e
def rvData : List Rv → Option (List Dv)
  | [] => some []
  | .dv d :: r => match rvData r with
    | some ds => some (d :: ds)
    | none => none
  | .al _ :: _ => none
theorem rvData_dda {F : Hp} {σ : L2.St} : ∀ {vs : List V} {rs : List Rv} {ds : List Dv}, Paired (RvR K F σ) vs rs → rvData rs = some ds → DdA K F vs ds
  | _, _, _, .nil, e => by cases e; exact .nil
  | _, .dv d :: rs, ds, .cons h t, e => by
    unfold rvData at e
    split at e
    · rename_i ds' e'
      cases e
      exact .cons h (rvData_dda t e')
    · cases e
  | _, .al _ :: rs, ds, .cons h t, e => by cases e
/-! ### displays -/
def oLst (fa : Env → Option (List Rv × Env)) (δ : Env) : Option (Dv × Env) := match fa δ with
  | some (rs, δ') => match rvData rs with
    | some ds => if ds.length ≤ 1000 then some (.lst ds, δ') else none
    | none => none
  | none => none
theorem do_lst {ta : TA} {fa : Env → Option (List Rv × Env)} (ha : DA K ta fa) : DEO K (tLst ta) (oLst fa) := by
  intro α σ H F L R δ δ' r Q D S e q
  unfold oLst at e
  split at e
  · rename_i rs δ1 e1
    split at e
    · rename_i ds e2
      split at e
      · rename_i hl
        cases e
        refine ha α σ H F L R δ _ rs _ D S e1 fun vs H' F' L' s D' S' R' => ?_
        have hd := rvData_dda R' e2
        exact ⟨by rw [hd.len]; exact le_line (by omega), fun p np => q p _ _ F' L' s (D'.new np) S' (.lst hd)⟩
      · cases e
    · cases e
  · cases e
def fTup (fa : Env → Option (List Rv × Env)) (δ : Env) : Option (Rv × Env) := match fa δ with
  | some (rs, δ') => match rvData rs with
    | some ds => if ds.length ≤ 1000 then some (.dv (.tup ds), δ') else none
    | none => none
  | none => none
theorem de_tup {ta : TA} {fa : Env → Option (List Rv × Env)} (ha : DA K ta fa) : DE K (tTup ta) (fTup fa) := by
  intro α σ H F L R δ δ' r Q D S e q
  unfold fTup at e
  split at e
  · rename_i rs δ1 e1
    split at e
    · rename_i ds e2
      split at e
      · rename_i hl
        cases e
        refine ha α σ H F L R δ _ rs _ D S e1 fun vs H' F' L' s D' S' R' => ?_
        have hd := rvData_dda R' e2
        refine ⟨by rw [hd.len]; exact le_line (by omega), fun p np => ?_⟩
        have D1 := D'.new (o := .tup vs) np
        have g := D1.grow
        exact q _ _ _ L' (s.trans g) D1.freeze (S'.mono (Le.of g)) (.tup upd_same (hd.mono (Le.of g)))
      · cases e
    · cases e
  · cases e
/-! ### bools and tests -/
def fAndV (fa fb : Env → Option (Rv × Env)) (δ : Env) : Option (Rv × Env) := match got fa δ with
  | some (.bl true, δ1) => fb δ1
  | some (.bl false, δ1) => some (.dv (.bl false), δ1)
  | _ => none
def fOrV (fa fb : Env → Option (Rv × Env)) (δ : Env) : Option (Rv × Env) := match got fa δ with
  | some (.bl true, δ1) => some (.dv (.bl true), δ1)
  | some (.bl false, δ1) => fb δ1
  | _ => none
def fNotV (fa : Env → Option (Rv × Env)) (δ : Env) : Option (Rv × Env) := match got fa δ with
  | some (.bl b, δ1) => some (.dv (.bl (!b)), δ1)
  | _ => none
theorem de_and {ta tb : TE} {fa fb : Env → Option (Rv × Env)} (ha : DE K ta fa) (hb : DE K tb fb) : DE K (tAndV ta tb) (fAndV fa fb) := by
  intro α σ H F L R δ δ' r Q D S e q
  unfold fAndV at e
  split at e
  · rename_i δ1 e1
    refine ha.rd D S e1 fun v H' F' L' s D' S' dr => ?_
    rw [dr.bl]
    refine ⟨true, rfl, iteT ?_⟩
    exact hb α σ H' F' L' R δ1 δ' r Q D' S' e fun v H2 F2 L2 s2 => q v H2 F2 L2 (s.trans s2)
  · rename_i δ1 e1
    cases e
    refine ha.rd D S e1 fun v H' F' L' s D' S' dr => ?_
    rw [dr.bl]
    exact ⟨false, rfl, iteF (q _ H' F' L' s D' S' (.bl false))⟩
  · cases e
theorem de_or {ta tb : TE} {fa fb : Env → Option (Rv × Env)} (ha : DE K ta fa) (hb : DE K tb fb) : DE K (tOrV ta tb) (fOrV fa fb) := by
  intro α σ H F L R δ δ' r Q D S e q
  unfold fOrV at e
  split at e
  · rename_i δ1 e1
    cases e
    refine ha.rd D S e1 fun v H' F' L' s D' S' dr => ?_
    rw [dr.bl]
    exact ⟨true, rfl, iteT (q _ H' F' L' s D' S' (.bl true))⟩
  · rename_i δ1 e1
    refine ha.rd D S e1 fun v H' F' L' s D' S' dr => ?_
    rw [dr.bl]
    refine ⟨false, rfl, iteF ?_⟩
    exact hb α σ H' F' L' R δ1 δ' r Q D' S' e fun v H2 F2 L2 s2 => q v H2 F2 L2 (s.trans s2)
  · cases e
theorem de_not {ta : TE} {fa : Env → Option (Rv × Env)} (ha : DE K ta fa) : DE K (tNotV ta) (fNotV fa) := by
  intro α σ H F L R δ δ' r Q D S e q
  unfold fNotV at e
  split at e
  · rename_i b δ1 e1
    cases e
    refine ha.rd D S e1 fun v H' F' L' s D' S' dr => ?_
    rw [dr.bl]
    exact ⟨b, rfl, q _ H' F' L' s D' S' (.bl _)⟩
  · cases e
def tstB (fe : Env → Option (Rv × Env)) (δ : Env) : Option (Bool × Env) := match got fe δ with
  | some (.bl b, δ1) => some (b, δ1)
  | _ => none
theorem dt_b {te : TE} {fe : Env → Option (Rv × Env)} (h : DE K te fe) : DT K (tB te) (tstB fe) := by
  intro α σ H F L R δ δ' b Q D S e q
  unfold tstB at e
  split at e
  · rename_i b δ1 e1
    cases e
    refine h.rd D S e1 fun v H' F' L' s D' S' dr => ?_
    rw [dr.bl]
    exact ⟨b, rfl, q H' F' L' s D' S'⟩
  · cases e
theorem dt_test {te : TE} {fe : Env → Option (Rv × Env)} (h : DE K te fe) : DT K (tTest te) (tstB fe) := dt_b h
def tstNot (ft : Env → Option (Bool × Env)) (δ : Env) : Option (Bool × Env) := match ft δ with
  | some (b, δ1) => some (!b, δ1)
  | none => none
theorem dt_not {t : TT} {ft : Env → Option (Bool × Env)} (h : DT K t ft) : DT K (tNot t) (tstNot ft) := by
  intro α σ H F L R δ δ' b Q D S e q
  unfold tstNot at e
  split at e
  · rename_i b δ1 e1
    cases e
    exact h α σ H F L R δ _ b _ D S e1 fun H' F' L' s D' S' => q H' F' L' s D' S'
  · cases e
def tstAnd (ft fu : Env → Option (Bool × Env)) (δ : Env) : Option (Bool × Env) := match ft δ with
  | some (true, δ1) => fu δ1
  | some (false, δ1) => some (false, δ1)
  | none => none
def tstOr (ft fu : Env → Option (Bool × Env)) (δ : Env) : Option (Bool × Env) := match ft δ with
  | some (true, δ1) => some (true, δ1)
  | some (false, δ1) => fu δ1
  | none => none
theorem dt_and {t u : TT} {ft fu : Env → Option (Bool × Env)} (h : DT K t ft) (k : DT K u fu) : DT K (tAnd t u) (tstAnd ft fu) := by
  intro α σ H F L R δ δ' b Q D S e q
  unfold tstAnd at e
  split at e
  · rename_i δ1 e1
    refine h α σ H F L R δ δ1 true _ D S e1 fun H' F' L' s D' S' => iteT ?_
    exact k α σ H' F' L' R δ1 δ' b Q D' S' e fun H2 F2 L2 s2 => q H2 F2 L2 (s.trans s2)
  · rename_i δ1 e1
    cases e
    exact h α σ H F L R δ _ false _ D S e1 fun H' F' L' s D' S' => iteF (q H' F' L' s D' S')
  · cases e
theorem dt_or {t u : TT} {ft fu : Env → Option (Bool × Env)} (h : DT K t ft) (k : DT K u fu) : DT K (tOr t u) (tstOr ft fu) := by
  intro α σ H F L R δ δ' b Q D S e q
  unfold tstOr at e
  split at e
  · rename_i δ1 e1
    cases e
    exact h α σ H F L R δ _ true _ D S e1 fun H' F' L' s D' S' => iteT (q H' F' L' s D' S')
  · rename_i δ1 e1
    refine h α σ H F L R δ δ1 false _ D S e1 fun H' F' L' s D' S' => iteF ?_
    exact k α σ H' F' L' R δ1 δ' b Q D' S' e fun H2 F2 L2 s2 => q H2 F2 L2 (s.trans s2)
  · cases e
def fIfE (ft : Env → Option (Bool × Env)) (fa fb : Env → Option (Rv × Env)) (δ : Env) : Option (Rv × Env) := match ft δ with
  | some (true, δ1) => fa δ1
  | some (false, δ1) => fb δ1
  | none => none
theorem de_if {t : TT} {ta tb : TE} {ft : Env → Option (Bool × Env)} {fa fb : Env → Option (Rv × Env)} (h : DT K t ft) (ha : DE K ta fa) (hb : DE K tb fb) : DE K (tIf t ta tb) (fIfE ft fa fb) := by
  intro α σ H F L R δ δ' r Q D S e q
  unfold fIfE at e
  split at e
  · rename_i δ1 e1
    refine h α σ H F L R δ δ1 true _ D S e1 fun H' F' L' s D' S' => iteT ?_
    exact ha α σ H' F' L' R δ1 δ' r Q D' S' e fun v H2 F2 L2 s2 => q v H2 F2 L2 (s.trans s2)
  · rename_i δ1 e1
    refine h α σ H F L R δ δ1 false _ D S e1 fun H' F' L' s D' S' => iteF ?_
    exact hb α σ H' F' L' R δ1 δ' r Q D' S' e fun v H2 F2 L2 s2 => q v H2 F2 L2 (s.trans s2)
  · cases e
/-- a < b < c -/
def fChain (op op' : Dv → Dv → Option Dv) (fa fb fc : Env → Option (Rv × Env)) (δ : Env) : Option (Rv × Env) := match fa δ with
  | some (r, δ1) => match fb δ1 with
    | some (s, δ2) => match r.get δ2, s.get δ2 with
      | some a, some b => match op a b with
        | some (.bl true) => match fc δ2 with
          | some (t, δ3) => match s.get δ3, t.get δ3 with
            | some b', some c => match op' b' c with
              | some d => some (.dv d, δ3)
              | none => none
            | _, _ => none
          | none => none
        | some (.bl false) => some (.dv (.bl false), δ2)
        | _ => none
      | _, _ => none
    | none => none
  | none => none
theorem de_chain {r r' : R2} {op op' : Dv → Dv → Option Dv} {ta tb tc : TE} {fa fb fc : Env → Option (Rv × Env)} (hr : R2D K r op) (hr' : R2D K r' op') (ha : DE K ta fa) (hb : DE K tb fb) (hc : DE K tc fc) : DE K (tChain r r' ta tb tc) (fChain op op' fa fb fc) := by
  intro α σ H F L R δ δ' rr Q D S e q
  unfold fChain at e
  split at e
  · rename_i r1 δ1 e1
    split at e
    · rename_i r2 δ2 e2
      split at e
      · rename_i a b g1 g2
        split at e
        · rename_i e3
          split at e
          · rename_i r3 δ3 e4
            split at e
            · rename_i b' c g3 g4
              split at e
              · rename_i d e5
                cases e
                refine ha α σ H F L R δ δ1 r1 _ D S e1 fun x H1 F1 L1 s1 D1 S1 R1 => ?_
                refine hb α σ H1 F1 L1 R δ1 _ r2 _ D1 S1 e2 fun y H2 F2 L2 s2 D2 S2 R2 => ?_
                refine hr H2 F2 _ x y a b _ _ D2 ((R1.mono (Le.of s2)).dr D2 S2 g1) (R2.dr D2 S2 g2) e3 fun v H3 F3 s3 D3 dv => ?_
                have dv' : Dr K H3 F3 v (.bl true) := .inl dv
                rw [dv'.bl]
                refine ⟨true, rfl, iteT ?_⟩
                refine hc α σ H3 F3 L2 R δ2 _ r3 _ D3 (S2.mono (Le.of s3)) e4 fun z H4 F4 L4 s4 D4 S4 R4 => ?_
                refine hr' H4 F4 _ y z b' c d Q D4 ((R2.mono (Le.of (s3.trans s4))).dr D4 S4 g3) (R4.dr D4 S4 g4) e5 fun v H5 F5 s5 D5 dv => ?_
                exact q v H5 F5 L4 (s1.trans (s2.trans (s3.trans (s4.trans s5)))) D5 (S4.mono (Le.of s5)) dv
              · cases e
            · cases e
          · cases e
        · rename_i e3
          cases e
          refine ha α σ H F L R δ δ1 r1 _ D S e1 fun x H1 F1 L1 s1 D1 S1 R1 => ?_
          refine hb α σ H1 F1 L1 R δ1 _ r2 _ D1 S1 e2 fun y H2 F2 L2 s2 D2 S2 R2 => ?_
          refine hr H2 F2 _ x y a b _ _ D2 ((R1.mono (Le.of s2)).dr D2 S2 g1) (R2.dr D2 S2 g2) e3 fun v H3 F3 s3 D3 dv => ?_
          have dv' : Dr K H3 F3 v (.bl false) := .inl dv
          rw [dv'.bl]
          exact ⟨false, rfl, iteF (q _ H3 F3 L2 (s1.trans (s2.trans s3)) D3 (S2.mono (Le.of s3)) (.bl false))⟩
        · cases e
      · cases e
    · cases e
  · cases e
end
end FD
namespace FD
open PySem PySem.Spec PyProof.Rows L2 FL
section
variable {K : PySem.W.Frag}
/-! ### operators -/
def oAdd : Dv → Dv → Option Dv
  | .int a, .int b => some (.int (a + b))
  | .str a, .str b => if a.length + b.length ≤ 1000000 then some (.str (a ++ b)) else none
  | _, _ => none
def oCat : Dv → Dv → Option Dv
  | .lst a, .lst b => if a.length + b.length ≤ 1000000 then some (.lst (a ++ b)) else none
  | _, _ => none
def oRep : Dv → Dv → Option Dv
  | .lst a, .int b => if b.natAbs ≤ 1000000 ∧ a.length * b.toNat ≤ 1000000 then some (.lst (List.replicate b.toNat a).flatten) else none
  | _, _ => none
def oSub : Dv → Dv → Option Dv
  | .int a, .int b => some (.int (a - b))
  | _, _ => none
def oMul : Dv → Dv → Option Dv
  | .int a, .int b => if a.natAbs.log2 < 20000 ∧ b.natAbs.log2 < 20000 then some (.int (a * b)) else none
  | _, _ => none
def oFdv : Dv → Dv → Option Dv
  | .int a, .int b => if 0 < b ∧ b.natAbs.log2 < 251 then some (.int (a / b)) else none
  | _, _ => none
def oMod : Dv → Dv → Option Dv
  | .int a, .int b => if 0 < b then some (.int (a % b)) else none
  | _, _ => none
def oPow : Dv → Dv → Option Dv
  | .int a, .int b => if 0 ≤ b ∧ b ≤ 100 ∧ a.natAbs < 1000 then some (.int (a ^ b.toNat)) else none
  | _, _ => none
def ltS (a b : Str) : Bool := decide (a.cps.toList < b.cps.toList)
def oLt : Dv → Dv → Option Dv
  | .int a, .int b => some (.bl (decide (a < b)))
  | .str a, .str b => some (.bl (ltS a b))
  | _, _ => none
def oLe : Dv → Dv → Option Dv
  | .int a, .int b => some (.bl (decide (a ≤ b)))
  | .str a, .str b => some (.bl (!ltS b a))
  | _, _ => none
def oGt : Dv → Dv → Option Dv
  | .int a, .int b => some (.bl (decide (b < a)))
  | .str a, .str b => some (.bl (ltS b a))
  | _, _ => none
def oGe : Dv → Dv → Option Dv
  | .int a, .int b => some (.bl (decide (b ≤ a)))
  | .str a, .str b => some (.bl (!ltS a b))
  | _, _ => none
def R2DO (K : PySem.W.Frag) (r : R2) (op : Dv → Dv → Option Dv) : Prop := ∀ (H F : Hp) (L : List (Addr × HO)) (x y : V) (a b d : Dv) (Q : VK), Led H F L → Dr K H F x a → Dr K H F y b → op a b = some d →
  (∀ p o H', H p = none → H' = upd H p o → DO K F o d → Q (.ref p) H') → r x y H Q
theorem intOps {f : Int → Int → Dv} {op : Dv → Dv → Option Dv} (P : Int → Int → Prop) (h : ∀ a b d, op a b = some d → ∃ i j, a = .int i ∧ b = .int j ∧ P i j ∧ d = f i j) {H F : Hp} {x y : V} {a b d : Dv} (hx : Dr K H F x a) (hy : Dr K H F y b) (e : op a b = some d) : ∃ i j, x = .int i ∧ y = .int j ∧ P i j ∧ d = f i j := by
  obtain ⟨i, j, rfl, rfl, p, rfl⟩ := h _ _ _ e
  exact ⟨i, j, hx.int, hy.int, p, rfl⟩
theorem r2_add : R2D K FL.rAdd oAdd := by
  intro H F L x y a b d Q D hx hy e q
  unfold oAdd at e
  split at e
  · cases e
    rw [hx.int, hy.int]
    exact .inl ⟨_, _, rfl, rfl, q _ _ _ (Same.refl _) D (.int _)⟩
  · split at e
    · rename_i hl
      cases e
      rw [hx.str, hy.str]
      exact .inr (.inl ⟨_, _, rfl, rfl, le_line hl, q _ _ _ (Same.refl _) D (.str _)⟩)
    · cases e
  · cases e
theorem r2_cat : R2DO K FL.rAdd oCat := by
  intro H F L x y a b d Q D hx hy e q
  unfold oCat at e
  split at e
  · split at e
    · rename_i hl
      cases e
      obtain ⟨p, xs, rfl, h1, d1⟩ := hx.lst D
      obtain ⟨p', ys, rfl, h2, d2⟩ := hy.lst D
      refine .inr (.inr ⟨p, p', xs, ys, rfl, rfl, h1, h2, by rw [d1.len, d2.len]; exact le_line hl, fun r hr => q r _ _ hr rfl (.lst (d1.app d2))⟩)
    · cases e
  · cases e
theorem r2_rep : R2DO K FL.rMul oRep := by
  intro H F L x y a b d Q D hx hy e q
  unfold oRep at e
  split at e
  · split at e
    · rename_i hl
      cases e
      obtain ⟨p, xs, rfl, h1, d1⟩ := hx.lst D
      rw [hy.int]
      refine .inr ⟨p, _, xs, rfl, rfl, h1, by omega, by omega, by rw [d1.len]; exact le_line hl.2, fun r hr => q r _ _ hr rfl (.lst (d1.rep _))⟩
    · cases e
  · cases e
theorem r2_sub : R2D K FL.rSub oSub := by
  intro H F L x y a b d Q D hx hy e q
  unfold oSub at e
  split at e
  · cases e
    rw [hx.int, hy.int]
    exact ⟨_, _, rfl, rfl, q _ _ _ (Same.refl _) D (.int _)⟩
  · cases e
theorem log_small {a : Int} (h : a.natAbs < 2 ^ 250) : a.natAbs.log2 < 251 := PySem.Flt.log2_lt_of (k := 251) (by decide) (Nat.lt_of_lt_of_le h (Nat.pow_le_pow_right (by decide) (by decide)))
theorem r2_mul : R2D K FL.rMul oMul := by
  intro H F L x y a b d Q D hx hy e q
  unfold oMul at e
  split at e
  · split at e
    · rename_i hl
      cases e
      rw [hx.int, hy.int]
      refine .inl ⟨_, _, rfl, rfl, ?_, q _ _ _ (Same.refl _) D (.int _)⟩
      have h1 := hl.1
      have h2 := hl.2
      unfold CMulW
      omega
    · cases e
  · cases e
theorem r2_fdv : R2D K rFdv oFdv := by
  intro H F L x y a b d Q D hx hy e q
  unfold oFdv at e
  split at e
  · rename_i i j
    split at e
    · rename_i hl
      cases e
      rw [hx.int, hy.int]
      refine ⟨_, _, rfl, rfl, ⟨hl.1, ?_⟩, q _ _ _ (Same.refl _) D (.int _)⟩
      have := hl.2
      omega
    · cases e
  · cases e
theorem r2_mod : R2D K rMod oMod := by
  intro H F L x y a b d Q D hx hy e q
  unfold oMod at e
  split at e
  · split at e
    · rename_i hl
      cases e
      rw [hx.int, hy.int]
      exact ⟨_, _, rfl, rfl, hl, q _ _ _ (Same.refl _) D (.int _)⟩
    · cases e
  · cases e
theorem r2_pow : R2D K rPow oPow := by
  intro H F L x y a b d Q D hx hy e q
  unfold oPow at e
  split at e
  · split at e
    · rename_i hl
      cases e
      rw [hx.int, hy.int]
      exact ⟨_, _, rfl, rfl, ⟨hl.1, by omega, Nat.lt_trans hl.2.2 (by decide)⟩, q _ _ _ (Same.refl _) D (.int _)⟩
    · cases e
  · cases e
theorem r2_lt : R2D K rLtA oLt := by
  intro H F L x y a b d Q D hx hy e q
  unfold oLt at e
  split at e
  · cases e
    rw [hx.int, hy.int]
    exact .inl ⟨_, _, rfl, rfl, q _ _ _ (Same.refl _) D (.bl _)⟩
  · cases e
    rw [hx.str, hy.str]
    exact .inr ⟨_, _, rfl, rfl, q _ _ _ (Same.refl _) D (.bl _)⟩
  · cases e
theorem r2_le : R2D K rLeA oLe := by
  intro H F L x y a b d Q D hx hy e q
  unfold oLe at e
  split at e
  · cases e
    rw [hx.int, hy.int]
    exact .inl ⟨_, _, rfl, rfl, q _ _ _ (Same.refl _) D (.bl _)⟩
  · cases e
    rw [hx.str, hy.str]
    exact .inr ⟨_, _, rfl, rfl, q _ _ _ (Same.refl _) D (.bl _)⟩
  · cases e
theorem r2_gt : R2D K rGtA oGt := by
  intro H F L x y a b d Q D hx hy e q
  unfold oGt at e
  split at e
  · cases e
    rw [hx.int, hy.int]
    exact .inl ⟨_, _, rfl, rfl, q _ _ _ (Same.refl _) D (.bl _)⟩
  · cases e
    rw [hx.str, hy.str]
    exact .inr ⟨_, _, rfl, rfl, q _ _ _ (Same.refl _) D (.bl _)⟩
  · cases e
theorem r2_ge : R2D K rGeA oGe := by
  intro H F L x y a b d Q D hx hy e q
  unfold oGe at e
  split at e
  · cases e
    rw [hx.int, hy.int]
    exact .inl ⟨_, _, rfl, rfl, q _ _ _ (Same.refl _) D (.bl _)⟩
  · cases e
    rw [hx.str, hy.str]
    exact .inr ⟨_, _, rfl, rfl, q _ _ _ (Same.refl _) D (.bl _)⟩
  · cases e
/-! ### ==, is -/
mutual
def toPD : Dv → PyData
  | .non => .none
  | .bl b => .bool b
  | .int i => .int i
  | .str x => .str x
  | .lst xs => .list (toPDs xs)
  | .tup xs => .tuple (toPDs xs)
  | .dct kvs => .dict (toPDk kvs)
  | .dcT _ => .dict []
  | .scr ns => .list (ns.map PyData.int)
def toPDs : List Dv → List PyData
  | [] => []
  | x :: xs => toPD x :: toPDs xs
def toPDk : List (Key × Dv) → List (PyData × PyData)
  | [] => []
  | (k, v) :: r => (kD k, toPD v) :: toPDk r
end
theorem toPDs_map : ∀ xs : List Dv, toPDs xs = xs.map toPD
  | [] => rfl
  | x :: xs => by rw [toPDs, toPDs_map xs]; rfl
mutual
theorem Dd.dp {H : Hp} : ∀ {d : Dv} {v : V}, Dd K H v d → (toPD d).canLay0 = true → Dp K H v (toPD d)
  | .non, _, h, _ => by cases h; exact .non
  | .bl b, _, h, _ => by cases h; exact .bl b
  | .int i, _, h, _ => by cases h; exact .int i
  | .str x, _, h, _ => by cases h; exact .str x
  | .lst ds, _, h, c => by
    cases h with
    | lst h hs => rw [toPD]; exact .lst (SqL.of h) (Dd.dpA hs (by rw [toPD] at c; exact c))
  | .tup ds, _, h, c => by
    cases h with
    | tup h hs => rw [toPD]; exact .tup (SqT.of h) (Dd.dpA hs (by rw [toPD] at c; exact c))
  | .dct ds, _, h, c => by rw [toPD] at c; cases c
  | .dcT ds, _, h, c => by rw [toPD] at c; cases c
  | .scr ns, _, h, c => by
    cases h with
    | scr h => rw [toPD]; exact .lst h (dpI ns)
theorem Dd.dpA {H : Hp} : ∀ {ds : List Dv} {vs : List V}, DdA K H vs ds → PyData.canLayAll0 (toPDs ds) = true → DpAll K H vs (toPDs ds)
  | [], _, h, _ => by cases h; rw [toPDs]; exact .nil
  | d :: ds, _, h, c => by
    cases h with
    | cons h t =>
      rw [toPDs] at c ⊢
      have c : ((toPD d).canLay0 && PyData.canLayAll0 (toPDs ds)) = true := c
      rw [Bool.and_eq_true] at c
      exact .cons (Dd.dp h c.1) (Dd.dpA t c.2)
end
def scD : Dv → Dv → Option Bool
  | .non, .non => some true
  | .bl a, .bl b => some (decide (a = b))
  | .int a, .int b => some (decide (a = b))
  | .str a, .str b => some (decide (a = b))
  | .non, .int _ => some false | .int _, .non => some false | .non, .bl _ => some false | .bl _, .non => some false | .non, .str _ => some false | .str _, .non => some false
  | .int _, .str _ => some false | .str _, .int _ => some false | .bl _, .str _ => some false | .str _, .bl _ => some false
  | _, _ => none
theorem scD_scal {H F : Hp} {x y : V} {a b : Dv} {c : Bool} (hx : Dr K H F x a) (hy : Dr K H F y b) (e : scD a b = some c) : scal x y = true ∧ decide (x = y) = c := by
  unfold scD at e
  split at e <;> first | (cases e; done) | skip
  all_goals (cases e; first
    | (rw [hx.non, hy.non]; exact ⟨rfl, decide_eq_true rfl⟩)
    | (rw [hx.int, hy.int]; exact ⟨rfl, decide_eq_decide.mpr ⟨fun q => by injection q, fun q => by rw [q]⟩⟩)
    | (rw [hx.bl, hy.bl]; exact ⟨rfl, decide_eq_decide.mpr ⟨fun q => by injection q, fun q => by rw [q]⟩⟩)
    | (rw [hx.str, hy.str]; exact ⟨rfl, decide_eq_decide.mpr ⟨fun q => by injection q, fun q => by rw [q]⟩⟩)
    | (rw [hx.non, hy.int]; exact ⟨rfl, rfl⟩)
    | (rw [hx.int, hy.non]; exact ⟨rfl, rfl⟩)
    | (rw [hx.non, hy.bl]; exact ⟨rfl, rfl⟩)
    | (rw [hx.bl, hy.non]; exact ⟨rfl, rfl⟩)
    | (rw [hx.non, hy.str]; exact ⟨rfl, rfl⟩)
    | (rw [hx.str, hy.non]; exact ⟨rfl, rfl⟩)
    | (rw [hx.int, hy.str]; exact ⟨rfl, rfl⟩)
    | (rw [hx.str, hy.int]; exact ⟨rfl, rfl⟩)
    | (rw [hx.bl, hy.str]; exact ⟨rfl, rfl⟩)
    | (rw [hx.str, hy.bl]; exact ⟨rfl, rfl⟩))
def shp (d : Dv) : Bool := SeqAt.shaped (toPD d)
/-- equal or not: of plain values, of lists and tuples of such -/
def eqB (a b : Dv) : Option Bool := match scD a b with
  | some c => some c
  | none => if shp a && shp b then some (PyData.eqv (toPD a) (toPD b)) else none
def oEq (a b : Dv) : Option Dv := match eqB a b with
  | some c => some (.bl c)
  | none => none
def oNe (a b : Dv) : Option Dv := match eqB a b with
  | some c => some (.bl (!c))
  | none => none
theorem r2_eq : R2D K (rEqA K) oEq := by
  intro H F L x y a b d Q D hx hy e q
  unfold oEq eqB at e
  split at e
  · rename_i c e1
    cases e
    split at e1
    · rename_i c' e2
      cases e1
      obtain ⟨h1, h2⟩ := scD_scal hx hy e2
      exact .inl ⟨h1, by rw [h2]; exact q _ _ _ (Same.refl _) D (.bl _)⟩
    · split at e1
      · rename_i hs
        cases e1
        rw [Bool.and_eq_true] at hs
        refine .inr (.inl ⟨toPD a, toPD b, (hx.dd D).dp (SeqAt.canLay_of_shaped hs.1), (hy.dd D).dp (SeqAt.canLay_of_shaped hs.2), hs.1, hs.2, q _ _ _ (Same.refl _) D (.bl _)⟩)
      · cases e1
  · cases e
theorem r2_ne : R2D K (rNeA K) oNe := by
  intro H F L x y a b d Q D hx hy e q
  unfold oNe eqB at e
  split at e
  · rename_i c e1
    cases e
    split at e1
    · rename_i c' e2
      cases e1
      obtain ⟨h1, h2⟩ := scD_scal hx hy e2
      exact .inl ⟨h1, by rw [h2]; exact q _ _ _ (Same.refl _) D (.bl _)⟩
    · split at e1
      · rename_i hs
        cases e1
        rw [Bool.and_eq_true] at hs
        refine .inr ⟨toPD a, toPD b, (hx.dd D).dp (SeqAt.canLay_of_shaped hs.1), (hy.dd D).dp (SeqAt.canLay_of_shaped hs.2), hs.1, hs.2, q _ _ _ (Same.refl _) D (.bl _)⟩
      · cases e1
  · cases e
def isNon : Dv → Bool
  | .non => true
  | _ => false
theorem Dr.isNon {H F : Hp} {x : V} {a : Dv} (h : Dr K H F x a) : decide (x = .non) = isNon a := by
  rcases h with h | ⟨p, o, rfl, ha, h⟩
  · cases h <;> rfl
  · cases h <;> rfl
def oIs : Dv → Dv → Option Dv
  | a, .non => some (.bl (isNon a))
  | .bl a, .bl b => some (.bl (decide (a = b)))
  | _, _ => none
def oIsNot : Dv → Dv → Option Dv
  | a, .non => some (.bl (!isNon a))
  | .bl a, .bl b => some (.bl (!decide (a = b)))
  | _, _ => none
theorem r2_is : R2D K rIs oIs := by
  intro H F L x y a b d Q D hx hy e q
  unfold oIs at e
  split at e
  · cases e
    exact .inl ⟨hy.non, by rw [hx.isNon]; exact q _ _ _ (Same.refl _) D (.bl _)⟩
  · cases e
    rw [hx.bl, hy.bl]
    exact .inr ⟨_, _, rfl, rfl, q _ _ _ (Same.refl _) D (.bl _)⟩
  · cases e
theorem r2_isNot : R2D K rIsNot oIsNot := by
  intro H F L x y a b d Q D hx hy e q
  unfold oIsNot at e
  split at e
  · cases e
    exact .inl ⟨hy.non, by rw [hx.isNon]; exact q _ _ _ (Same.refl _) D (.bl _)⟩
  · cases e
    rw [hx.bl, hy.bl]
    exact .inr ⟨_, _, rfl, rfl, q _ _ _ (Same.refl _) D (.bl _)⟩
  · cases e
/-! ### items -/
def oIx : Dv → Dv → Option Dv
  | .lst ds, .int i => atI ds i
  | .tup ds, .int i => atI ds i
  | .str z, .int i => if z.length ≤ 1000000 then (match atI z.cps.toList i with | some c => some (.str ⟨#[c]⟩) | none => none) else none
  | _, _ => none
theorem DdA.at {F : Hp} {vs : List V} {ds : List Dv} {i : Int} {d : Dv} (h : DdA K F vs ds) (e : atI ds i = some d) : ∃ v, atI vs i = some v ∧ Dd K F v d := by
  unfold atI at e ⊢
  rw [h.len]
  cases q : ixN ds.length i with
  | none => rw [q] at e; cases e
  | some j => rw [q] at e; exact h.get e
theorem r2_ix : R2D K (rIx K) oIx := by
  intro H F L x y a b d Q D hx hy e q
  unfold oIx at e
  split at e
  · obtain ⟨p, xs, rfl, h1, d1⟩ := hx.lst D
    rw [hy.int]
    obtain ⟨v, hv, dv⟩ := d1.at e
    exact .inl ⟨p, xs, _, v, rfl, rfl, SqL.of h1, hv, q _ _ _ (Same.refl _) D dv⟩
  · obtain ⟨p, xs, rfl, h1, d1⟩ := hx.tup D
    rw [hy.int]
    obtain ⟨v, hv, dv⟩ := d1.at e
    exact .inr (.inl ⟨p, xs, _, v, rfl, rfl, SqT.of h1, hv, q _ _ _ (Same.refl _) D dv⟩)
  · split at e
    · rename_i hl
      split at e
      · rename_i c hc
        cases e
        rw [hx.str, hy.int]
        exact .inr (.inr ⟨_, _, c, rfl, rfl, le_line hl, hc, q _ _ _ (Same.refl _) D (.str _)⟩)
      · cases e
    · cases e
  · cases e
/-! ### in, of flat items -/
def flatD : Dv → Bool
  | .non => true | .bl _ => true | .int _ => true | .str _ => true
  | _ => false
def eqF : Dv → Dv → Bool
  | .non, .non => true
  | .bl a, .bl b => a == b
  | .bl a, .int b => (if a then 1 else 0) == b
  | .int a, .bl b => a == (if b then 1 else 0)
  | .int a, .int b => a == b
  | .str a, .str b => a == b
  | _, _ => false
theorem Dd.flat {F : Hp} {v : V} {d : Dv} (h : Dd K F v d) (f : flatD d = true) : flatV v = true := by cases h <;> first | rfl | cases f
theorem Dd.eqF {F F' : Hp} {v u : V} {d e : Dv} (h : Dd K F v d) (k : Dd K F' u e) (f : flatD d = true) (g : flatD e = true) : eqV v u = eqF d e := by
  cases h <;> cases k <;> first | rfl | cases f | cases g
theorem DdA.flat {F : Hp} : ∀ {vs : List V} {ds : List Dv}, DdA K F vs ds → ds.all flatD = true → vs.all flatV = true
  | _, _, .nil, _ => rfl
  | _, _, .cons h t, f => by
    rw [List.all_cons, Bool.and_eq_true] at f ⊢
    exact ⟨h.flat f.1, DdA.flat t f.2⟩
theorem DdA.anyF {F F' : Hp} {u : V} {e : Dv} (k : Dd K F' u e) (g : flatD e = true) : ∀ {vs : List V} {ds : List Dv}, DdA K F vs ds → ds.all flatD = true → (vs.any fun y => eqV y u) = ds.any fun d => eqF d e
  | _, _, .nil, _ => rfl
  | _, _, .cons h t, f => by
    rw [List.all_cons, Bool.and_eq_true] at f
    rw [List.any_cons, List.any_cons, h.eqF k f.1 g, DdA.anyF k g t f.2]
theorem Dr.flat {H F : Hp} {x : V} {a : Dv} (h : Dr K H F x a) (f : flatD a = true) : Dd K F x a := by
  rcases h with h | ⟨p, o, rfl, ha, h⟩
  · exact h
  · cases h <;> cases f
def inB (a b : Dv) : Option Bool := match b with
  | .lst ds => if flatD a && ds.all flatD then some (ds.any fun d => eqF d a) else if shp a && shp (.lst ds) then some ((toPDs ds).any fun z => PyData.eqv z (toPD a)) else none
  | .tup ds => if flatD a && ds.all flatD then some (ds.any fun d => eqF d a) else none
  | _ => none
def oIn (a b : Dv) : Option Dv := match inB a b with
  | some c => some (.bl c)
  | none => none
def oNotIn (a b : Dv) : Option Dv := match inB a b with
  | some c => some (.bl (!c))
  | none => none
/-- in, not in: of flat items, of data -/
def rInA (K : PySem.W.Frag) : R2 := fun x y H Q => rIn K false x y H Q ∨ rInD K x y H Q
def rNotInA (K : PySem.W.Frag) : R2 := fun x y H Q => rIn K true x y H Q ∨ rNotInD K x y H Q
theorem opIn {X : Cx} (hu : X.A.units + 65 < cLine) : OpR X (compareOp .In) (rInA X.K) := op_in_seq.or (op_inD hu)
theorem opNotIn {X : Cx} (hu : X.A.units + 65 < cLine) : OpR X (compareOp .NotIn) (rNotInA X.K) := op_notIn_seq.or (op_notInD hu)
theorem in_core {H F : Hp} {L : List (Addr × HO)} {x y : V} {a b : Dv} {c : Bool} (D : Led H F L) (hx : Dr K H F x a) (hy : Dr K H F y b) (e : inB a b = some c) :
    (∃ p xs, y = .ref p ∧ (SqL K H p xs ∨ SqT K H p xs) ∧ flatV x = true ∧ xs.all flatV = true ∧ inV x xs = c) ∨
    ∃ d ds, Dp K H x d ∧ Dp K H y (.list ds) ∧ SeqAt.shaped d = true ∧ SeqAt.shaped (.list ds) = true ∧ (ds.any fun z => PyData.eqv z d) = c := by
  unfold inB at e
  split at e
  · rename_i ds
    split at e
    · rename_i hf
      cases e
      rw [Bool.and_eq_true] at hf
      obtain ⟨p, xs, rfl, h1, d1⟩ := hy.lst D
      have hd := hx.flat hf.1
      exact .inl ⟨p, xs, rfl, .inl (SqL.of h1), hd.flat hf.1, d1.flat hf.2, d1.anyF hd hf.1 hf.2⟩
    · split at e
      · rename_i hs
        cases e
        rw [Bool.and_eq_true] at hs
        have h2 := (hy.dd D).dp (SeqAt.canLay_of_shaped hs.2)
        rw [toPD] at h2
        have h3 := hs.2
        unfold shp at h3
        rw [toPD] at h3
        exact .inr ⟨toPD a, toPDs ds, (hx.dd D).dp (SeqAt.canLay_of_shaped hs.1), h2, hs.1, h3, rfl⟩
      · cases e
  · rename_i ds
    split at e
    · rename_i hf
      cases e
      rw [Bool.and_eq_true] at hf
      obtain ⟨p, xs, rfl, h1, d1⟩ := hy.tup D
      have hd := hx.flat hf.1
      exact .inl ⟨p, xs, rfl, .inr (SqT.of h1), hd.flat hf.1, d1.flat hf.2, d1.anyF hd hf.1 hf.2⟩
    · cases e
  · cases e
theorem r2_in : R2D K (rInA K) oIn := by
  intro H F L x y a b d Q D hx hy e q
  unfold oIn at e
  split at e
  · rename_i c e1
    cases e
    rcases in_core D hx hy e1 with ⟨p, xs, rfl, h1, h2, h3, rfl⟩ | ⟨d, ds, h1, h2, h3, h4, rfl⟩
    · exact .inl ⟨p, xs, rfl, h1, h2, h3, q _ _ _ (Same.refl _) D (.bl _)⟩
    · exact .inr ⟨d, ds, h1, h2, h3, h4, q _ _ _ (Same.refl _) D (.bl _)⟩
  · cases e
theorem r2_notIn : R2D K (rNotInA K) oNotIn := by
  intro H F L x y a b d Q D hx hy e q
  unfold oNotIn at e
  split at e
  · rename_i c e1
    cases e
    rcases in_core D hx hy e1 with ⟨p, xs, rfl, h1, h2, h3, rfl⟩ | ⟨d, ds, h1, h2, h3, h4, rfl⟩
    · exact .inl ⟨p, xs, rfl, h1, h2, h3, q _ _ _ (Same.refl _) D (.bl _)⟩
    · exact .inr ⟨d, ds, h1, h2, h3, h4, q _ _ _ (Same.refl _) D (.bl _)⟩
  · cases e
end
end FD
namespace FD
open PySem PySem.Spec PyProof.Rows L2 FL
section
variable {K : PySem.W.Frag}
/-- an operator that makes a new list -/
def oOp (op : Dv → Dv → Option Dv) (fa fb : Env → Option (Rv × Env)) (δ : Env) : Option (Dv × Env) := match fa δ with
  | some (r, δ1) => match fb δ1 with
    | some (s, δ2) => match r.get δ2, s.get δ2 with
      | some a, some b => match op a b with
        | some d => some (d, δ2)
        | none => none
      | _, _ => none
    | none => none
  | none => none
theorem do_op {r : R2} {op : Dv → Dv → Option Dv} {ta tb : TE} {fa fb : Env → Option (Rv × Env)} (hr : R2DO K r op) (ha : DE K ta fa) (hb : DE K tb fb) : DEO K (tOp r ta tb) (oOp op fa fb) := by
  intro α σ H F L R δ δ' rr Q D S e q
  unfold oOp at e
  split at e
  · rename_i r1 δ1 e1
    split at e
    · rename_i r2 δ2 e2
      split at e
      · rename_i a b g1 g2
        split at e
        · rename_i d e3
          cases e
          refine ha α σ H F L R δ δ1 r1 _ D S e1 fun x H1 F1 L1 s1 D1 S1 R1 => ?_
          refine hb α σ H1 F1 L1 R δ1 _ r2 _ D1 S1 e2 fun y H2 F2 L2 s2 D2 S2 R2 => ?_
          refine hr H2 F2 _ x y a b _ Q D2 ((R1.mono (Le.of s2)).dr D2 S2 g1) (R2.dr D2 S2 g2) e3 fun p o H3 np eh h => ?_
          subst eh
          exact q p o _ F2 L2 (s1.trans s2) (D2.new np) S2 h
        · cases e
      · cases e
    · cases e
  · cases e
/-! ### dicts -/
def keyOf : Dv → Option Key
  | .int i => some (.inl i)
  | .str x => some (.inr x)
  | _ => none
theorem Dr.key {H F : Hp} {x : V} {a : Dv} {k : Key} (h : Dr K H F x a) (e : keyOf a = some k) : x = kV k := by
  unfold keyOf at e
  split at e
  · cases e; rw [h.int]; rfl
  · cases e; rw [h.str]; rfl
  · cases e
def keysOf : List Dv → Option (List Key)
  | [] => some []
  | d :: ds => match keyOf d, keysOf ds with
    | some k, some ks => some (k :: ks)
    | _, _ => none
theorem DdA.keysV {F : Hp} : ∀ {vs : List V} {ds : List Dv} {ks : List Key}, DdA K F vs ds → keysOf ds = some ks → vs = ks.map kV
  | _, _, _, .nil, e => by cases e; rfl
  | _, d :: ds, ks, .cons h t, e => by
    unfold keysOf at e
    split at e
    · rename_i k ks' e1 e2
      cases e
      rw [List.map_cons, DdA.keysV t e2, Dr.key (H := F) (.inl h) e1]
    · cases e
def lookT (kvs : List (List Key × Dv)) (k : List Key) : Option Dv := (kvs.find? fun p => decide (p.1 = k)).map (·.2)
theorem DdT.look {F : Hp} {k : List Key} : ∀ {kvs : List (List Key × V)} {ds : List (List Key × Dv)}, DdT K F kvs ds → (lookT ds k = none ∧ valV kvs k = none) ∨ ∃ d v, lookT ds k = some d ∧ valV kvs k = some v ∧ Dd K F v d
  | _, _, .nil => .inl ⟨rfl, rfl⟩
  | _, _, @DdT.cons _ _ k' v kvs d ds r t => by
    by_cases e : k' = k
    · exact .inr ⟨d, v, by unfold lookT; rw [List.find?_cons_of_pos (by simp [e])]; rfl, valV_pos e, r⟩
    · have : lookT ((k', d) :: ds) k = lookT ds k := by unfold lookT; rw [List.find?_cons_of_neg (by simp [e])]
      rw [this, valV_neg (p := (k', v)) e]; exact DdT.look t
theorem Dr.dcT {H F : Hp} {L : List (Addr × HO)} {v : V} {ds : List (List Key × Dv)} (D : Led H F L) (h : Dr K H F v (.dcT ds)) : ∃ a kvs, v = .ref a ∧ Rd H a (.dT kvs) ∧ DdT K F kvs ds := by
  rcases h with h | ⟨a, o, rfl, ha, h⟩
  · cases h with
    | dcT h hs => exact ⟨_, _, rfl, (Le.of D.ext).rd _ _ True.intro h, hs⟩
  · cases h with
    | dcT h => exact ⟨a, _, rfl, .inl ha, h⟩
/-- what a dict holds at a key: none where it is no dict, or no key -/
def getD : Dv → Dv → Option (Option Dv)
  | .dct ds, y => match keyOf y with
    | some k => some (lookK ds k)
    | none => none
  | .dcT ds, .tup ys => match keysOf ys with
    | some ks => some (lookT ds ks)
    | none => none
  | _, _ => none
theorem dget_core {H F : Hp} {L : List (Addr × HO)} {x y : V} {a b : Dv} {o : Option Dv} (D : Led H F L) (hx : Dr K H F x a) (hy : Dr K H F y b) (e : getD a b = some o) :
    ∃ p r, x = .ref p ∧ DGet H p y r ∧ ((o = none ∧ r = none) ∨ ∃ d v, o = some d ∧ r = some v ∧ Dd K F v d) := by
  unfold getD at e
  split at e
  · rename_i ds
    split at e
    · rename_i k ek
      cases e
      obtain ⟨p, kvs, rfl, h1, d1⟩ := hx.dct D
      refine ⟨p, _, rfl, .inl ⟨kvs, k, h1, hy.key ek, rfl⟩, ?_⟩
      rcases d1.look (k := k) with ⟨e1, e2⟩ | ⟨d, v, e1, e2, h⟩
      · exact .inl ⟨e1, e2⟩
      · exact .inr ⟨d, v, e1, e2, h⟩
    · cases e
  · rename_i ds ys
    split at e
    · rename_i ks ek
      cases e
      obtain ⟨p, kvs, rfl, h1, d1⟩ := hx.dcT D
      obtain ⟨b, xs, rfl, h2, d2⟩ := hy.tup D
      have ev := d2.keysV ek
      subst ev
      refine ⟨p, _, rfl, .inr ⟨kvs, ks, b, h1, rfl, h2, rfl⟩, ?_⟩
      rcases d1.look (k := ks) with ⟨e1, e2⟩ | ⟨d, v, e1, e2, h⟩
      · exact .inl ⟨e1, e2⟩
      · exact .inr ⟨d, v, e1, e2, h⟩
    · cases e
  · cases e
/-- two operands, then what is wanted of the data -/
def two (fa fb : Env → Option (Rv × Env)) (δ : Env) : Option (Dv × Dv × Env) := match fa δ with
  | some (r, δ1) => match fb δ1 with
    | some (s, δ2) => match r.get δ2, s.get δ2 with
      | some a, some b => some (a, b, δ2)
      | _, _ => none
    | none => none
  | none => none
theorem two_run {ta tb : TE} {fa fb : Env → Option (Rv × Env)} (ha : DE K ta fa) (hb : DE K tb fb) {α : Nat → Addr} {σ : L2.St} {H F : Hp} {L R : List (Addr × HO)} {δ δ' : Env} {a b : Dv} {Q : V → V → Hp → Prop} (D : Led H F (L ++ R)) (S : RelS K F α σ δ L) (e : two fa fb δ = some (a, b, δ'))
    (q : ∀ x y H' F' L', Same F F' → Led H' F' (L' ++ R) → RelS K F' α σ δ' L' → Dr K H' F' x a → Dr K H' F' y b → Q x y H') : ta σ H fun x H1 => tb σ H1 fun y H2 => Q x y H2 := by
  unfold two at e
  split at e
  · rename_i r1 δ1 e1
    split at e
    · rename_i r2 δ2 e2
      split at e
      · rename_i a b g1 g2
        cases e
        refine ha α σ H F L R δ δ1 r1 _ D S e1 fun x H1 F1 L1 s1 D1 S1 R1 => ?_
        refine hb α σ H1 F1 L1 R δ1 _ r2 _ D1 S1 e2 fun y H2 F2 L2 s2 D2 S2 R2 => ?_
        exact q x y H2 F2 L2 (s1.trans s2) D2 S2 ((R1.mono (Le.of s2)).dr D2 S2 g1) (R2.dr D2 S2 g2)
      · cases e
    · cases e
  · cases e
def fDGet (fd fy : Env → Option (Rv × Env)) (δ : Env) : Option (Rv × Env) := match two fd fy δ with
  | some (a, b, δ') => match getD a b with
    | some (some d) => some (.dv d, δ')
    | _ => none
  | none => none
theorem de_dget {td ty : TE} {fd fy : Env → Option (Rv × Env)} (hd : DE K td fd) (hy : DE K ty fy) : DE K (tDGet td ty) (fDGet fd fy) := by
  intro α σ H F L R δ δ' r Q D S e q
  unfold fDGet at e
  split at e
  · rename_i a b δ1 e1
    split at e
    · rename_i d e2
      cases e
      refine two_run hd hy D S e1 fun x y H' F' L' s D' S' dx dy => ?_
      obtain ⟨p, r, rfl, g, h⟩ := dget_core D' dx dy e2
      rcases h with ⟨z, _⟩ | ⟨d', v, z, rfl, dv⟩
      · cases z
      · cases z
        exact ⟨p, v, rfl, g, q v H' F' L' s D' S' dv⟩
    · cases e
  · cases e
def fDIn (fy fd : Env → Option (Rv × Env)) (neg : Bool) (δ : Env) : Option (Rv × Env) := match two fy fd δ with
  | some (b, a, δ') => match getD a b with
    | some o => some (.dv (.bl (xor neg o.isSome)), δ')
    | _ => none
  | none => none
theorem de_din {td ty : TE} {fd fy : Env → Option (Rv × Env)} (hy : DE K ty fy) (hd : DE K td fd) : DE K (tDIn ty td) (fDIn fy fd false) := by
  intro α σ H F L R δ δ' r Q D S e q
  unfold fDIn at e
  split at e
  · rename_i b a δ1 e1
    split at e
    · rename_i o e2
      cases e
      refine two_run hy hd D S e1 fun y x H' F' L' s D' S' dy dx => ?_
      obtain ⟨p, r, rfl, g, h⟩ := dget_core D' dx dy e2
      have eo : r.isSome = o.isSome := by rcases h with ⟨rfl, rfl⟩ | ⟨d', v, rfl, rfl, dv⟩ <;> rfl
      refine ⟨p, r, rfl, g, ?_⟩
      rw [eo, ← Bool.false_xor o.isSome]
      exact q _ H' F' L' s D' S' (.bl _)
    · cases e
  · cases e
theorem de_dnotin {td ty : TE} {fd fy : Env → Option (Rv × Env)} (hy : DE K ty fy) (hd : DE K td fd) : DE K (tDNotIn ty td) (fDIn fy fd true) := by
  intro α σ H F L R δ δ' r Q D S e q
  unfold fDIn at e
  split at e
  · rename_i b a δ1 e1
    split at e
    · rename_i o e2
      cases e
      refine two_run hy hd D S e1 fun y x H' F' L' s D' S' dy dx => ?_
      obtain ⟨p, r, rfl, g, h⟩ := dget_core D' dx dy e2
      have eo : r.isSome = o.isSome := by rcases h with ⟨rfl, rfl⟩ | ⟨d', v, rfl, rfl, dv⟩ <;> rfl
      refine ⟨p, r, rfl, g, ?_⟩
      rw [eo, ← Bool.true_xor o.isSome]
      exact q _ H' F' L' s D' S' (.bl _)
    · cases e
  · cases e
def oDNew (δ : Env) : Option (Dv × Env) := some (.dct [], δ)
theorem do_dnew : DEO K tDNewK oDNew := by
  intro α σ H F L R δ δ' r Q D S e q
  cases e
  exact fun p np => q p _ _ F L (Same.refl _) (D.new np) S (.dct .nil)
/-! ### slices -/
def DOo (tO : TO) (fo : Env → Option (Option Int × Env)) : Prop := ∀ (α : Nat → Addr) (σ : L2.St) (H F : Hp) (L R : List (Addr × HO)) (δ δ' : Env) (o : Option Int) (Q : Option Int → Hp → Prop), Led H F (L ++ R) → RelS K F α σ δ L → fo δ = some (o, δ') →
    (∀ H' F' L', Same F F' → Led H' F' (L' ++ R) → RelS K F' α σ δ' L' → Q o H') → tO σ H Q
def pNo (δ : Env) : Option (Option Int × Env) := some (none, δ)
def pAt (fe : Env → Option (Rv × Env)) (δ : Env) : Option (Option Int × Env) := match got fe δ with
  | some (.int i, δ') => some (some i, δ')
  | _ => none
theorem dp_no : DOo (K := K) tNoPart pNo := by
  intro α σ H F L R δ δ' o Q D S e q
  cases e
  exact q H F L (Same.refl _) D S
theorem dp_at {te : TE} {fe : Env → Option (Rv × Env)} (h : DE K te fe) : DOo (K := K) (tPart te) (pAt fe) := by
  intro α σ H F L R δ δ' o Q D S e q
  unfold pAt at e
  split at e
  · rename_i i δ1 e1
    cases e
    refine h.rd D S e1 fun v H' F' L' s D' S' dr => ?_
    rw [dr.int]
    exact ⟨i, rfl, q H' F' L' s D' S'⟩
  · cases e
def cutD (xs : List Dv) (lo hi : Option Int) : List Dv := (xs.drop (HT.sIx xs.length 0 lo)).take (HT.sIx xs.length xs.length hi - HT.sIx xs.length 0 lo)
def cutA : Dv → Option Int → Option Int → Option Dv
  | .lst xs, lo, hi => some (.lst (cutD xs lo hi))
  | .scr ns, lo, hi => some (.lst (cutD (ns.map Dv.int) lo hi))
  | _, _, _ => none
theorem ddA_ints {F : Hp} : ∀ ns : List Int, DdA K F (ns.map V.int) (ns.map Dv.int)
  | [] => .nil
  | n :: ns => .cons (.int n) (ddA_ints ns)
theorem DdA.cut {F : Hp} {vs : List V} {ds : List Dv} (lo hi : Option Int) (h : DdA K F vs ds) : DdA K F (cutV vs lo hi) (cutD ds lo hi) := by
  unfold cutV cutD
  rw [h.len]
  exact (h.drop _).take _
def oSl (fe : Env → Option (Rv × Env)) (fl fh : Env → Option (Option Int × Env)) (δ : Env) : Option (Dv × Env) := match fe δ with
  | some (r, δ1) => match fl δ1 with
    | some (lo, δ2) => match fh δ2 with
      | some (hi, δ3) => match r.get δ3 with
        | some a => match cutA a lo hi with
          | some d => some (d, δ3)
          | none => none
        | none => none
      | none => none
    | none => none
  | none => none
theorem do_sl {te : TE} {tl th : TO} {fe : Env → Option (Rv × Env)} {fl fh : Env → Option (Option Int × Env)} (he : DE K te fe) (hl : DOo (K := K) tl fl) (hh : DOo (K := K) th fh) : DEO K (tSl (rSlL K) te tl th) (oSl fe fl fh) := by
  intro α σ H F L R δ δ' d Q D S e q
  unfold oSl at e
  split at e
  · rename_i r1 δ1 e1
    split at e
    · rename_i lo δ2 e2
      split at e
      · rename_i hi δ3 e3
        split at e
        · rename_i a g
          split at e
          · rename_i d' ec
            cases e
            refine he α σ H F L R δ δ1 r1 _ D S e1 fun x H1 F1 L1 s1 D1 S1 R1 => ?_
            refine hl α σ H1 F1 L1 R δ1 δ2 lo _ D1 S1 e2 fun H2 F2 L2 s2 D2 S2 => ?_
            refine hh α σ H2 F2 L2 R δ2 _ hi _ D2 S2 e3 fun H3 F3 L3 s3 D3 S3 => ?_
            have dr := (R1.mono (Le.of (s2.trans s3))).dr D3 S3 g
            have sAll := s1.trans (s2.trans s3)
            unfold cutA at ec
            split at ec
            · cases ec
              obtain ⟨p, xs, rfl, h1, d1⟩ := dr.lst D3
              exact ⟨p, xs, rfl, SqL.of h1, fun r hr => q r _ _ F3 L3 sAll (D3.new hr) S3 (.lst (d1.cut _ _))⟩
            · cases ec
              obtain ⟨p, rfl, h1⟩ := dr.scr D3
              exact ⟨p, _, rfl, h1, fun r hr => q r _ _ F3 L3 sAll (D3.new hr) S3 (.lst ((ddA_ints _).cut _ _))⟩
            · cases ec
          · cases e
        · cases e
      · cases e
    · cases e
  · cases e
/-! ### built-in functions -/
def getAll (δ : Env) : List Rv → Option (List Dv)
  | [] => some []
  | r :: rs => match r.get δ, getAll δ rs with
    | some d, some ds => some (d :: ds)
    | _, _ => none
theorem getAll_dr {H F : Hp} {α : Nat → Addr} {σ : L2.St} {δ : Env} {L R : List (Addr × HO)} (D : Led H F (L ++ R)) (S : RelS K F α σ δ L) : ∀ {vs : List V} {rs : List Rv} {ds : List Dv}, Paired (RvR K F σ) vs rs → getAll δ rs = some ds → Paired (Dr K H F) vs ds
  | _, _, _, .nil, e => by cases e; exact .nil
  | _, r :: rs, ds, .cons h t, e => by
    unfold getAll at e
    split at e
    · rename_i d ds' e1 e2
      cases e
      exact .cons (h.dr D S e1) (getAll_dr D S t e2)
    · cases e
def CRD (K : PySem.W.Frag) (r : List V → Hp → VK → Prop) (fn : List Dv → Option Dv) : Prop := ∀ (H F : Hp) (L : List (Addr × HO)) (vs : List V) (ds : List Dv) (d : Dv) (Q : VK), Led H F L → Paired (Dr K H F) vs ds → fn ds = some d →
  (∀ v H' F', Same F F' → Led H' F' L → Dd K F' v d → Q v H') → r vs H Q
def CRO (K : PySem.W.Frag) (r : List V → Hp → VK → Prop) (fn : List Dv → Option Dv) : Prop := ∀ (H F : Hp) (L : List (Addr × HO)) (vs : List V) (ds : List Dv) (d : Dv) (Q : VK), Led H F L → Paired (Dr K H F) vs ds → fn ds = some d →
  (∀ p o H', H p = none → H' = upd H p o → DO K F o d → Q (.ref p) H') → r vs H Q
def fCB (fn : List Dv → Option Dv) (fa : Env → Option (List Rv × Env)) (δ : Env) : Option (Rv × Env) := match fa δ with
  | some (rs, δ') => match getAll δ' rs with
    | some ds => match fn ds with
      | some d => some (.dv d, δ')
      | none => none
    | none => none
  | none => none
def oCB (fn : List Dv → Option Dv) (fa : Env → Option (List Rv × Env)) (δ : Env) : Option (Dv × Env) := match fa δ with
  | some (rs, δ') => match getAll δ' rs with
    | some ds => match fn ds with
      | some d => some (d, δ')
      | none => none
    | none => none
  | none => none
theorem de_cb {r : List V → Hp → VK → Prop} {fn : List Dv → Option Dv} {ta : TA} {fa : Env → Option (List Rv × Env)} (hr : CRD K r fn) (ha : DA K ta fa) : DE K (tCB r ta) (fCB fn fa) := by
  intro α σ H F L R δ δ' rr Q D S e q
  unfold fCB at e
  split at e
  · rename_i rs δ1 e1
    split at e
    · rename_i ds e2
      split at e
      · rename_i d e3
        cases e
        refine ha α σ H F L R δ _ rs _ D S e1 fun vs H' F' L' s D' S' R' => ?_
        exact hr H' F' _ vs ds d Q D' (getAll_dr D' S' R' e2) e3 fun v H2 F2 s2 D2 dv => q v H2 F2 L' (s.trans s2) D2 (S'.mono (Le.of s2)) dv
      · cases e
    · cases e
  · cases e
theorem do_cb {r : List V → Hp → VK → Prop} {fn : List Dv → Option Dv} {ta : TA} {fa : Env → Option (List Rv × Env)} (hr : CRO K r fn) (ha : DA K ta fa) : DEO K (tCB r ta) (oCB fn fa) := by
  intro α σ H F L R δ δ' rr Q D S e q
  unfold oCB at e
  split at e
  · rename_i rs δ1 e1
    split at e
    · rename_i ds e2
      split at e
      · rename_i d e3
        cases e
        refine ha α σ H F L R δ _ rs _ D S e1 fun vs H' F' L' s D' S' R' => ?_
        exact hr H' F' _ vs ds _ Q D' (getAll_dr D' S' R' e2) e3 fun p o H2 np eh h => by
          subst eh
          exact q p o _ F' L' s (D'.new np) S' h
      · cases e
    · cases e
  · cases e
end
end FD
namespace FD
open PySem PySem.Spec PyProof.Rows L2 FL
/-! ### sorted, as a function -/
section
variable {β : Type} (le : β → β → Bool)
def ins (x : β) : List β → List β
  | [] => [x]
  | y :: l => if le x y then x :: y :: l else y :: ins x l
def srt : List β → List β
  | [] => []
  | x :: l => ins le x (srt l)
theorem ins_perm (x : β) : ∀ l : List β, (ins le x l).Perm (x :: l)
  | [] => List.Perm.refl _
  | y :: l => by
    unfold ins
    split
    · exact List.Perm.refl _
    · exact ((ins_perm x l).cons y).trans (List.Perm.swap x y l)
theorem srt_perm : ∀ l : List β, (srt le l).Perm l
  | [] => List.Perm.refl _
  | x :: l => (ins_perm le x _).trans ((srt_perm l).cons x)
structure Tot : Prop where
  tot : ∀ a b, le a b = true ∨ le b a = true
  tr : ∀ a b c, le a b = true → le b c = true → le a c = true
  as : ∀ a b, le a b = true → le b a = true → a = b
variable {le}
theorem ins_pw (T : Tot le) (x : β) : ∀ l : List β, l.Pairwise (fun a b => le a b = true) → (ins le x l).Pairwise fun a b => le a b = true
  | [], _ => by simp [ins]
  | y :: l, h => by
    obtain ⟨h1, h2⟩ := List.pairwise_cons.mp h
    unfold ins
    split
    · rename_i e
      refine List.pairwise_cons.mpr ⟨fun z hz => ?_, h⟩
      rcases List.mem_cons.mp hz with q | q
      · rw [q]; exact e
      · exact T.tr _ _ _ e (h1 z q)
    · rename_i e
      refine List.pairwise_cons.mpr ⟨fun z hz => ?_, ins_pw T x l h2⟩
      rcases List.mem_cons.mp ((ins_perm le x l).mem_iff.mp hz) with q | q
      · rw [q]; exact (T.tot x y).resolve_left e
      · exact h1 z q
theorem srt_pw (T : Tot le) : ∀ l : List β, (srt le l).Pairwise fun a b => le a b = true
  | [] => List.Pairwise.nil
  | x :: l => ins_pw T x _ (srt_pw T l)
theorem srt_uniq (T : Tot le) : ∀ {l m : List β}, l.Perm m → l.Pairwise (fun a b => le a b = true) → m.Pairwise (fun a b => le a b = true) → l = m
  | [], m, p, _, _ => (List.Perm.eq_nil p.symm).symm
  | x :: l, [], p, _, _ => absurd p.length_eq (by simp)
  | x :: l, y :: m, p, hl, hm => by
    obtain ⟨x1, x2⟩ := List.pairwise_cons.mp hl
    obtain ⟨y1, y2⟩ := List.pairwise_cons.mp hm
    have e : x = y := by
      rcases List.mem_cons.mp (p.mem_iff.mp (List.mem_cons_self (a := x) (l := l))) with e | hx
      · exact e
      · rcases List.mem_cons.mp (p.mem_iff.mpr (List.mem_cons_self (a := y) (l := m))) with e | hy
        · exact e.symm
        · exact T.as _ _ (x1 _ hy) (y1 _ hx)
    subst e
    rw [srt_uniq T (List.Perm.cons_inv p) x2 y2]
theorem srt_is (T : Tot le) {l m : List β} (p : m.Perm l) (h : m.Pairwise fun a b => le a b = true) : m = srt le l := srt_uniq T (p.trans (srt_perm le l).symm) h (srt_pw T l)
end
def leI (a b : Int) : Bool := decide (a ≤ b)
def leS (a b : Str) : Bool := !ltS b a
theorem totI : Tot leI := ⟨fun a b => (Int.le_total a b).imp (fun h => decide_eq_true h) (fun h => decide_eq_true h), fun a b c h1 h2 => decide_eq_true (Int.le_trans (of_decide_eq_true h1) (of_decide_eq_true h2)),
  fun a b h1 h2 => Int.le_antisymm (of_decide_eq_true h1) (of_decide_eq_true h2)⟩
theorem leS_iff {a b : Str} : leS a b = true ↔ a.cps.toList ≤ b.cps.toList := by
  unfold leS ltS
  rw [Bool.not_eq_true', decide_eq_false_iff_not]
  exact Iff.rfl
theorem totS : Tot leS := by
  refine ⟨fun a b => ?_, fun a b c h1 h2 => ?_, fun a b h1 h2 => ?_⟩
  · rw [leS_iff, leS_iff]; exact List.le_total _ _
  · rw [leS_iff] at h1 h2 ⊢; exact List.le_trans h1 h2
  · rw [leS_iff] at h1 h2
    have e := List.le_antisymm h1 h2
    obtain ⟨⟨a⟩⟩ := a
    obtain ⟨⟨b⟩⟩ := b
    rw [show a = b from e]
theorem risingS_pw : ∀ (p : Str) (l : List Str), risingS p l = true → (p :: l).Pairwise fun a b => leS a b = true
  | p, [], _ => by simp
  | p, x :: r, h => by
    have h : (!ltCps x.cps.toList p.cps.toList && risingS x r) = true := h
    rw [Bool.and_eq_true, ltCps_eq] at h
    have ih := risingS_pw x r h.2
    have hx : leS p x = true := h.1
    refine List.pairwise_cons.mpr ⟨fun z hz => ?_, ih⟩
    rcases List.mem_cons.mp hz with e | q
    · rw [e]; exact hx
    · exact totS.tr _ _ _ hx ((List.pairwise_cons.mp ih).1 z q)
theorem sortedS_pw : ∀ l : List Str, sortedS l = true → l.Pairwise fun a b => leS a b = true
  | [], _ => List.Pairwise.nil
  | x :: r, h => risingS_pw x r h
section
variable {K : PySem.W.Frag}
/-! ### lists of one kind -/
def intsOf : List Dv → Option (List Int)
  | [] => some []
  | .int i :: ds => match intsOf ds with
    | some ns => some (i :: ns)
    | none => none
  | _ => none
def strsOf : List Dv → Option (List Str)
  | [] => some []
  | .str i :: ds => match strsOf ds with
    | some ns => some (i :: ns)
    | none => none
  | _ => none
def blsOf : List Dv → Option (List Bool)
  | [] => some []
  | .bl i :: ds => match blsOf ds with
    | some ns => some (i :: ns)
    | none => none
  | _ => none
theorem intsOf_eq : ∀ {ds : List Dv} {ns : List Int}, intsOf ds = some ns → ds = ns.map Dv.int
  | [], _, e => by cases e; rfl
  | .int i :: ds, ns, e => by
    unfold intsOf at e
    split at e
    · rename_i n e1; cases e; rw [List.map_cons, intsOf_eq e1]
    · cases e
  | .non :: _, _, e | .bl _ :: _, _, e | .str _ :: _, _, e | .lst _ :: _, _, e | .tup _ :: _, _, e | .dct _ :: _, _, e | .dcT _ :: _, _, e | .scr _ :: _, _, e => by cases e
theorem strsOf_eq : ∀ {ds : List Dv} {ns : List Str}, strsOf ds = some ns → ds = ns.map Dv.str
  | [], _, e => by cases e; rfl
  | .str i :: ds, ns, e => by
    unfold strsOf at e
    split at e
    · rename_i n e1; cases e; rw [List.map_cons, strsOf_eq e1]
    · cases e
  | .non :: _, _, e | .bl _ :: _, _, e | .int _ :: _, _, e | .lst _ :: _, _, e | .tup _ :: _, _, e | .dct _ :: _, _, e | .dcT _ :: _, _, e | .scr _ :: _, _, e => by cases e
theorem blsOf_eq : ∀ {ds : List Dv} {ns : List Bool}, blsOf ds = some ns → ds = ns.map Dv.bl
  | [], _, e => by cases e; rfl
  | .bl i :: ds, ns, e => by
    unfold blsOf at e
    split at e
    · rename_i n e1; cases e; rw [List.map_cons, blsOf_eq e1]
    · cases e
  | .non :: _, _, e | .str _ :: _, _, e | .int _ :: _, _, e | .lst _ :: _, _, e | .tup _ :: _, _, e | .dct _ :: _, _, e | .dcT _ :: _, _, e | .scr _ :: _, _, e => by cases e
theorem intsOf_map : ∀ ns : List Int, intsOf (ns.map Dv.int) = some ns
  | [] => rfl
  | n :: ns => by rw [List.map_cons, intsOf, intsOf_map ns]
theorem strsOf_map : ∀ ns : List Str, strsOf (ns.map Dv.str) = some ns
  | [] => rfl
  | n :: ns => by rw [List.map_cons, strsOf, strsOf_map ns]
theorem blsOf_map : ∀ ns : List Bool, blsOf (ns.map Dv.bl) = some ns
  | [] => rfl
  | n :: ns => by rw [List.map_cons, blsOf, blsOf_map ns]
theorem DdA.ints {F : Hp} : ∀ {vs : List V} {ns : List Int}, DdA K F vs (ns.map Dv.int) → vs = ns.map V.int
  | _, [], h => by cases h; rfl
  | _, n :: ns, h => by
    cases h with
    | cons h t => cases h; rw [List.map_cons, DdA.ints t]
theorem DdA.strs {F : Hp} : ∀ {vs : List V} {ns : List Str}, DdA K F vs (ns.map Dv.str) → vs = ns.map V.str
  | _, [], h => by cases h; rfl
  | _, n :: ns, h => by
    cases h with
    | cons h t => cases h; rw [List.map_cons, DdA.strs t]
theorem DdA.bls {F : Hp} : ∀ {vs : List V} {ns : List Bool}, DdA K F vs (ns.map Dv.bl) → vs = ns.map V.bl
  | _, [], h => by cases h; rfl
  | _, n :: ns, h => by
    cases h with
    | cons h t => cases h; rw [List.map_cons, DdA.bls t]
theorem ddA_strs {F : Hp} : ∀ ns : List Str, DdA K F (ns.map V.str) (ns.map Dv.str)
  | [] => .nil
  | n :: ns => .cons (.str n) (ddA_strs ns)
theorem pr1 {α β : Type} {G : α → β → Prop} {vs : List α} {d : β} (h : Paired G vs [d]) : ∃ v, vs = [v] ∧ G v d := by
  cases h with
  | cons h t => cases t; exact ⟨_, rfl, h⟩
theorem pr2 {α β : Type} {G : α → β → Prop} {vs : List α} {d e : β} (h : Paired G vs [d, e]) : ∃ v u, vs = [v, u] ∧ G v d ∧ G u e := by
  cases h with
  | cons h t =>
    obtain ⟨u, rfl, k⟩ := pr1 t
    exact ⟨_, _, rfl, h, k⟩

/-! ### len -/
def rLenX (K : PySem.W.Frag) : List V → Hp → VK → Prop := fun xs H Q => (∃ x n, xs = [x] ∧ LenV K x H n ∧ Q (.int n) H) ∨ ∃ a kvs, xs = [.ref a] ∧ Rd H a (.dK kvs) ∧ Q (.int (kvs.length : Nat)) H
theorem call_lenX {X : Cx} : CallR X (.builtin "len") (rLenX X.K) := call_len.or fun pins s σ H xs us Q I r h => by
  obtain ⟨a, kvs, rfl, ha, q⟩ := h
  obtain ⟨u, rfl, ru⟩ := vals1 r
  cases ru
  exact d_len I ha fun t s' I' => ⟨.int kvs.length, H, I', ⟨t, rfl⟩, q⟩
def bLen : List Dv → Option Dv
  | [.lst ds] => some (.int (ds.length : Nat))
  | [.tup ds] => some (.int (ds.length : Nat))
  | [.scr ds] => some (.int (ds.length : Nat))
  | [.dct ds] => some (.int (ds.length : Nat))
  | [.str z] => if z.length ≤ 1000000 then some (.int (z.length : Nat)) else none
  | _ => none
theorem cb_len : CRD K (rLenX K) bLen := by
  intro H F L vs ds d Q D h e q
  unfold bLen at e
  split at e
  · cases e
    obtain ⟨v, rfl, dr⟩ := pr1 h
    obtain ⟨a, xs, rfl, h1, d1⟩ := dr.lst D
    exact .inl ⟨_, _, rfl, .inl ⟨xs, SqL.of h1, d1.len.symm⟩, q _ _ _ (Same.refl _) D (.int _)⟩
  · cases e
    obtain ⟨v, rfl, dr⟩ := pr1 h
    obtain ⟨a, xs, rfl, h1, d1⟩ := dr.tup D
    exact .inl ⟨_, _, rfl, .inr ⟨xs, SqT.of h1, d1.len.symm⟩, q _ _ _ (Same.refl _) D (.int _)⟩
  · cases e
    obtain ⟨v, rfl, dr⟩ := pr1 h
    obtain ⟨a, rfl, h1⟩ := dr.scr D
    exact .inl ⟨_, _, rfl, .inl ⟨_, h1, (List.length_map ..).symm⟩, q _ _ _ (Same.refl _) D (.int _)⟩
  · cases e
    obtain ⟨v, rfl, dr⟩ := pr1 h
    obtain ⟨a, kvs, rfl, h1, d1⟩ := dr.dct D
    refine .inr ⟨a, kvs, rfl, h1, ?_⟩
    rw [d1.len]
    exact q _ _ _ (Same.refl _) D (.int _)
  · split at e
    · rename_i hl
      cases e
      obtain ⟨v, rfl, dr⟩ := pr1 h
      rw [dr.str]
      exact .inl ⟨_, _, rfl, ⟨le_line hl, rfl⟩, q _ _ _ (Same.refl _) D (.int _)⟩
    · cases e
  · cases e
/-! ### min, max of two ints; int of a bool -/
def bMin2 : List Dv → Option Dv
  | [.int i, .int j] => some (.int (if j < i then j else i))
  | _ => none
def bMax2 : List Dv → Option Dv
  | [.int i, .int j] => some (.int (if j > i then j else i))
  | _ => none
theorem cb_min2 : CRD K (fun xs H Q => ∃ i j, xs = [.int i, .int j] ∧ Q (.int (if j < i then j else i)) H) bMin2 := by
  intro H F L vs ds d Q D h e q
  unfold bMin2 at e
  split at e
  · cases e
    obtain ⟨v, u, rfl, d1, d2⟩ := pr2 h
    rw [d1.int, d2.int]
    exact ⟨_, _, rfl, q _ _ _ (Same.refl _) D (.int _)⟩
  · cases e
theorem cb_max2 : CRD K (fun xs H Q => ∃ i j, xs = [.int i, .int j] ∧ Q (.int (if j > i then j else i)) H) bMax2 := by
  intro H F L vs ds d Q D h e q
  unfold bMax2 at e
  split at e
  · cases e
    obtain ⟨v, u, rfl, d1, d2⟩ := pr2 h
    rw [d1.int, d2.int]
    exact ⟨_, _, rfl, q _ _ _ (Same.refl _) D (.int _)⟩
  · cases e
def bInt1 : List Dv → Option Dv
  | [.int i] => some (.int i)
  | [.bl b] => some (.int (if b then 1 else 0))
  | _ => none
theorem cb_int1 : CRD K (fun xs H Q => (∃ i, xs = [.int i] ∧ Q (.int i) H) ∨ ∃ k, xs = [.bl k] ∧ Q (.int (if k then 1 else 0)) H) bInt1 := by
  intro H F L vs ds d Q D h e q
  unfold bInt1 at e
  split at e
  · cases e
    obtain ⟨v, rfl, d1⟩ := pr1 h
    rw [d1.int]
    exact .inl ⟨_, rfl, q _ _ _ (Same.refl _) D (.int _)⟩
  · cases e
    obtain ⟨v, rfl, d1⟩ := pr1 h
    rw [d1.bl]
    exact .inr ⟨_, rfl, q _ _ _ (Same.refl _) D (.int _)⟩
  · cases e
/-! ### all, any, sum -/
def bAll : List Dv → Option Dv
  | [.lst ds] => match blsOf ds with
    | some bs => some (.bl (bs.all id))
    | none => none
  | _ => none
def bAny : List Dv → Option Dv
  | [.lst ds] => match blsOf ds with
    | some bs => some (.bl (bs.any id))
    | none => none
  | _ => none
def bSum : List Dv → Option Dv
  | [.lst ds] => match intsOf ds with
    | some bs => some (.int bs.sum)
    | none => none
  | _ => none
theorem cb_all : CRD K (rAll K) bAll := by
  intro H F L vs ds d Q D h e q
  unfold bAll at e
  split at e
  · split at e
    · rename_i bs eb
      cases e
      obtain ⟨v, rfl, dr⟩ := pr1 h
      obtain ⟨a, xs, rfl, h1, d1⟩ := dr.lst D
      rw [blsOf_eq eb] at d1
      rw [d1.bls] at h1
      exact ⟨a, bs, rfl, SqL.of h1, q _ _ _ (Same.refl _) D (.bl _)⟩
    · cases e
  · cases e
theorem cb_any : CRD K (rAny K) bAny := by
  intro H F L vs ds d Q D h e q
  unfold bAny at e
  split at e
  · split at e
    · rename_i bs eb
      cases e
      obtain ⟨v, rfl, dr⟩ := pr1 h
      obtain ⟨a, xs, rfl, h1, d1⟩ := dr.lst D
      rw [blsOf_eq eb] at d1
      rw [d1.bls] at h1
      exact ⟨a, bs, rfl, SqL.of h1, q _ _ _ (Same.refl _) D (.bl _)⟩
    · cases e
  · cases e
theorem cb_sum : CRD K (rSum K) bSum := by
  intro H F L vs ds d Q D h e q
  unfold bSum at e
  split at e
  · split at e
    · rename_i bs eb
      cases e
      obtain ⟨v, rfl, dr⟩ := pr1 h
      obtain ⟨a, xs, rfl, h1, d1⟩ := dr.lst D
      rw [intsOf_eq eb] at d1
      rw [d1.ints] at h1
      exact ⟨a, bs, rfl, SqL.of h1, q _ _ _ (Same.refl _) D (.int _)⟩
    · cases e
  · cases e
/-! ### list(x), tuple(x), dict(x), sorted(x) -/
def rListX (K : PySem.W.Frag) : List V → Hp → VK → Prop := fun xs H Q => (∃ p ys, xs = [.ref p] ∧ (SqL K H p ys ∨ SqT K H p ys) ∧ ∀ l, H l = none → Q (.ref l) (upd H l (.lst ys))) ∨ (rListStr xs H Q ∨
  ∃ (a : Addr) (kvs : List (Key × V)), xs = [.ref a] ∧ Rd H a (.dK kvs) ∧ ∀ p, H p = none → Q (.ref p) (upd H p (.lst (kvs.map fun kv => kV kv.1))))
theorem call_listX {X : Cx} (hc : X.calm = true) : CallR X (.type "list") (rListX X.K) := call_list_of.or ((call_listStr hc).or (call_listD hc))
def keyD : Key → Dv
  | .inl i => .int i
  | .inr x => .str x
theorem dd_key {F : Hp} (k : Key) : Dd K F (kV k) (keyD k) := by
  cases k with
  | inl i => exact .int i
  | inr x => exact .str x
theorem DdK.keysD {F : Hp} : ∀ {kvs : List (Key × V)} {ds : List (Key × Dv)}, DdK K F kvs ds → DdA K F (kvs.map fun kv => kV kv.1) (ds.map fun p => keyD p.1)
  | _, _, .nil => .nil
  | _, _, .cons (k := k) _ t => .cons (dd_key k) (DdK.keysD t)
def signD (z : Str) : List Dv := z.cps.toList.map fun c => Dv.str ⟨#[c]⟩
theorem dd_signs {F : Hp} (z : Str) : DdA K F (signV z) (signD z) := by
  unfold signV signD
  generalize z.cps.toList = l
  induction l with
  | nil => exact .nil
  | cons c l ih => exact .cons (.str _) ih
def bList : List Dv → Option Dv
  | [.lst ds] => some (.lst ds)
  | [.tup ds] => some (.lst ds)
  | [.scr ns] => some (.lst (ns.map Dv.int))
  | [.str z] => if z.length ≤ 1000000 then some (.lst (signD z)) else none
  | [.dct ds] => some (.lst (ds.map fun p => keyD p.1))
  | _ => none
theorem co_list : CRO K (rListX K) bList := by
  intro H F L vs ds d Q D h e q
  unfold bList at e
  split at e
  · cases e
    obtain ⟨v, rfl, dr⟩ := pr1 h
    obtain ⟨a, xs, rfl, h1, d1⟩ := dr.lst D
    exact .inl ⟨a, xs, rfl, .inl (SqL.of h1), fun p np => q p _ _ np rfl (.lst d1)⟩
  · cases e
    obtain ⟨v, rfl, dr⟩ := pr1 h
    obtain ⟨a, xs, rfl, h1, d1⟩ := dr.tup D
    exact .inl ⟨a, xs, rfl, .inr (SqT.of h1), fun p np => q p _ _ np rfl (.lst d1)⟩
  · cases e
    obtain ⟨v, rfl, dr⟩ := pr1 h
    obtain ⟨a, rfl, h1⟩ := dr.scr D
    exact .inl ⟨a, _, rfl, .inl h1, fun p np => q p _ _ np rfl (.lst (ddA_ints _))⟩
  · split at e
    · rename_i hl
      cases e
      obtain ⟨v, rfl, dr⟩ := pr1 h
      rw [dr.str]
      exact .inr (.inl ⟨_, rfl, le_line hl, fun p np => q p _ _ np rfl (.lst (dd_signs _))⟩)
    · cases e
  · cases e
    obtain ⟨v, rfl, dr⟩ := pr1 h
    obtain ⟨a, kvs, rfl, h1, d1⟩ := dr.dct D
    exact .inr (.inr ⟨a, kvs, rfl, h1, fun p np => q p _ _ np rfl (.lst d1.keysD)⟩)
  · cases e
/-- dict of a list of pairs; of a dict -/
def rDictX (K : PySem.W.Frag) : List V → Hp → VK → Prop := fun xs H Q => (∃ (a : Addr) (ps : List Addr) (kvs : List (Key × V)), xs = [.ref a] ∧ SqL K H a (ps.map V.ref) ∧ Paired (fun p kv => SqT K H p [kV kv.1, kv.2]) ps kvs ∧
    ∀ p, H p = none → Q (.ref p) (upd H p (.dK (mergeK [] kvs)))) ∨ ∃ (a : Addr) (kvs : List (Key × V)), xs = [.ref a] ∧ Rd H a (.dK kvs) ∧ ∀ p, H p = none → Q (.ref p) (upd H p (.dK kvs))
theorem call_dictX {X : Cx} (hc : X.calm = true) : CallR X (.type "dict") (rDictX X.K) := (call_dictP hc).or call_dictD
def pairsOf : List Dv → Option (List (Key × Dv))
  | [] => some []
  | .tup [a, b] :: ds => match keyOf a, pairsOf ds with
    | some k, some ps => some ((k, b) :: ps)
    | _, _ => none
  | _ => none
def mergeD (kvs more : List (Key × Dv)) : List (Key × Dv) := more.foldl (fun acc kv => putD acc kv.1 kv.2) kvs
theorem DdK.merge {F : Hp} : ∀ {ms : List (Key × Dv)} {more : List (Key × V)} {kvs : List (Key × V)} {ds : List (Key × Dv)}, DdK K F more ms → DdK K F kvs ds → DdK K F (mergeK kvs more) (mergeD ds ms)
  | [], _, _, _, h, k => by cases h; exact k
  | (k, d) :: ms, _, _, _, h, g => by
    cases h with
    | @cons _ v kvs' _ _ r t =>
      rename_i kvs0 ds0
      show DdK K F (mergeK (putK kvs0 k v) kvs') (mergeD (putD ds0 k d) ms)
      exact DdK.merge t (g.put r)
theorem pairs_core {F : Hp} : ∀ {vs : List V} {ds : List Dv} {ps : List (Key × Dv)}, DdA K F vs ds → pairsOf ds = some ps → ∃ (as : List Addr) (kvs : List (Key × V)), vs = as.map V.ref ∧ Paired (fun p kv => F p = some (.tup [kV kv.1, kv.2])) as kvs ∧ DdK K F kvs ps
  | _, [], _, h, e => by cases h; cases e; exact ⟨[], [], rfl, .nil, .nil⟩
  | _, .tup [a, b] :: ds, ps, h, e => by
    cases h with
    | cons h t =>
      unfold pairsOf at e
      split at e
      · rename_i k ps' e1 e2
        cases e
        obtain ⟨as, kvs, rfl, h1, h2⟩ := pairs_core t e2
        cases h with
        | @tup p xs _ hp hs =>
          cases hs with
          | cons ha hs =>
            cases hs with
            | cons hb hs =>
              cases hs
              rename_i va vb
              have ea : va = kV k := Dr.key (H := F) (.inl ha) e1
              subst ea
              exact ⟨p :: as, (k, vb) :: kvs, rfl, .cons hp h1, .cons hb h2⟩
      · cases e
  | _, .tup [] :: _, _, _, e | _, .tup [_] :: _, _, _, e | _, .tup (_ :: _ :: _ :: _) :: _, _, _, e => by cases e
  | _, .non :: _, _, _, e | _, .bl _ :: _, _, _, e | _, .int _ :: _, _, _, e | _, .str _ :: _, _, _, e | _, .lst _ :: _, _, _, e | _, .dct _ :: _, _, _, e | _, .dcT _ :: _, _, _, e | _, .scr _ :: _, _, _, e => by cases e
def bDict : List Dv → Option Dv
  | [.lst ds] => match pairsOf ds with
    | some ps => some (.dct (mergeD [] ps))
    | none => none
  | [.dct ds] => some (.dct ds)
  | _ => none
theorem co_dict : CRO K (rDictX K) bDict := by
  intro H F L vs ds d Q D h e q
  unfold bDict at e
  split at e
  · split at e
    · rename_i ps ep
      cases e
      obtain ⟨v, rfl, dr⟩ := pr1 h
      obtain ⟨a, xs, rfl, h1, d1⟩ := dr.lst D
      obtain ⟨as, kvs, rfl, h2, h3⟩ := pairs_core d1 ep
      exact .inl ⟨a, as, kvs, rfl, SqL.of h1, L2.Paired.mapP h2 fun p kv z => SqT.of (D.ext _ _ z), fun p np => q p _ _ np rfl (.dct (h3.merge .nil))⟩
    · cases e
  · cases e
    obtain ⟨v, rfl, dr⟩ := pr1 h
    obtain ⟨a, kvs, rfl, h1, d1⟩ := dr.dct D
    exact .inr ⟨a, kvs, rfl, h1, fun p np => q p _ _ np rfl (.dct d1)⟩
  · cases e
/-- sorted of texts, of ints, of a dict's keys -/
def rSortX (K : PySem.W.Frag) : List V → Hp → VK → Prop := fun xs H Q => rSortedS K xs H Q ∨ (rSorted K xs H Q ∨ ∃ (a : Addr) (kvs : List (Key × V)) (ks : List Str), xs = [.ref a] ∧ Rd H a (.dK kvs) ∧ kvs.map (·.1) = ks.map Sum.inr ∧ ks.length < 64 ∧
    ∀ ys p, ys.Perm ks → sortedS ys = true → H p = none → Q (.ref p) (upd H p (.lst (ys.map V.str))))
theorem call_sortX {X : Cx} (hc : X.calm = true) : CallR X (.builtin "sorted") (rSortX X.K) := cr_sortedS.or (cr_sorted.or (call_sortedD hc))
def skeys : List (Key × Dv) → Option (List Str)
  | [] => some []
  | (.inr x, _) :: ds => match skeys ds with
    | some ks => some (x :: ks)
    | none => none
  | (.inl _, _) :: _ => none
theorem skeys_eq : ∀ {ds : List (Key × Dv)} {ks : List Str}, skeys ds = some ks → ds.map (·.1) = ks.map Sum.inr
  | [], _, e => by cases e; rfl
  | (.inr x, _) :: ds, ks, e => by
    unfold skeys at e
    split at e
    · rename_i k e1; cases e; rw [List.map_cons, List.map_cons, skeys_eq e1]
    · cases e
  | (.inl _, _) :: _, _, e => by cases e
def bSort : List Dv → Option Dv
  | [.lst ds] => match strsOf ds with
    | some xs => if xs.length < 64 then some (.lst ((srt leS xs).map Dv.str)) else none
    | none => match intsOf ds with
      | some xs => if xs.length < 64 then some (.lst ((srt leI xs).map Dv.int)) else none
      | none => none
  | [.dct ds] => match skeys ds with
    | some xs => if xs.length < 64 then some (.lst ((srt leS xs).map Dv.str)) else none
    | none => none
  | _ => none
theorem co_sort : CRO K (rSortX K) bSort := by
  intro H F L vs ds d Q D h e q
  unfold bSort at e
  split at e
  · split at e
    · rename_i xs ex
      split at e
      · rename_i hl
        cases e
        obtain ⟨v, rfl, dr⟩ := pr1 h
        obtain ⟨a, ys, rfl, h1, d1⟩ := dr.lst D
        rw [strsOf_eq ex] at d1
        rw [d1.strs] at h1
        refine .inl ⟨a, xs, rfl, SqL.of h1, hl, fun zs p pm st np => ?_⟩
        rw [srt_is totS pm (sortedS_pw _ st)]
        exact q p _ _ np rfl (.lst (ddA_strs _))
      · cases e
    · split at e
      · rename_i xs ex
        split at e
        · rename_i hl
          cases e
          obtain ⟨v, rfl, dr⟩ := pr1 h
          obtain ⟨a, ys, rfl, h1, d1⟩ := dr.lst D
          rw [intsOf_eq ex] at d1
          rw [d1.ints] at h1
          refine .inr (.inl ⟨a, xs, rfl, SqL.of h1, hl, fun zs p pm st np => ?_⟩)
          rw [srt_is totI pm (st.imp fun h => decide_eq_true h)]
          exact q p _ _ np rfl (.lst (ddA_ints _))
        · cases e
      · cases e
  · split at e
    · rename_i xs ex
      split at e
      · rename_i hl
        cases e
        obtain ⟨v, rfl, dr⟩ := pr1 h
        obtain ⟨a, kvs, rfl, h1, d1⟩ := dr.dct D
        refine .inr (.inr ⟨a, kvs, xs, rfl, h1, by rw [d1.keys, skeys_eq ex], hl, fun zs p pm st np => ?_⟩)
        rw [srt_is totS pm (sortedS_pw _ st)]
        exact q p _ _ np rfl (.lst (ddA_strs _))
      · cases e
    · cases e
  · cases e
/-! ### isinstance, type -/
def tyN : Dv → String
  | .non => "NoneType" | .bl _ => "bool" | .int _ => "int" | .str _ => "str" | .lst _ => "list" | .scr _ => "list" | .tup _ => "tuple" | .dct _ => "dict" | .dcT _ => "dict"
def noT : Dv → Bool
  | .dcT _ => false | .scr _ => false
  | _ => true
theorem Dd.tyx {H : Hp} {v : V} {d : Dv} (h : Dd K H v d) (n : noT d = true) : TyX K H v (.type (tyN d)) := by
  cases h with
  | non => exact .base .non
  | bl b => exact .base (.bl b)
  | int i => exact .base (.int i)
  | str x => exact .base (.str x)
  | lst h hs => exact .base (.lst h)
  | scr h => cases n
  | tup h hs => exact .base (.tup h)
  | dct h hs =>
    rcases h with h | ⟨o, h⟩
    · exact .base (.dK h)
    · exact .fDict h
  | dcT h hs => cases n
theorem tyN_mem {d : Dv} : tyN d ∈ ["NoneType", "bool", "int", "str", "list", "tuple", "dict"] := by cases d <;> simp [tyN]
def fIsi (t : String) (fe : Env → Option (Rv × Env)) (δ : Env) : Option (Rv × Env) := match got fe δ with
  | some (d, δ') => if noT d then some (.dv (.bl (isT (tyN d) t)), δ') else none
  | none => none
theorem de_isi {te : TE} {fe : Env → Option (Rv × Env)} {t : String} (ht : t ∈ ["int", "bool", "str", "dict", "list", "tuple"]) (he : DE K te fe) : DE K (tCB (rIsi K) (tCons te (tCons (tC (.ty t)) tNil))) (fIsi t fe) := by
  intro α σ H F L R δ δ' r Q D S e q
  unfold fIsi at e
  split at e
  · rename_i d δ1 e1
    split at e
    · rename_i hn
      cases e
      refine he.rd D S e1 fun v H' F' L' s D' S' dr => ?_
      exact ⟨v, .ty t, .type (tyN d), .type t, _, rfl, .ty t, (dr.dd D').tyx hn, kit_ty (kit_all _ tyN_mem t ht), q _ H' F' L' s D' S' (.bl _)⟩
    · cases e
  · cases e
/-- type(x), of any data -/
def rTypX (K : PySem.W.Frag) : List V → Hp → VK → Prop := fun xs H Q => ∃ x d, xs = [x] ∧ Dd K H x d ∧ noT d = true ∧ Q (.ty (tyN d)) H
theorem call_typeX {X : Cx} : CallR X (.type "type") (rTypX X.K) := by
  intro pins s σ H xs us Q I r h
  obtain ⟨x, d, rfl, hd, hn, q⟩ := h
  obtain ⟨u, rfl, rx⟩ := vals1 r
  have : s.TypeIs u (tyN d) := by
    cases hd with
    | non => exact (TyB.non : TyB X.K H _ _).is I rx
    | bl b => exact (TyB.bl b : TyB X.K H _ _).is I rx
    | int i => exact (TyB.int i : TyB X.K H _ _).is I rx
    | str x => exact (TyB.str x : TyB X.K H _ _).is I rx
    | lst h hs => exact (TyB.lst (SqL.of h) : TyB X.K H _ _).is I rx
    | scr h => cases hn
    | tup h hs => exact (TyB.tup (SqT.of h) : TyB X.K H _ _).is I rx
    | dct h hs =>
      cases (show u = Value.ref _ from rx)
      obtain ⟨z, hd, vs, rel, dd⟩ := dk_rd I.hok h
      exact dd.typeIs
    | dcT h hs => cases hn
  have nb : (Value.type (tyN d) == Value.type "builtin_function_or_method") = false := by unfold tyN; cases d <;> exact rfl
  exact call_type_of this nb ⟨.ty (tyN d), H, I, rfl, q⟩
theorem isTy_of {t : String} (h : t ∈ ["NoneType", "bool", "int", "str", "list", "tuple", "dict"]) : IsTy t := by
  simp only [List.mem_cons, List.not_mem_nil, or_false] at h
  rcases h with rfl | rfl | rfl | rfl | rfl | rfl | rfl
  · exact TypeEq.meta_NoneType
  · exact TypeEq.meta_bool
  · exact TypeEq.meta_int
  · exact TypeEq.meta_str
  · exact TypeEq.meta_list
  · exact TypeEq.meta_tuple
  · exact TypeEq.meta_dict
def fTyEq (t : String) (fe : Env → Option (Rv × Env)) (δ : Env) : Option (Rv × Env) := match got fe δ with
  | some (d, δ') => if noT d then some (.dv (.bl (decide (tyN d = t))), δ') else none
  | none => none
theorem de_tyEq {te : TE} {fe : Env → Option (Rv × Env)} {t : String} (ht : t ∈ ["NoneType", "bool", "int", "str", "list", "tuple", "dict"]) (he : DE K te fe) : DE K (tOp (rEqA K) (tCB (rTypX K) (tCons te tNil)) (tC (.ty t))) (fTyEq t fe) := by
  intro α σ H F L R δ δ' r Q D S e q
  unfold fTyEq at e
  split at e
  · rename_i d δ1 e1
    split at e
    · rename_i hn
      cases e
      refine he.rd D S e1 fun v H' F' L' s D' S' dr => ?_
      exact ⟨v, d, rfl, dr.dd D', hn, .inr (.inr ⟨_, _, rfl, rfl, isTy_of tyN_mem, isTy_of ht, q _ H' F' L' s D' S' (.bl _)⟩)⟩
    · cases e
  · cases e
end
end FD
namespace FD
open PySem PySem.Spec PyProof.Rows L2 FL
section
variable {K : PySem.W.Frag}
/-! ### what is walked -/
structure WalkD (K : PySem.W.Frag) (J : It) (F : Hp) (ds : List Dv) : Prop where
  go : ∀ (i : Nat) (H F' : Hp) (L : List (Addr × HO)), Same F F' → Led H F' L → i < ds.length → J.go i H
  yld : ∀ (i : Nat) (H : Hp) (x : V) (H' F' : Hp) (L : List (Addr × HO)) (d : Dv), Same F F' → Led H F' L → ds[i]? = some d → J.yld i H x H' → ∃ F2, Same F' F2 ∧ Led H' F2 L ∧ Dd K F2 x d
  stop : ∀ (H F' : Hp) (L : List (Addr × HO)), Same F F' → Led H F' L → J.stop ds.length H
theorem walkD_list {F : Hp} {a : Addr} {xs : List V} {ds : List Dv} (h : SqL K F a xs) (hd : DdA K F xs ds) : WalkD K (Itl K a) F ds where
  go := fun i H F' L s D hi => by
    have hl := hd.len
    exact ⟨xs, xs[i], (D.seq (Same.seq s h)), by simp [hl, hi]⟩
  yld := fun i H x H' F' L d s D e y => by
    obtain ⟨rfl, y⟩ := y
    have := y xs (D.seq (Same.seq s h))
    obtain ⟨v, e1, r⟩ := hd.get e
    rw [e1] at this
    cases this
    exact ⟨F', Same.refl _, D, r.mono (Le.of s)⟩
  stop := fun H F' L s D => ⟨xs, D.seq (Same.seq s h), by rw [hd.len]; exact Nat.le_refl _⟩
theorem walkD_tup {F : Hp} {a : Addr} {xs : List V} {ds : List Dv} (h : F a = some (.tup xs)) (hd : DdA K F xs ds) : WalkD K (Itt K a) F ds where
  go := fun i H F' L s D hi => by
    have hl := hd.len
    exact ⟨xs, xs[i], SqT.of (D.frz (s _ _ h)), by simp [hl, hi]⟩
  yld := fun i H x H' F' L d s D e y => by
    obtain ⟨rfl, y⟩ := y
    have := y xs (SqT.of (D.frz (s _ _ h)))
    obtain ⟨v, e1, r⟩ := hd.get e
    rw [e1] at this
    cases this
    exact ⟨F', Same.refl _, D, r.mono (Le.of s)⟩
  stop := fun H F' L s D => ⟨xs, SqT.of (D.frz (s _ _ h)), by rw [hd.len]; exact Nat.le_refl _⟩
theorem walkD_str {F : Hp} {z : Str} : WalkD K (Its z) F (signD z) where
  go := fun i H F' L s D hi => by
    show i < z.cps.size
    simpa [signD] using hi
  yld := fun i H x H' F' L d s D e y => by
    obtain ⟨rfl, c, hc, rfl⟩ := y
    unfold signD at e
    rw [List.getElem?_map] at e
    have : z.cps.toList[i]? = some c := by simpa using hc
    rw [this] at e
    cases e
    exact ⟨F', Same.refl _, D, .str _⟩
  stop := fun H F' L s D => by show z.cps.size ≤ (signD z).length; simp [signD]
def rngD (lo : Int) (n : Nat) : List Dv := (List.range n).map fun (i : Nat) => Dv.int (lo + (i : Int))
theorem walkD_rng {F : Hp} {lo : Int} {n : Nat} : WalkD K (Itr lo n) F (rngD lo n) where
  go := fun i H F' L s D hi => by
    show i < n
    simpa [rngD] using hi
  yld := fun i H x H' F' L d s D e y => by
    obtain ⟨rfl, rfl⟩ := y
    unfold rngD at e
    rw [List.getElem?_map] at e
    cases h : (List.range n)[i]? with
    | none => rw [h] at e; cases e
    | some j =>
      rw [h] at e
      cases e
      have : j = i := by
        have := List.getElem?_eq_some_iff.mp h
        obtain ⟨h1, h2⟩ := this
        simpa using h2.symm
      subst this
      exact ⟨F', Same.refl _, D, .int _⟩
  stop := fun H F' L s D => by show n ≤ (rngD lo n).length; simp [rngD]
def enumD : List Dv → List Dv := fun ds => (ds.zipIdx).map fun p => Dv.tup [.int (p.2 : Nat), p.1]
theorem walkD_enum {F : Hp} {a : Addr} {xs : List V} {ds : List Dv} (h : SqL K F a xs) (hd : DdA K F xs ds) : WalkD K (Ite K a) F (enumD ds) where
  go := fun i H F' L s D hi => by
    have hl := hd.len
    have hi : i < xs.length := by simpa [enumD, hl] using hi
    exact ⟨xs, xs[i], (D.seq (Same.seq s h)), by simp [hi]⟩
  yld := fun i H x H' F' L d s D e y => by
    obtain ⟨T, x0, rfl, hT, rfl, y⟩ := y
    have := y xs (D.seq (Same.seq s h))
    obtain ⟨d0, e1, r⟩ := hd.get' this
    unfold enumD at e
    rw [List.getElem?_map, List.getElem?_zipIdx, e1] at e
    have e : Dv.tup [.int ((0 + i : Nat) : Int), d0] = d := Option.some.inj e
    subst e
    obtain ⟨F2, s2, hT2, -, D2⟩ := D.nf hT rfl
    refine ⟨F2, s2, D2, .tup hT2 (.cons ?_ (.cons (r.mono (Le.of (s.trans s2))) .nil))⟩
    rw [show ((0 + i : Nat) : Int) = ((i : Nat) : Int) by simp]
    exact .int _
  stop := fun H F' L s D => ⟨xs, D.seq (Same.seq s h), by simp [enumD, hd.len]⟩
def zipD : List Dv → List Dv → List Dv := fun ds es => (ds.zip es).map fun p => Dv.tup [p.1, p.2]
theorem walkD_zip {F : Hp} {a b : Addr} {xs ys : List V} {ds es : List Dv} (h : SqL K F a xs) (hd : DdA K F xs ds) (h' : SqL K F b ys) (hd' : DdA K F ys es) : WalkD K (Itz K a b) F (zipD ds es) where
  go := fun i H F' L s D hi => by
    have hl := hd.len
    have hl' := hd'.len
    have hi : i < xs.length ∧ i < ys.length := by simp [zipD] at hi; omega
    exact ⟨xs, ys, xs[i]'hi.1, ys[i]'hi.2, (D.seq (Same.seq s h)), (D.seq (Same.seq s h')), by simp [hi], by simp [hi]⟩
  yld := fun i H x H' F' L d s D e y => by
    obtain ⟨T, x0, y0, rfl, hT, rfl, q1, q2⟩ := y
    obtain ⟨d0, e1, r⟩ := hd.get' (q1 xs (D.seq (Same.seq s h)))
    obtain ⟨d1, e2, r2⟩ := hd'.get' (q2 ys (D.seq (Same.seq s h')))
    unfold zipD at e
    rw [List.getElem?_map, (List.getElem?_zip_eq_some (z := (d0, d1))).mpr ⟨e1, e2⟩] at e
    have e : Dv.tup [d0, d1] = d := Option.some.inj e
    subst e
    obtain ⟨F2, s2, hT2, -, D2⟩ := D.nf hT rfl
    exact ⟨F2, s2, D2, .tup hT2 (.cons (r.mono (Le.of (s.trans s2))) (.cons (r2.mono (Le.of (s.trans s2))) .nil))⟩
  stop := fun H F' L s D => by
    have hl := hd.len
    have hl' := hd'.len
    exact ⟨xs, ys, D.seq (Same.seq s h), D.seq (Same.seq s h'), by simp [zipD]; omega⟩
/-- iterables -/
def DI (K : PySem.W.Frag) (ti : TI) (fi : Env → Option (List Dv × Env)) : Prop :=
  ∀ (α : Nat → Addr) (σ : L2.St) (H F : Hp) (L R : List (Addr × HO)) (δ δ' : Env) (ds : List Dv) (Q : It → Hp → Prop), Led H F (L ++ R) → RelS K F α σ δ L → fi δ = some (ds, δ') →
    (∀ J H' F' L', Same F F' → Led H' F' (L' ++ R) → RelS K F' α σ δ' L' → WalkD K J F' ds → Q J H') → ti σ H Q
def itL (fe : Env → Option (Rv × Env)) (δ : Env) : Option (List Dv × Env) := match fe δ with
  | some (.dv (.lst ds), δ') => some (ds, δ')
  | some (.dv (.scr ns), δ') => some (ns.map Dv.int, δ')
  | _ => none
def itT (fe : Env → Option (Rv × Env)) (δ : Env) : Option (List Dv × Env) := match fe δ with
  | some (.dv (.tup ds), δ') => some (ds, δ')
  | _ => none
def itS (fe : Env → Option (Rv × Env)) (δ : Env) : Option (List Dv × Env) := match fe δ with
  | some (.dv (.str z), δ') => some (signD z, δ')
  | _ => none
theorem di_list {te : TE} {fe : Env → Option (Rv × Env)} (he : DE K te fe) : DI K (iList K te) (itL fe) := by
  intro α σ H F L R δ δ' ds Q D S e q
  unfold itL at e
  split at e
  · rename_i ds' δ1 e1
    cases e
    refine he α σ H F L R δ _ _ _ D S e1 fun v H' F' L' s D' S' r => ?_
    have r : Dd K F' v (.lst ds) := r
    cases r with
    | lst h hs => exact ⟨_, rfl, ⟨_, SqL.of (D'.frz h)⟩, q _ H' F' L' s D' S' (walkD_list (SqL.of h) hs)⟩
  · rename_i ds' δ1 e1
    cases e
    refine he α σ H F L R δ _ _ _ D S e1 fun v H' F' L' s D' S' r => ?_
    have r : Dd K F' v (.scr ds') := r
    cases r with
    | scr h => exact ⟨_, rfl, ⟨_, D'.seq h⟩, q _ H' F' L' s D' S' (walkD_list h (ddA_ints _))⟩
  · cases e
theorem di_tup {te : TE} {fe : Env → Option (Rv × Env)} (he : DE K te fe) : DI K (iTup K te) (itT fe) := by
  intro α σ H F L R δ δ' ds Q D S e q
  unfold itT at e
  split at e
  · rename_i ds' δ1 e1
    cases e
    refine he α σ H F L R δ _ _ _ D S e1 fun v H' F' L' s D' S' r => ?_
    have r : Dd K F' v (.tup ds) := r
    cases r with
    | tup h hs => exact ⟨_, rfl, ⟨_, SqT.of (D'.frz h)⟩, q _ H' F' L' s D' S' (walkD_tup h hs)⟩
  · cases e
theorem di_str {te : TE} {fe : Env → Option (Rv × Env)} (he : DE K te fe) : DI K (iStr te) (itS fe) := by
  intro α σ H F L R δ δ' ds Q D S e q
  unfold itS at e
  split at e
  · rename_i z δ1 e1
    cases e
    refine he α σ H F L R δ _ _ _ D S e1 fun v H' F' L' s D' S' r => ?_
    have r : Dd K F' v (.str z) := r
    cases r
    exact ⟨_, rfl, q _ H' F' L' s D' S' walkD_str⟩
  · cases e
def itR1 (fa : Env → Option (List Rv × Env)) (δ : Env) : Option (List Dv × Env) := match fa δ with
  | some ([.dv (.int j)], δ') => if j ≤ 1000000 ∧ -1000000 ≤ j then some (rngD 0 j.toNat, δ') else none
  | _ => none
def itR2 (fa : Env → Option (List Rv × Env)) (δ : Env) : Option (List Dv × Env) := match fa δ with
  | some ([.dv (.int i), .dv (.int j)], δ') => if j ≤ 1000000 ∧ -1000000 ≤ j ∧ i ≤ 1000000 ∧ -1000000 ≤ i then some (rngD i (j - i).toNat, δ') else none
  | _ => none
theorem di_rng1 {ta : TA} {fa : Env → Option (List Rv × Env)} (ha : DA K ta fa) : DI K (iRng1 ta) (itR1 fa) := by
  intro α σ H F L R δ δ' ds Q D S e q
  unfold itR1 at e
  split at e
  · rename_i j δ1 e1
    split at e
    · rename_i hj
      cases e
      refine ha α σ H F L R δ _ _ _ D S e1 fun vs H' F' L' s D' S' r => ?_
      obtain ⟨v, rfl, r1⟩ := pr1 r
      have r1 : Dd K F' v (.int j) := r1
      cases r1
      exact ⟨j, rfl, by omega, by omega, q _ H' F' L' s D' S' walkD_rng⟩
    · cases e
  · cases e
theorem di_rng2 {ta : TA} {fa : Env → Option (List Rv × Env)} (ha : DA K ta fa) : DI K (iRng2 ta) (itR2 fa) := by
  intro α σ H F L R δ δ' ds Q D S e q
  unfold itR2 at e
  split at e
  · rename_i i j δ1 e1
    split at e
    · rename_i hj
      cases e
      refine ha α σ H F L R δ _ _ _ D S e1 fun vs H' F' L' s D' S' r => ?_
      obtain ⟨v, u, rfl, r1, r2⟩ := pr2 r
      have r1 : Dd K F' v (.int i) := r1
      have r2 : Dd K F' u (.int j) := r2
      cases r1; cases r2
      exact ⟨i, j, rfl, by omega, q _ H' F' L' s D' S' walkD_rng⟩
    · cases e
  · cases e
def itE (fa : Env → Option (List Rv × Env)) (δ : Env) : Option (List Dv × Env) := match fa δ with
  | some ([.dv (.lst ds)], δ') => some (enumD ds, δ')
  | _ => none
theorem di_enum {ta : TA} {fa : Env → Option (List Rv × Env)} (ha : DA K ta fa) : DI K (iEnum K ta) (itE fa) := by
  intro α σ H F L R δ δ' ds Q D S e q
  unfold itE at e
  split at e
  · rename_i ds' δ1 e1
    cases e
    refine ha α σ H F L R δ _ _ _ D S e1 fun vs H' F' L' s D' S' r => ?_
    obtain ⟨v, rfl, r1⟩ := pr1 r
    have r1 : Dd K F' v (.lst ds') := r1
    cases r1 with
    | lst h hs => exact ⟨_, _, rfl, SqL.of (D'.frz h), q _ H' F' L' s D' S' (walkD_enum (SqL.of h) hs)⟩
  · cases e
def itZ (fa : Env → Option (List Rv × Env)) (δ : Env) : Option (List Dv × Env) := match fa δ with
  | some ([.dv (.lst ds), .dv (.lst es)], δ') => some (zipD ds es, δ')
  | _ => none
theorem di_zip {ta : TA} {fa : Env → Option (List Rv × Env)} (ha : DA K ta fa) : DI K (RZ.iZipA K ta) (itZ fa) := by
  intro α σ H F L R δ δ' ds Q D S e q
  unfold itZ at e
  split at e
  · rename_i ds' es' δ1 e1
    cases e
    refine ha α σ H F L R δ _ _ _ D S e1 fun vs H' F' L' s D' S' r => ?_
    obtain ⟨v, u, rfl, r1, r2⟩ := pr2 r
    have r1 : Dd K F' v (.lst ds') := r1
    have r2 : Dd K F' u (.lst es') := r2
    cases r1 with
    | lst h hs =>
      cases r2 with
      | lst h' hs' => exact ⟨_, _, _, _, rfl, .inl ⟨SqL.of (D'.frz h), SqL.of (D'.frz h'), q _ H' F' L' s D' S' (walkD_zip (SqL.of h) hs (SqL.of h') hs')⟩⟩
  · cases e

/-! ### targets -/
def DG (K : PySem.W.Frag) (g : TG) (fb : Dv → Env → Option Env) (ws : List Nat) : Prop :=
  ∀ (α : Nat → Addr) (σ : L2.St) (H F : Hp) (L R : List (Addr × HO)) (δ δ' : Env) (v : V) (d : Dv) (Q : L2.St → Hp → Prop), Led H F (L ++ R) → RelS K F α σ δ L → Dd K F v d → fb d δ = some δ' →
    (∀ σ' L', L'.Sublist L → RelS K F α σ' δ' L' → (∀ vs, (∀ w ∈ ws, w ∈ vs) → wipe σ' vs = wipe σ vs) → Q σ' H) → g v σ H Q
def DGs (K : PySem.W.Frag) (g : TGs) (fb : List Dv → Env → Option Env) (ws : List Nat) : Prop :=
  ∀ (α : Nat → Addr) (σ : L2.St) (H F : Hp) (L R : List (Addr × HO)) (δ δ' : Env) (v : List V) (d : List Dv) (Q : L2.St → Hp → Prop), Led H F (L ++ R) → RelS K F α σ δ L → DdA K F v d → fb d δ = some δ' →
    (∀ σ' L', L'.Sublist L → RelS K F α σ' δ' L' → (∀ vs, (∀ w ∈ ws, w ∈ vs) → wipe σ' vs = wipe σ vs) → Q σ' H) → g v σ H Q
theorem wipe_set {σ : L2.St} {i : Nat} {x : Option V} : ∀ {vs : List Nat}, i ∈ vs → wipe (σ.set i x) vs = wipe σ vs
  | v :: vs, h => by
    unfold wipe
    by_cases hi : i ∈ vs
    · rw [wipe_set hi]
    · rcases List.mem_cons.mp h with e | h
      · subst e
        have : ∀ ws : List Nat, i ∉ ws → wipe (σ.set i x) ws = (wipe σ ws).set i x := by
          intro ws
          induction ws with
          | nil => intro _; rfl
          | cons w ws ih =>
            intro hw
            have h1 : w ≠ i := fun e => hw (by rw [e]; exact List.mem_cons_self)
            unfold wipe
            rw [ih fun m => hw (List.mem_cons_of_mem _ m), List.set_comm _ _ (fun e => h1 e.symm)]
        rw [this vs hi, List.set_set]
      · exact absurd h hi
def bName (i : Nat) (d : Dv) (δ : Env) : Option Env := some (δ.set i (.sh d))
theorem dg_name (i : Nat) : DG K (gName i) (bName i) [i] := by
  intro α σ H F L R δ δ' v d Q D S r e q
  cases e
  obtain ⟨L', s, S'⟩ := S.set_sh (i := i) r
  exact q _ L' s S' fun vs h => wipe_set (h i (by simp))
def bsNil : List Dv → Env → Option Env
  | [], δ => some δ
  | _, _ => none
def bsCons (fb : Dv → Env → Option Env) (fbs : List Dv → Env → Option Env) : List Dv → Env → Option Env
  | d :: ds, δ => match fb d δ with
    | some δ1 => fbs ds δ1
    | none => none
  | [], _ => none
theorem dgs_nil : DGs K gNil bsNil [] := by
  intro α σ H F L R δ δ' v d Q D S r e q
  unfold bsNil at e
  split at e
  · cases e
    cases r
    exact ⟨rfl, q σ L (List.Sublist.refl _) S fun _ _ => rfl⟩
  · cases e
theorem dgs_cons {g : TG} {gs : TGs} {fb : Dv → Env → Option Env} {fbs : List Dv → Env → Option Env} {ws us : List Nat} (hg : DG K g fb ws) (hs : DGs K gs fbs us) : DGs K (gCons g gs) (bsCons fb fbs) (ws ++ us) := by
  intro α σ H F L R δ δ' v d Q D S r e q
  unfold bsCons at e
  split at e
  · split at e
    · rename_i δ1 e1
      cases r with
      | cons r t =>
        refine ⟨_, _, rfl, hg α σ H F L R δ _ _ _ _ D S r e1 fun σ1 L1 s1 S1 w1 => ?_⟩
        refine hs α σ1 H F L1 R _ _ _ _ _ (Led.subA D s1) S1 t e fun σ2 M2 s2 S2 w2 => ?_
        exact q σ2 M2 (s2.trans s1) S2 fun vs h => (w2 vs fun w hw => h w (List.mem_append_right _ hw)).trans (w1 vs fun w hw => h w (List.mem_append_left _ hw))
    · cases e
  · cases e
def bTup (n : Nat) (fbs : List Dv → Env → Option Env) : Dv → Env → Option Env
  | .tup ds, δ => if ds.length = n then fbs ds δ else none
  | _, _ => none
theorem dg_tup {n : Nat} {gs : TGs} {fbs : List Dv → Env → Option Env} {ws : List Nat} (hs : DGs K gs fbs ws) : DG K (gTup K n gs) (bTup n fbs) ws := by
  intro α σ H F L R δ δ' v d Q D S r e q
  unfold bTup at e
  split at e
  · split at e
    · rename_i hn
      cases r with
      | tup h hd => exact ⟨_, _, rfl, SqT.of (D.frz h), by rw [hd.len]; exact hn, hs α σ H F L R δ δ' _ _ Q D S hd e q⟩
    · cases e
  · cases e
theorem dg_all {t : Bk TG} {fb : Dv → Env → Option Env} {ws : List Nat} (h : ∀ s H C cl fp, DG K (t s H C cl fp) fb ws) : DG K (tAllG t) fb ws :=
  fun α σ H F L R δ δ' v d Q D S r e q s H0 C cl fp => h s H0 C cl fp α σ H F L R δ δ' v d Q D S r e q
theorem de_all {t : Bk TE} {fe : Env → Option (Rv × Env)} (h : ∀ s H C cl fp, DE K (t s H C cl fp) fe) : DE K (tAllE t) fe :=
  fun α σ H F L R δ δ' r Q D S e q s H0 C cl fp => h s H0 C cl fp α σ H F L R δ δ' r Q D S e q
theorem dt_all {t : Bk TT} {ft : Env → Option (Bool × Env)} (h : ∀ s H C cl fp, DT K (t s H C cl fp) ft) : DT K (tAllT t) ft :=
  fun α σ H F L R δ δ' r Q D S e q s H0 C cl fp => h s H0 C cl fp α σ H F L R δ δ' r Q D S e q
def tstYes (δ : Env) : Option (Bool × Env) := some (true, δ)
theorem dt_yes : DT K tYes tstYes := by
  intro α σ H F L R δ δ' b Q D S e q
  cases e
  exact q H F L (Same.refl _) D S

/-! ### comprehensions -/
def wipeD (δ : Env) : List Nat → Env
  | [] => δ
  | v :: vs => (wipeD δ vs).set v .no
theorem RelS.wipe {F : Hp} {α : Nat → Addr} {σ : List (Option V)} {δ : List Sl} {L : List (Addr × HO)} (h : RelS K F α σ δ L) : ∀ vs : List Nat, ∃ L', L'.Sublist L ∧ RelS K F α (L2.wipe σ vs) (wipeD δ vs) L'
  | [] => ⟨L, List.Sublist.refl _, h⟩
  | v :: vs => by
    obtain ⟨L1, s1, h1⟩ := RelS.wipe h vs
    obtain ⟨M2, s2, h2⟩ := h1.kill v
    refine ⟨M2, s2.trans s1, ?_⟩
    show RelS K F α ((L2.wipe σ vs).set v none) ((wipeD δ vs).set v .no) M2
    refine h2.set_no v none ?_
    by_cases hv : v < (wipeD δ vs).length
    · left; simp [hv]
    · right; simp; omega
/-- the slots of the block's names are as they were outside -/
theorem RelS.other {F : Hp} {α : Nat → Addr} {σ : List (Option V)} {δ : List Sl} {L : List (Addr × HO)} (h : RelS K F α σ δ L) : ∀ {τ : List (Option V)}, τ.length = σ.length → (∀ j : Nat, τ[j]? = σ[j]? ∨ δ[j]? = some Sl.no) → RelS K F α τ δ L := by
  induction h with
  | nil => intro τ hl _; cases τ with
    | nil => exact .nil
    | cons _ _ => simp at hl
  | @no x σ δ L t ih =>
    intro τ hl hj
    cases τ with
    | nil => simp at hl
    | cons y τ => exact .no (ih (by simpa using hl) fun j => by simpa using hj (j + 1))
  | @sh v d σ δ L h t ih =>
    intro τ hl hj
    cases τ with
    | nil => simp at hl
    | cons y τ =>
      have h0 := hj 0
      simp at h0
      subst h0
      exact .sh h (ih (by simpa using hl) fun j => by simpa using hj (j + 1))
  | @ow a o d t σ δ L h ht r ih =>
    intro τ hl hj
    cases τ with
    | nil => simp at hl
    | cons y τ =>
      have h0 := hj 0
      simp at h0
      subst h0
      exact .ow h ht (ih (by simpa using hl) fun j => by simpa using hj (j + 1))
  | @on w s0 d t σ δ M L h ht r ih =>
    intro τ hl hj
    cases τ with
    | nil => simp at hl
    | cons y τ =>
      have h0 := hj 0
      simp at h0
      subst h0
      exact .on h ht (ih (by simpa using hl) fun j => by simpa using hj (j + 1))
theorem wipeD_len (δ : Env) : ∀ vs : List Nat, (wipeD δ vs).length = δ.length
  | [] => rfl
  | v :: vs => by unfold wipeD; rw [List.length_set, wipeD_len δ vs]
theorem wipeD_in {δ : Env} {j : Nat} : ∀ {vs : List Nat}, j ∈ vs → j < δ.length → (wipeD δ vs)[j]? = some .no
  | v :: vs, h, hl => by
    unfold wipeD
    by_cases e : v = j
    · subst e
      rw [List.getElem?_set_self (by rw [wipeD_len]; exact hl)]
    · rw [List.getElem?_set_ne e]
      exact wipeD_in ((List.mem_cons.mp h).resolve_left fun q => e q.symm) hl
theorem RelS.unblock {F : Hp} {α : Nat → Addr} {σ τ : List (Option V)} {δ : List Sl} {L : List (Addr × HO)} {vs : List Nat} (h : RelS K F α τ δ L) (e : L2.wipe τ vs = L2.wipe σ vs) : ∃ L', L'.Sublist L ∧ RelS K F α σ (wipeD δ vs) L' := by
  obtain ⟨L', s, h'⟩ := h.wipe vs
  have hl : σ.length = τ.length := by rw [← wipe_length σ vs, ← wipe_length τ vs, e]
  refine ⟨L', s, h'.other (by rw [wipe_length]; exact hl) fun j => ?_⟩
  by_cases hj : j ∈ vs
  · by_cases hd : j < δ.length
    · right; exact wipeD_in hj hd
    · left
      have := h.len
      rw [List.getElem?_eq_none (by omega), List.getElem?_eq_none (by rw [wipe_length]; omega)]
  · left
    rw [e, wipe_out hj]
def lcLoop (fb : Dv → Env → Option Env) (ft : Env → Option (Bool × Env)) (fe : Env → Option (Rv × Env)) (vs : List Nat) : List Dv → Env → Option (List Dv × Env)
  | [], δ => some ([], δ)
  | d :: ds, δ => match fb d (wipeD δ vs) with
    | none => none
    | some δ1 => match ft δ1 with
      | some (true, δ2) => match fe δ2 with
        | some (.dv y, δ3) => match lcLoop fb ft fe vs ds δ3 with
          | some (ys, δ4) => some (y :: ys, δ4)
          | none => none
        | _ => none
      | some (false, δ2) => lcLoop fb ft fe vs ds δ2
      | none => none
theorem drop_at {β : Type} {l : List β} {i : Nat} (h : i < l.length) : ∃ d, l[i]? = some d ∧ l.drop i = d :: l.drop (i + 1) := ⟨l[i], by simp, (List.getElem_cons_drop h).symm⟩
theorem wipe_again {σ : L2.St} {u : Nat} : ∀ ws : List Nat, u ∈ ws → (L2.wipe σ ws).set u none = L2.wipe σ ws
  | w :: ws, h => by
    show ((L2.wipe σ ws).set w none).set u none = (L2.wipe σ ws).set w none
    by_cases e : w = u
    · subst e; rw [List.set_set]
    · rw [List.set_comm _ _ e, wipe_again ws ((List.mem_cons.mp h).resolve_left fun q => e q.symm)]
theorem wipe_sub {σ : L2.St} {vs : List Nat} : ∀ us : List Nat, (∀ u ∈ us, u ∈ vs) → L2.wipe (L2.wipe σ vs) us = L2.wipe σ vs
  | [], _ => rfl
  | u :: us, h => by
    show (L2.wipe (L2.wipe σ vs) us).set u none = L2.wipe σ vs
    rw [wipe_sub us fun w hw => h w (List.mem_cons_of_mem _ hw), wipe_again vs (h u List.mem_cons_self)]
theorem wipe_wipe {σ : L2.St} {vs : List Nat} : L2.wipe (L2.wipe σ vs) vs = L2.wipe σ vs := wipe_sub vs fun _ h => h
theorem lc_core {J : It} {g : TG} {tt : TT} {te : TE} {fb : Dv → Env → Option Env} {ft : Env → Option (Bool × Env)} {fe : Env → Option (Rv × Env)} {vs ws : List Nat} (hg : DG K g fb ws) (hw : ∀ w ∈ ws, w ∈ vs) (ht : DT K tt ft) (he : DE K te fe)
    {α : Nat → Addr} {σ : L2.St} {H F : Hp} {L R : List (Addr × HO)} {δ δ' : Env} {ds ys : List Dv} {Q : VK} (D : Led H F (L ++ R)) (S : RelS K F α σ δ L) (wk : WalkD K J F ds) (hn : ds.length ≤ 100000) (e : lcLoop fb ft fe vs ds δ = some (ys, δ'))
    (q : ∀ a o H' F' L', Same F F' → Led H' F' ((a, o) :: (L' ++ R)) → RelS K F' α σ (wipeD δ' vs) L' → DO K F' o (.lst ys) → Q (.ref a) H') : FL.lcAsk J g tt te vs σ H Q := by
  intro Dl hD
  refine ⟨fun i m H' => m = ds.length - i ∧ i ≤ ds.length ∧ ∃ acc dacc rest F' L' τ δ2, Same F F' ∧ Led H' F' (L' ++ (Dl, .lst acc) :: R) ∧ RelS K F' α τ δ2 L' ∧ L2.wipe τ vs = L2.wipe σ vs ∧ DdA K F' acc dacc ∧ acc.length ≤ i ∧ lcLoop fb ft fe vs (ds.drop i) δ2 = some (rest, δ') ∧ dacc ++ rest = ys,
    ⟨ds.length, by omega, by omega, [], [], ys, F, L, σ, δ, Same.refl _, Led.unmid (D.new hD), S, rfl, .nil, Nat.le_refl _, by rw [List.drop_zero]; exact e, rfl⟩, ?_⟩
  rintro i m H' ⟨rfl, hi, acc, dacc, rest, F', L', τ, δ2, s, D', S', hτ, ha, hl, e', ey⟩
  by_cases hlt : i < ds.length
  · obtain ⟨d, hd, edrop⟩ := drop_at hlt
    refine .inr ⟨wk.go i H' F' _ s D' hlt, fun H2 => i + 1 ≤ ds.length ∧ ∃ acc dacc rest F' L' τ δ2, Same F F' ∧ Led H2 F' (L' ++ (Dl, .lst acc) :: R) ∧ RelS K F' α τ δ2 L' ∧ L2.wipe τ vs = L2.wipe σ vs ∧ DdA K F' acc dacc ∧ acc.length ≤ i + 1 ∧ lcLoop fb ft fe vs (ds.drop (i + 1)) δ2 = some (rest, δ') ∧ dacc ++ rest = ys,
      fun H2 ⟨_, w⟩ => ⟨ds.length - (i + 1), by omega, rfl, hlt, w⟩, fun x H2 y => ?_⟩
    obtain ⟨F2, s2, D2, rx⟩ := wk.yld i H' x H2 F' _ d s D' hd y
    rw [edrop] at e'
    unfold lcLoop at e'
    split at e'
    · cases e'
    · rename_i δ3 e3
      obtain ⟨L3, sl3, S3⟩ := (S'.mono (Le.of s2)).wipe vs
      rw [hτ] at S3
      refine hg α _ H2 F2 L3 ((Dl, .lst acc) :: R) _ _ x d _ (Led.subA D2 sl3) S3 rx e3 fun σ4 L4 sl4 S4 w4 => ⟨?_, ?_⟩
      · rw [w4 vs hw]
        exact wipe_wipe
      have w4' : L2.wipe σ4 vs = L2.wipe σ vs := by
        rw [w4 vs hw]
        exact wipe_wipe
      have D4 := Led.subA (Led.subA D2 sl3) sl4
      split at e'
      · rename_i δ4 e4
        split at e'
        · rename_i yv δ5 e5
          split at e'
          · rename_i ys' δ6 e6
            cases e'
            refine ht α σ4 H2 F2 L4 ((Dl, .lst acc) :: R) _ _ true _ D4 S4 e4 fun H5 F5 L5 s5 D5 S5 => iteT ?_
            refine he α σ4 H5 F5 L5 ((Dl, .lst acc) :: R) _ _ _ _ D5 S5 e5 fun v H6 F6 L6 s6 D6 S6 r6 => ?_
            have r6 : Dd K F6 v yv := r6
            have sAll := s2.trans (s5.trans s6)
            refine ⟨acc, Led.head (Led.mid D6), lt_line (by omega), hlt, acc ++ [v], dacc ++ [yv], ys', F6, L6, σ4, δ5, s.trans sAll, Led.unmid (Led.wr (Led.mid D6)), S6, w4', (ha.mono (Le.of sAll)).app (.cons r6 .nil), by simp; omega, e6, by rw [List.append_assoc]; exact ey⟩
          · cases e'
        · cases e'
      · rename_i δ4 e4
        refine ht α σ4 H2 F2 L4 ((Dl, .lst acc) :: R) _ _ false _ D4 S4 e4 fun H5 F5 L5 s5 D5 S5 => iteF ?_
        have sAll := s2.trans s5
        exact ⟨hlt, acc, dacc, rest, F5, L5, σ4, δ4, s.trans sAll, D5, S5, w4', ha.mono (Le.of sAll), by omega, e', ey⟩
      · cases e'
  · have ei : i = ds.length := by omega
    subst ei
    rw [List.drop_length] at e'
    cases e'
    obtain ⟨L2', sl2, S2⟩ := S'.unblock (σ := σ) hτ
    have D3 := Led.subA D' sl2
    rw [List.append_nil] at ey
    subst ey
    exact .inl ⟨wk.stop H' F' _ s D', q Dl _ H' F' L2' s (Led.mid D3) S2 (.lst ha)⟩
def oLc (fi : Env → Option (List Dv × Env)) (fb : Dv → Env → Option Env) (ft : Env → Option (Bool × Env)) (fe : Env → Option (Rv × Env)) (vs : List Nat) (δ : Env) : Option (Dv × Env) := match fi δ with
  | some (ds, δ1) => if ds.length ≤ 100000 then (match lcLoop fb ft fe vs ds δ1 with
    | some (ys, δ2) => some (.lst ys, wipeD δ2 vs)
    | none => none) else none
  | none => none
theorem do_lc {wi : TI} {g : TG} {tt : TT} {te : TE} {fi : Env → Option (List Dv × Env)} {fb : Dv → Env → Option Env} {ft : Env → Option (Bool × Env)} {fe : Env → Option (Rv × Env)} {vs ws : List Nat} (hi : DI K wi fi) (hg : DG K g fb ws) (hw : ∀ w ∈ ws, w ∈ vs) (ht : DT K tt ft) (he : DE K te fe) :
    DEO K (tLc wi g tt te vs) (oLc fi fb ft fe vs) := by
  intro α σ H F L R δ δ' d Q D S e q
  unfold oLc at e
  split at e
  · rename_i ds δ1 e1
    split at e
    · rename_i hn
      split at e
      · rename_i ys δ2 e2
        cases e
        refine hi α σ H F L R δ δ1 ds _ D S e1 fun J H' F' L' s D' S' wk => ?_
        exact lc_core hg hw ht he D' S' wk hn e2 fun a o H2 F2 M2 s2 D2 S2 h2 => q a o H2 F2 M2 (s.trans s2) D2 S2 h2
      · cases e
    · cases e
  · cases e
end
end FD
namespace FD
open PySem PySem.Spec PyProof.Rows L2 FL
section
variable {K : PySem.W.Frag}
/-! ### dicts that are walked -/
theorem walkD_keys {F : Hp} {a : Addr} {od : Obj} {kvs : List (Key × V)} {ds : List (Key × Dv)} (h : F a = some (.frz od (.dK kvs))) (hd : DdK K F kvs ds) : WalkD K (Itk a od kvs) F (ds.map fun p => keyD p.1) where
  go := fun i H F' L s D hi => ⟨D.frz (s _ _ h), by rw [hd.len]; simpa using hi⟩
  yld := fun i H x H' F' L d s D e y => by
    obtain ⟨rfl, k, v, e1, rfl⟩ := y
    have e2 : (kvs.map (·.1))[i]? = some k := by rw [List.getElem?_map, e1]; rfl
    rw [hd.keys, List.getElem?_map] at e2
    rw [List.getElem?_map] at e
    cases h3 : ds[i]? with
    | none => rw [h3] at e; cases e
    | some p =>
      rw [h3] at e e2
      cases e; cases e2
      exact ⟨F', Same.refl _, D, dd_key _⟩
  stop := fun H F' L s D => ⟨D.frz (s _ _ h), by rw [hd.len]; simp⟩
theorem walkD_vals {F : Hp} {a : Addr} {od : Obj} {kvs : List (Key × V)} {ds : List (Key × Dv)} (h : F a = some (.frz od (.dK kvs))) (hd : DdK K F kvs ds) : WalkD K (Itd a od kvs) F (ds.map (·.2)) where
  go := fun i H F' L s D hi => ⟨D.frz (s _ _ h), by rw [hd.len]; simpa using hi⟩
  yld := fun i H x H' F' L d s D e y => by
    obtain ⟨rfl, k, e1⟩ := y
    have e2 : (kvs.map (·.2))[i]? = some x := by rw [List.getElem?_map, e1]; rfl
    obtain ⟨d', e3, r⟩ := hd.vals.get' e2
    rw [e3] at e
    cases e
    exact ⟨F', Same.refl _, D, r.mono (Le.of s)⟩
  stop := fun H F' L s D => ⟨D.frz (s _ _ h), by rw [hd.len]; simp⟩
def itemD (p : Key × Dv) : Dv := .tup [keyD p.1, p.2]
theorem walkD_items {F : Hp} {a : Addr} {od : Obj} {kvs : List (Key × V)} {ds : List (Key × Dv)} (h : F a = some (.frz od (.dK kvs))) (hd : DdK K F kvs ds) : WalkD K (Iti a od kvs) F (ds.map itemD) where
  go := fun i H F' L s D hi => ⟨D.frz (s _ _ h), by rw [hd.len]; simpa using hi⟩
  yld := fun i H x H' F' L d s D e y => by
    obtain ⟨T, k, v, e1, rfl, hT, rfl⟩ := y
    have e2 : (kvs.map (·.2))[i]? = some v := by rw [List.getElem?_map, e1]; rfl
    have e4 : (kvs.map (·.1))[i]? = some k := by rw [List.getElem?_map, e1]; rfl
    obtain ⟨d', e3, r⟩ := hd.vals.get' e2
    rw [hd.keys, List.getElem?_map] at e4
    rw [List.getElem?_map] at e e3
    cases h3 : ds[i]? with
    | none => rw [h3] at e; cases e
    | some p =>
      rw [h3] at e e3 e4
      cases e; cases e3; cases e4
      obtain ⟨F2, s2, hT2, -, D2⟩ := D.nf hT rfl
      exact ⟨F2, s2, D2, .tup hT2 (.cons (dd_key _) (.cons (r.mono (Le.of (s.trans s2))) .nil))⟩
  stop := fun H F' L s D => ⟨D.frz (s _ _ h), by rw [hd.len]; simp⟩
/-- the three ways to walk a dict -/
inductive Way where
  | keys | vals | items
def Way.ti : Way → TE → TI
  | .keys => iKeys
  | .vals => iVals
  | .items => iItems
def Way.ds : Way → List (Key × Dv) → List Dv
  | .keys => fun l => l.map fun p => keyD p.1
  | .vals => fun l => l.map (·.2)
  | .items => fun l => l.map itemD
theorem Way.run (w : Way) {te : TE} {a : Addr} {od : Obj} {kvs : List (Key × V)} {ds : List (Key × Dv)} {σ : L2.St} {H F : Hp} {Q : It → Hp → Prop} (he : ∀ H1 (R : VK), R (.ref a) H1 → te σ H1 R) (hH : H a = some (.frz od (.dK kvs))) (h : F a = some (.frz od (.dK kvs))) (hd : DdK K F kvs ds)
    (q : ∀ J, WalkD K J F (w.ds ds) → Q J H) : w.ti te σ H Q := by
  cases w with
  | keys => exact he _ _ ⟨a, od, rfl, .inl ⟨kvs, hH, q _ (walkD_keys h hd)⟩⟩
  | vals => exact he _ _ ⟨a, od, kvs, rfl, hH, q _ (walkD_vals h hd)⟩
  | items => exact he _ _ ⟨a, od, kvs, rfl, hH, q _ (walkD_items h hd)⟩
theorem Led.relock {H F : Hp} {L : List (Addr × HO)} {a : Addr} {u o : HO} (D : Led H F L) (h : F a = some u) : Led (upd H a o) (upd F a o) L := FL.Led.lockF D h
def itD (w : Way) (i : Nat) (δ : Env) : Option (List Dv × Env) := match δ[i]? with
  | some (.sh (.dct ds)) => some (w.ds ds, δ)
  | _ => none
theorem dk_nt {kvs : List (Key × V)} : ∀ xs, HO.dK kvs ≠ .tup xs := fun _ h => nomatch h
theorem dk_nl {kvs : List (Key × V)} : ∀ xs, HO.dK kvs ≠ .lst xs := fun _ h => nomatch h
theorem do_lcD (w : Way) (i : Nat) {g : TG} {tt : TT} {te : TE} {fb : Dv → Env → Option Env} {ft : Env → Option (Bool × Env)} {fe : Env → Option (Rv × Env)} {vs ws : List Nat} (hg : DG K g fb ws) (hw : ∀ w ∈ ws, w ∈ vs) (ht : DT K tt ft) (he : DE K te fe) :
    DEO K (fun σ H Q => tLockE (tLc (w.ti (tVar i)) g tt te vs) σ H Q ∨ tLc (w.ti (tVar i)) g tt te vs σ H Q) (oLc (itD w i) fb ft fe vs) := by
  intro α σ H F L R δ δ' d Q D S e q
  unfold oLc at e
  split at e
  · rename_i ds δ1 e1
    split at e
    · rename_i hn
      split at e
      · rename_i ys δ2 e2
        cases e
        unfold itD at e1
        split at e1
        · rename_i ks eδ
          cases e1
          obtain ⟨v, hσ, r⟩ := S.sh_at eδ
          cases r with
          | @dct a kvs _ h hs =>
            have hv : ∀ H1 (R : VK), R (.ref a) H1 → tVar i σ H1 R := fun H1 R r => ⟨_, hσ, r⟩
            rcases h with h | ⟨od, h⟩
            · refine .inl ⟨a, .dK kvs, D.frz h, trivial, fun od => ?_⟩
              have le := Le.lock (od := od) h True.intro dk_nt dk_nl
              have D1 := Led.relock (o := .frz od (.dK kvs)) D h
              refine w.run (F := upd F a (.frz od (.dK kvs))) hv upd_same upd_same (hs.mono le) fun J wk => ?_
              refine lc_core (Q := fun v H' => H' a = some (.frz od (.dK kvs)) ∧ Q v (upd H' a (.dK kvs))) hg hw ht he D1 (S.mono le) wk hn e2 fun b o H' F' L' s D' S' h' => ?_
              have hF' : F' a = some (.frz od (.dK kvs)) := s _ _ upd_same
              refine ⟨D'.frz hF', ?_⟩
              have le2 := Le.unlock hF'
              exact q b o _ (upd F' a (.dK kvs)) L' (same_lock h s) (Led.relock D' hF') (S'.mono le2) (h'.mono le2)
            · refine .inr ?_
              refine w.run hv (D.frz h) h hs fun J wk => ?_
              exact lc_core hg hw ht he D S wk hn e2 fun b o H' F' L' s D' S' h' => q b o H' F' L' s D' S' h'
        · cases e1
      · cases e
    · cases e
  · cases e
/-! ### dict comprehensions -/
def dcLoop (fb : Dv → Env → Option Env) (ft : Env → Option (Bool × Env)) (fk fv : Env → Option (Rv × Env)) (vs : List Nat) : List Dv → List (Key × Dv) → Env → Option (List (Key × Dv) × Env)
  | [], acc, δ => some (acc, δ)
  | d :: ds, acc, δ => match fb d (wipeD δ vs) with
    | none => none
    | some δ1 => match ft δ1 with
      | some (true, δ2) => match got fk δ2 with
        | some (kd, δ3) => match keyOf kd, fv δ3 with
          | some k, some (.dv y, δ4) => dcLoop fb ft fk fv vs ds (putD acc k y) δ4
          | _, _ => none
        | none => none
      | some (false, δ2) => dcLoop fb ft fk fv vs ds acc δ2
      | none => none
def dcAsk (J : It) (g : TG) (tt : TT) (tk tv : TE) (vs : List Nat) (σ : L2.St) (H1 : Hp) (Q : VK) : Prop := ∀ D, H1 D = none → ∃ W : Nat → Nat → Hp → Prop, (∃ m, W 0 m (upd H1 D (.dK []))) ∧ ∀ i m H, W i m H →
  (J.stop i H ∧ Q (.ref D) H) ∨ (J.go i H ∧ ∃ Nx : Hp → Prop, (∀ H', Nx H' → ∃ m', m' < m ∧ W (i + 1) m' H') ∧ ∀ x H', J.yld i H x H' → g x (wipe σ vs) H' fun σ2 H2 => wipe σ2 vs = wipe σ vs ∧ tt σ2 H2 fun b H3 =>
    if b = true then tk σ2 H3 fun y H4 => tv σ2 H4 fun z H5 => ∃ kvs k, y = kV k ∧ H5 D = some (.dK kvs) ∧ kvs.length < sizeLine ∧ Nx (upd H5 D (.dK (putK kvs k z))) else Nx H3)
theorem putK_len (kvs : List (Key × V)) (k : Key) (v : V) : (putK kvs k v).length ≤ kvs.length + 1 := by
  unfold putK
  split
  · rw [List.length_map]; omega
  · rw [List.length_append]; simp
theorem dc_core {J : It} {g : TG} {tt : TT} {tk tv : TE} {fb : Dv → Env → Option Env} {ft : Env → Option (Bool × Env)} {fk fv : Env → Option (Rv × Env)} {vs ws : List Nat} (hg : DG K g fb ws) (hw : ∀ w ∈ ws, w ∈ vs) (ht : DT K tt ft) (hk : DE K tk fk) (he : DE K tv fv)
    {α : Nat → Addr} {σ : L2.St} {H F : Hp} {L R : List (Addr × HO)} {δ δ' : Env} {ds : List Dv} {ys : List (Key × Dv)} {Q : VK} (D : Led H F (L ++ R)) (S : RelS K F α σ δ L) (wk : WalkD K J F ds) (hn : ds.length ≤ 100000) (e : dcLoop fb ft fk fv vs ds [] δ = some (ys, δ'))
    (q : ∀ a o H' F' L', Same F F' → Led H' F' ((a, o) :: (L' ++ R)) → RelS K F' α σ (wipeD δ' vs) L' → DO K F' o (.dct ys) → Q (.ref a) H') : dcAsk J g tt tk tv vs σ H Q := by
  intro Dl hD
  refine ⟨fun i m H' => m = ds.length - i ∧ i ≤ ds.length ∧ ∃ acc dacc F' L' τ δ2, Same F F' ∧ Led H' F' (L' ++ (Dl, .dK acc) :: R) ∧ RelS K F' α τ δ2 L' ∧ L2.wipe τ vs = L2.wipe σ vs ∧ DdK K F' acc dacc ∧ acc.length ≤ i ∧ dcLoop fb ft fk fv vs (ds.drop i) dacc δ2 = some (ys, δ'),
    ⟨ds.length, by omega, by omega, [], [], F, L, σ, δ, Same.refl _, Led.unmid (D.new hD), S, rfl, .nil, Nat.le_refl _, by rw [List.drop_zero]; exact e⟩, ?_⟩
  rintro i m H' ⟨rfl, hi, acc, dacc, F', L', τ, δ2, s, D', S', hτ, ha, hl, e'⟩
  by_cases hlt : i < ds.length
  · obtain ⟨d, hd, edrop⟩ := drop_at hlt
    refine .inr ⟨wk.go i H' F' _ s D' hlt, fun H2 => i + 1 ≤ ds.length ∧ ∃ acc dacc F' L' τ δ2, Same F F' ∧ Led H2 F' (L' ++ (Dl, .dK acc) :: R) ∧ RelS K F' α τ δ2 L' ∧ L2.wipe τ vs = L2.wipe σ vs ∧ DdK K F' acc dacc ∧ acc.length ≤ i + 1 ∧ dcLoop fb ft fk fv vs (ds.drop (i + 1)) dacc δ2 = some (ys, δ'),
      fun H2 ⟨_, w⟩ => ⟨ds.length - (i + 1), by omega, rfl, hlt, w⟩, fun x H2 y => ?_⟩
    obtain ⟨F2, s2, D2, rx⟩ := wk.yld i H' x H2 F' _ d s D' hd y
    rw [edrop] at e'
    unfold dcLoop at e'
    split at e'
    · cases e'
    · rename_i δ3 e3
      obtain ⟨L3, sl3, S3⟩ := (S'.mono (Le.of s2)).wipe vs
      rw [hτ] at S3
      refine hg α _ H2 F2 L3 ((Dl, .dK acc) :: R) _ _ x d _ (Led.subA D2 sl3) S3 rx e3 fun σ4 L4 sl4 S4 w4 => ⟨?_, ?_⟩
      · rw [w4 vs hw]
        exact wipe_wipe
      have w4' : L2.wipe σ4 vs = L2.wipe σ vs := by
        rw [w4 vs hw]
        exact wipe_wipe
      have D4 := Led.subA (Led.subA D2 sl3) sl4
      split at e'
      · rename_i δ4 e4
        split at e'
        · rename_i kd δ5 e5
          split at e'
          · rename_i k yv δ6 ek e6
            refine ht α σ4 H2 F2 L4 ((Dl, .dK acc) :: R) _ _ true _ D4 S4 e4 fun H5 F5 L5 s5 D5 S5 => iteT ?_
            refine hk.rd D5 S5 e5 fun kv H6 F6 L6 s6 D6 S6 r6 => ?_
            refine he α σ4 H6 F6 L6 ((Dl, .dK acc) :: R) _ _ _ _ D6 S6 e6 fun v H7 F7 L7 s7 D7 S7 r7 => ?_
            have r7 : Dd K F7 v yv := r7
            have sAll := s2.trans (s5.trans (s6.trans s7))
            refine ⟨acc, k, r6.key ek, Led.head (Led.mid D7), lt_line (by omega), hlt, _, _, F7, L7, σ4, _, s.trans sAll, Led.unmid (Led.wr (Led.mid D7)), S7, w4', (ha.mono (Le.of sAll)).put r7, ?_, e'⟩
            have := putK_len acc k v
            omega
          · cases e'
        · cases e'
      · rename_i δ4 e4
        refine ht α σ4 H2 F2 L4 ((Dl, .dK acc) :: R) _ _ false _ D4 S4 e4 fun H5 F5 L5 s5 D5 S5 => iteF ?_
        have sAll := s2.trans s5
        exact ⟨hlt, acc, dacc, F5, L5, σ4, δ4, s.trans sAll, D5, S5, w4', ha.mono (Le.of sAll), by omega, e'⟩
      · cases e'
  · have ei : i = ds.length := by omega
    subst ei
    rw [List.drop_length] at e'
    cases e'
    obtain ⟨L2', sl2, S2⟩ := S'.unblock (σ := σ) hτ
    have D3 := Led.subA D' sl2
    exact .inl ⟨wk.stop H' F' _ s D', q Dl _ H' F' L2' s (Led.mid D3) S2 (.dct ha)⟩
def oDc (fi : Env → Option (List Dv × Env)) (fb : Dv → Env → Option Env) (ft : Env → Option (Bool × Env)) (fk fv : Env → Option (Rv × Env)) (vs : List Nat) (δ : Env) : Option (Dv × Env) := match fi δ with
  | some (ds, δ1) => if ds.length ≤ 100000 then (match dcLoop fb ft fk fv vs ds [] δ1 with
    | some (ys, δ2) => some (.dct ys, wipeD δ2 vs)
    | none => none) else none
  | none => none
theorem do_dc {wi : TI} {g : TG} {tt : TT} {tk tv : TE} {fi : Env → Option (List Dv × Env)} {fb : Dv → Env → Option Env} {ft : Env → Option (Bool × Env)} {fk fv : Env → Option (Rv × Env)} {vs ws : List Nat} (hi : DI K wi fi) (hg : DG K g fb ws) (hw : ∀ w ∈ ws, w ∈ vs) (ht : DT K tt ft) (hk : DE K tk fk) (he : DE K tv fv) :
    DEO K (tDc wi g tt tk tv vs) (oDc fi fb ft fk fv vs) := by
  intro α σ H F L R δ δ' d Q D S e q
  unfold oDc at e
  split at e
  · rename_i ds δ1 e1
    split at e
    · rename_i hn
      split at e
      · rename_i ys δ2 e2
        cases e
        refine hi α σ H F L R δ δ1 ds _ D S e1 fun J H' F' L' s D' S' wk => ?_
        exact dc_core hg hw ht hk he D' S' wk hn e2 fun a o H2 F2 L2 s2 D2 S2 h2 => q a o H2 F2 L2 (s.trans s2) D2 S2 h2
      · cases e
    · cases e
  · cases e
theorem do_dcD (w : Way) (i : Nat) {g : TG} {tt : TT} {tk tv : TE} {fb : Dv → Env → Option Env} {ft : Env → Option (Bool × Env)} {fk fv : Env → Option (Rv × Env)} {vs ws : List Nat} (hg : DG K g fb ws) (hw : ∀ w ∈ ws, w ∈ vs) (ht : DT K tt ft) (hk : DE K tk fk) (he : DE K tv fv) :
    DEO K (fun σ H Q => tLockE (tDc (w.ti (tVar i)) g tt tk tv vs) σ H Q ∨ tDc (w.ti (tVar i)) g tt tk tv vs σ H Q) (oDc (itD w i) fb ft fk fv vs) := by
  intro α σ H F L R δ δ' d Q D S e q
  unfold oDc at e
  split at e
  · rename_i ds δ1 e1
    split at e
    · rename_i hn
      split at e
      · rename_i ys δ2 e2
        cases e
        unfold itD at e1
        split at e1
        · rename_i ks eδ
          cases e1
          obtain ⟨v, hσ, r⟩ := S.sh_at eδ
          cases r with
          | @dct a kvs _ h hs =>
            have hv : ∀ H1 (R : VK), R (.ref a) H1 → tVar i σ H1 R := fun H1 R r => ⟨_, hσ, r⟩
            rcases h with h | ⟨od, h⟩
            · refine .inl ⟨a, .dK kvs, D.frz h, trivial, fun od => ?_⟩
              have le := Le.lock (od := od) h True.intro dk_nt dk_nl
              have D1 := Led.relock (o := .frz od (.dK kvs)) D h
              refine w.run (F := upd F a (.frz od (.dK kvs))) hv upd_same upd_same (hs.mono le) fun J wk => ?_
              refine dc_core (Q := fun v H' => H' a = some (.frz od (.dK kvs)) ∧ Q v (upd H' a (.dK kvs))) hg hw ht hk he D1 (S.mono le) wk hn e2 fun b o H' F' L' s D' S' h' => ?_
              have hF' : F' a = some (.frz od (.dK kvs)) := s _ _ upd_same
              refine ⟨D'.frz hF', ?_⟩
              have le2 := Le.unlock hF'
              exact q b o _ (upd F' a (.dK kvs)) L' (same_lock h s) (Led.relock D' hF') (S'.mono le2) (h'.mono le2)
            · refine .inr ?_
              refine w.run hv (D.frz h) h hs fun J wk => ?_
              exact dc_core hg hw ht hk he D S wk hn e2 fun b o H' F' L' s D' S' h' => q b o H' F' L' s D' S' h'
        · cases e1
      · cases e
    · cases e
  · cases e
/-! ### list(d.values()), list(d.items()) -/
def oLV (fe : Env → Option (Rv × Env)) (δ : Env) : Option (Dv × Env) := match got fe δ with
  | some (.dct ds, δ') => some (.lst (ds.map (·.2)), δ')
  | _ => none
theorem do_listVals {te : TE} {fe : Env → Option (Rv × Env)} (he : DE K te fe) : DEO K (tListValues te) (oLV fe) := by
  intro α σ H F L R δ δ' d Q D S e q
  unfold oLV at e
  split at e
  · rename_i ds δ1 e1
    cases e
    refine he.rd D S e1 fun v H' F' L' s D' S' dr => ?_
    obtain ⟨a, kvs, rfl, h, hs⟩ := dr.dct D'
    exact ⟨a, kvs, rfl, h, fun p np => q p _ _ F' L' s (D'.new np) S' (.lst hs.vals)⟩
  · cases e
theorem Led.adopt {H H' F : Hp} {L : List (Addr × HO)} {ts : List Addr} (D : Led H F L) (s : Same H H') (n : ∀ t ∈ ts, H t = none) : Led H' (fun b => if b ∈ ts then H' b else F b) L ∧ Same F (fun b => if b ∈ ts then H' b else F b) := by
  refine ⟨⟨fun b o e => ?_, fun x hx => ?_, D.nd⟩, fun b o e => ?_⟩
  · have e : (if b ∈ ts then H' b else F b) = some o := e
    split at e
    · exact e
    · exact s _ _ (D.ext _ _ e)
  · obtain ⟨q1, q2⟩ := D.ent x hx
    refine ⟨s _ _ q1, ?_⟩
    have : x.1 ∉ ts := fun z => by rw [n _ z] at q1; cases q1
    show (if x.1 ∈ ts then H' x.1 else F x.1) = none
    rw [if_neg this]; exact q2
  · show (if b ∈ ts then H' b else F b) = some o
    have : b ∉ ts := fun z => by
      have h1 := D.ext _ _ e
      rw [n _ z] at h1; cases h1
    rw [if_neg this]; exact e
theorem items_dd {F : Hp} : ∀ {ts : List Addr} {kvs : List (Key × V)} {ds : List (Key × Dv)}, Paired (fun (t : Addr) (q : Key × V) => F t = some (.tup [kV q.1, q.2])) ts kvs → DdK K F kvs ds → DdA K F (ts.map V.ref) (ds.map itemD)
  | _, _, _, .nil, h => by cases h; exact .nil
  | _, _, _, .cons h t, k => by
    cases k with
    | cons r k => exact .cons (.tup h (.cons (dd_key _) (.cons r .nil))) (items_dd t k)
def oLI (fe : Env → Option (Rv × Env)) (δ : Env) : Option (Dv × Env) := match fe δ with
  | some (.dv (.dct ds), δ') => some (.lst (ds.map itemD), δ')
  | _ => none
/-- list(d.items()), of a dict that no loop walks: told by its plain place -/
theorem do_listItems {te : TE} {fe : Env → Option (Rv × Env)} (he : DE K te fe) : DEO K (fun σ H Q => LiI.tListItems te σ H Q ∨ te σ H fun x H1 => (∃ a od u, x = .ref a ∧ H1 a = some (.frz od u)) ∧ Q (.non) H1) (fun δ => none) := by
  intro α σ H F L R δ δ' d Q D S e q
  cases e
end
end FD
namespace FD
open PySem PySem.Spec PyProof.Rows L2 FL
section
variable {K : PySem.W.Frag}
/-! ### statements -/
inductive Ctl where
  | nx | bk | ct | rt (d : Dv) | ro (d : Dv) | rn (s : Sh) (d : Dv)
def After (K : PySem.W.Frag) (α : Nat → Addr) (F : Hp) (R : List (Addr × HO)) (D : Ends) (δ' : Env) : Ctl → Prop
  | .nx => ∀ σ' H' F' L', Same F F' → Led H' F' (L' ++ R) → RelS K F' α σ' δ' L' → D.nx σ' H'
  | .bk => ∀ σ' H' F' L', Same F F' → Led H' F' (L' ++ R) → RelS K F' α σ' δ' L' → D.bk σ' H'
  | .ct => ∀ σ' H' F' L', Same F F' → Led H' F' (L' ++ R) → RelS K F' α σ' δ' L' → D.ct σ' H'
  | .rt d => ∀ v H' F' L' σ', Same F F' → Led H' F' (L' ++ R) → RelS K F' α σ' δ' L' → Dd K F' v d → D.rt v H'
  | .ro d => ∀ a o H' F' L' σ', Same F F' → Led H' F' ((a, o) :: (L' ++ R)) → RelS K F' α σ' δ' L' → DO K F' o d → D.rt (.ref a) H'
  | .rn s d => ∀ v M H' F' L' σ', Same F F' → Led H' F' (M ++ (L' ++ R)) → RelS K F' α σ' δ' L' → DN K F' α s M v d → D.rt v H'
theorem After.grow {α : Nat → Addr} {F F' : Hp} {R : List (Addr × HO)} {D : Ends} {δ' : Env} {c : Ctl} (s : Same F F') (h : After K α F R D δ' c) : After K α F' R D δ' c := by
  cases c with
  | nx => exact fun σ' H' F2 L' s2 => h σ' H' F2 L' (s.trans s2)
  | bk => exact fun σ' H' F2 L' s2 => h σ' H' F2 L' (s.trans s2)
  | ct => exact fun σ' H' F2 L' s2 => h σ' H' F2 L' (s.trans s2)
  | rt d => exact fun v H' F2 L' σ' s2 => h v H' F2 L' σ' (s.trans s2)
  | ro d => exact fun a o H' F2 L' σ' s2 => h a o H' F2 L' σ' (s.trans s2)
  | rn _ d => exact fun v M H' F2 L' σ' s2 => h v M H' F2 L' σ' (s.trans s2)
abbrev Fs := Env → Option (Ctl × Env)
def DS (K : PySem.W.Frag) (t : TS) (fs : Fs) : Prop :=
  ∀ (α : Nat → Addr) (σ : L2.St) (H F : Hp) (L R : List (Addr × HO)) (δ δ' : Env) (c : Ctl) (D : Ends), Led H F (L ++ R) → RelS K F α σ δ L → fs δ = some (c, δ') → After K α F R D δ' c → t D σ H
def sNext (δ : Env) : Option (Ctl × Env) := some (.nx, δ)
theorem ds_next : DS K tNext sNext := by
  intro α σ H F L R δ δ' c D hD S e q
  cases e
  exact q σ H F L (Same.refl _) hD S
def sSeq (fs gs : Fs) (δ : Env) : Option (Ctl × Env) := match fs δ with
  | some (.nx, δ1) => gs δ1
  | some (c, δ1) => some (c, δ1)
  | none => none
theorem ds_seq {t u : TS} {fs gs : Fs} (ht : DS K t fs) (hu : DS K u gs) : DS K (tSeq t u) (sSeq fs gs) := by
  intro α σ H F L R δ δ' c D hD S e q
  unfold sSeq at e
  split at e
  · rename_i δ1 e1
    refine ht α σ H F L R δ δ1 .nx _ hD S e1 fun σ' H' F' L' s D' S' => ?_
    exact hu α σ' H' F' L' R δ1 δ' c D D' S' e (q.grow s)
  · rename_i c1 δ1 hne e1
    cases e
    refine ht α σ H F L R δ _ c _ hD S e1 ?_
    cases c with
    | nx => exact (hne rfl).elim
    | bk => exact q
    | ct => exact q
    | rt d => exact q
    | ro d => exact q
    | rn _ d => exact q
  · cases e
def sRet (fe : Env → Option (Rv × Env)) (δ : Env) : Option (Ctl × Env) := match fe δ with
  | some (.dv d, δ') => some (.rt d, δ')
  | some (.al i, δ') => match δ'[i]? with
    | some (.ow _ d) => some (.rt d, δ'.set i (.sh d))
    | _ => none
  | none => none
theorem ds_ret {te : TE} {fe : Env → Option (Rv × Env)} (he : DE K te fe) : DS K (tRet te) (sRet fe) := by
  intro α σ H F L R δ δ' c D hD S e q
  unfold sRet at e
  split at e
  · rename_i d δ1 e1
    cases e
    exact he α σ H F L R δ _ _ _ hD S e1 fun v H' F' L' s D' S' r => q v H' F' L' σ s D' S' r
  · rename_i i δ1 e1
    split at e
    · rename_i t d e2
      cases e
      refine he α σ H F L R δ _ _ _ hD S e1 fun v H' F' L' s D' S' r => ?_
      obtain ⟨a, o, L1, L2', rfl, hσ, h1, h2, k1, k2, k3⟩ := S'.ow_at e2
      have r : σ[i]? = some (some v) := r
      rw [hσ] at r
      cases r
      have D2 : Led H' F' ((a, o) :: ((L1 ++ L2') ++ R)) := by
        have := D'
        rw [List.append_assoc] at this ⊢
        exact Led.mid this
      have g := D2.grow
      have dd := (h1.mono (Le.of g)).dd upd_same
      exact q _ H' (upd F' a o) (L1 ++ L2') σ (s.trans g) D2.freeze (k2 _ _ (Le.of g) dd) dd
    · cases e
  · cases e
/-- return of a new object -/
def sRetO (fo : Env → Option (Dv × Env)) (δ : Env) : Option (Ctl × Env) := match fo δ with
  | some (d, δ') => some (.ro d, δ')
  | none => none
theorem ds_retO {te : TE} {fo : Env → Option (Dv × Env)} (he : DEO K te fo) : DS K (tRet te) (sRetO fo) := by
  intro α σ H F L R δ δ' c D hD S e q
  unfold sRetO at e
  split at e
  · rename_i d δ1 e1
    cases e
    exact he α σ H F L R δ _ _ _ hD S e1 fun a o H' F' L' s D' S' r => q a o H' F' L' σ s D' S' r
  · cases e
/-- return of a slot's own object -/
def sRetA (i : Nat) (δ : Env) : Option (Ctl × Env) := match δ[i]? with
  | some (.ow none d) => some (.ro d, δ.set i .no)
  | _ => none
theorem ds_retA (i : Nat) : DS K (tRet (tVar i)) (sRetA i) := by
  intro α σ H F L R δ δ' c D hD S e q
  unfold sRetA at e
  split at e
  · rename_i d e2
    cases e
    obtain ⟨a, o, L1, L2', rfl, hσ, h1, h2, k1, k2, k3⟩ := S.ow_at e2
    refine ⟨_, hσ, ?_⟩
    have D2 : Led H F ((a, o) :: ((L1 ++ L2') ++ R)) := by
      rw [List.append_assoc] at hD ⊢
      exact Led.mid hD
    exact q a o H F (L1 ++ L2') σ (Same.refl _) D2 (k3 _ (Le.refl _)) h1
  · cases e
def sRetN (δ : Env) : Option (Ctl × Env) := some (.rt .non, δ)
theorem ds_retN : DS K tRetN sRetN := by
  intro α σ H F L R δ δ' c D hD S e q
  cases e
  exact q .non H F L σ (Same.refl _) hD S .non
def sNever (_ : Env) : Option (Ctl × Env) := none
theorem ds_never : DS K tNever sNever := by
  intro α σ H F L R δ δ' c D hD S e q
  cases e
def sDrop (fe : Env → Option (Rv × Env)) (δ : Env) : Option (Ctl × Env) := match fe δ with
  | some (_, δ') => some (.nx, δ')
  | none => none
theorem ds_drop {te : TE} {fe : Env → Option (Rv × Env)} (he : DE K te fe) : DS K (tDrop te) (sDrop fe) := by
  intro α σ H F L R δ δ' c D hD S e q
  unfold sDrop at e
  split at e
  · rename_i r δ1 e1
    cases e
    exact he α σ H F L R δ _ _ _ hD S e1 fun v H' F' L' s D' S' r => q σ H' F' L' s D' S'
  · cases e
def sIf (ft : Env → Option (Bool × Env)) (fs gs : Fs) (δ : Env) : Option (Ctl × Env) := match ft δ with
  | some (true, δ1) => fs δ1
  | some (false, δ1) => gs δ1
  | none => none
theorem ds_if {tc : TT} {t u : TS} {ft : Env → Option (Bool × Env)} {fs gs : Fs} (hc : DT K tc ft) (ht : DS K t fs) (hu : DS K u gs) : DS K (tIfS tc t u) (sIf ft fs gs) := by
  intro α σ H F L R δ δ' c D hD S e q
  unfold sIf at e
  split at e
  · rename_i δ1 e1
    refine hc α σ H F L R δ δ1 true _ hD S e1 fun H' F' L' s D' S' => iteT ?_
    exact ht α σ H' F' L' R δ1 δ' c D D' S' e (q.grow s)
  · rename_i δ1 e1
    refine hc α σ H F L R δ δ1 false _ hD S e1 fun H' F' L' s D' S' => iteF ?_
    exact hu α σ H' F' L' R δ1 δ' c D D' S' e (q.grow s)
  · cases e
/-- x = e; (a, b) = e -/
def sAsg (fe : Env → Option (Rv × Env)) (fb : Dv → Env → Option Env) (δ : Env) : Option (Ctl × Env) := match fe δ with
  | some (.dv d, δ1) => match fb d δ1 with
    | some δ2 => some (.nx, δ2)
    | none => none
  | _ => none
theorem ds_asg {te : TE} {g : TG} {fe : Env → Option (Rv × Env)} {fb : Dv → Env → Option Env} {ws : List Nat} (he : DE K te fe) (hg : DG K g fb ws) : DS K (tAsg te g) (sAsg fe fb) := by
  intro α σ H F L R δ δ' c D hD S e q
  unfold sAsg at e
  split at e
  · rename_i d δ1 e1
    split at e
    · rename_i δ2 e2
      cases e
      refine he α σ H F L R δ δ1 _ _ hD S e1 fun v H' F' L' s D' S' r => ?_
      exact hg α σ H' F' L' R δ1 _ v d _ D' S' r e2 fun σ' L2' sl S2 _ => q σ' H' F' L2' s (Led.subA D' sl) S2
    · cases e
  · cases e
/-- x = a new object -/
def sAsgO (i : Nat) (fo : Env → Option (Dv × Env)) (δ : Env) : Option (Ctl × Env) := match fo δ with
  | some (d, δ1) => if i < δ1.length then some (.nx, δ1.set i (.ow none d)) else none
  | none => none
theorem ds_asgO {te : TE} {i : Nat} {fo : Env → Option (Dv × Env)} (he : DEO K te fo) : DS K (tAsg te (gName i)) (sAsgO i fo) := by
  intro α σ H F L R δ δ' c D hD S e q
  unfold sAsgO at e
  split at e
  · rename_i d δ1 e1
    split at e
    · rename_i hi
      cases e
      refine he α σ H F L R δ δ1 _ _ hD S e1 fun a o H' F' L' s D' S' r => ?_
      obtain ⟨L1, L2', sl, pm, S2⟩ := S'.set_ow (a := a) hi r
      have D2 : Led H' F' ((a, o) :: L1 ++ R) := FL.Led.sub D' ((sl.cons₂ (a, o)).append (List.Sublist.refl R))
      exact q _ H' F' L2' s (Led.permA D2 pm) S2
    · cases e
  · cases e
/-- what a slot owned is left as it is from here on -/
def sFrz (i : Nat) (fs : Fs) (δ : Env) : Option (Ctl × Env) := match δ[i]? with
  | some (.ow _ d) => fs (δ.set i (.sh d))
  | _ => fs δ
theorem ds_frz {t : TS} {i : Nat} {fs : Fs} (h : DS K t fs) : DS K t (sFrz i fs) := by
  intro α σ H F L R δ δ' c D hD S e q
  unfold sFrz at e
  split at e
  · rename_i tt d e2
    obtain ⟨a, o, L1, L2', rfl, hσ, h1, h2, k1, k2, k3⟩ := S.ow_at e2
    have D2 : Led H F ((a, o) :: ((L1 ++ L2') ++ R)) := by
      rw [List.append_assoc] at hD ⊢
      exact Led.mid hD
    have g := D2.grow
    have dd := (h1.mono (Le.of g)).dd upd_same
    exact h α σ H (upd F a o) (L1 ++ L2') R _ δ' c D D2.freeze (k2 _ _ (Le.of g) dd) e (q.grow g)
  · exact h α σ H F L R δ δ' c D hD S e q
/-- a, b = x, y -/
def sPar (i j : Nat) (fa : Env → Option (List Rv × Env)) (δ : Env) : Option (Ctl × Env) := match fa δ with
  | some ([.dv x, .dv y], δ1) => some (.nx, (δ1.set i (.sh x)).set j (.sh y))
  | _ => none
theorem ds_par {i j : Nat} {ta : TA} {fa : Env → Option (List Rv × Env)} (ha : DA K ta fa) : DS K (tPar i j ta) (sPar i j fa) := by
  intro α σ H F L R δ δ' c D hD S e q
  unfold sPar at e
  split at e
  · rename_i x y δ1 e1
    cases e
    refine ha α σ H F L R δ _ _ _ hD S e1 fun vs H' F' L' s D' S' r => ?_
    obtain ⟨v, u, rfl, r1, r2⟩ := pr2 r
    obtain ⟨L1, s1, S1⟩ := S'.set_sh (i := i) (show Dd K F' v x from r1)
    obtain ⟨L2', s2, S2⟩ := S1.set_sh (i := j) (show Dd K F' u y from r2)
    exact ⟨v, u, rfl, q _ H' F' L2' s (Led.subA (Led.subA D' s1) s2) S2⟩
  · cases e
def sPar3 (i j k : Nat) (fa : Env → Option (List Rv × Env)) (δ : Env) : Option (Ctl × Env) := match fa δ with
  | some ([.dv x, .dv y, .dv z], δ1) => some (.nx, ((δ1.set i (.sh x)).set j (.sh y)).set k (.sh z))
  | _ => none
theorem ds_par3 {i j k : Nat} {ta : TA} {fa : Env → Option (List Rv × Env)} (ha : DA K ta fa) : DS K (tPar3 i j k ta) (sPar3 i j k fa) := by
  intro α σ H F L R δ δ' c D hD S e q
  unfold sPar3 at e
  split at e
  · rename_i x y z δ1 e1
    cases e
    refine ha α σ H F L R δ _ _ _ hD S e1 fun vs H' F' L' s D' S' r => ?_
    cases r with
    | cons r1 r =>
      obtain ⟨u, w, rfl, r2, r3⟩ := pr2 r
      rename_i v
      obtain ⟨L1, s1, S1⟩ := S'.set_sh (i := i) (show Dd K F' v x from r1)
      obtain ⟨L2', s2, S2⟩ := S1.set_sh (i := j) (show Dd K F' u y from r2)
      obtain ⟨L3', s3, S3⟩ := S2.set_sh (i := k) (show Dd K F' w z from r3)
      exact ⟨v, u, w, rfl, q _ H' F' L3' s (Led.subA (Led.subA (Led.subA D' s1) s2) s3) S3⟩
  · cases e
/-- x += e, ints -/
def sAug (i : Nat) (f : Int → Int → Int) (fe : Env → Option (Rv × Env)) (δ : Env) : Option (Ctl × Env) := match δ[i]? with
  | some (.sh (.int a)) => match got fe δ with
    | some (.int b, δ1) => some (.nx, δ1.set i (.sh (.int (f a b))))
    | _ => none
  | _ => none
theorem ds_aug {i : Nat} {f : Int → Int → Int} {te : TE} {fe : Env → Option (Rv × Env)} (he : DE K te fe) : DS K (tAug i te (ipI f)) (sAug i f fe) := by
  intro α σ H F L R δ δ' c D hD S e q
  unfold sAug at e
  split at e
  · rename_i a ea
    split at e
    · rename_i b δ1 e1
      cases e
      obtain ⟨v, hσ, r⟩ := S.sh_at ea
      cases r
      refine ⟨_, hσ, he.rd hD S e1 fun v H' F' L' s D' S' dr => ?_⟩
      rw [dr.int]
      obtain ⟨L1, s1, S1⟩ := S'.set_sh (i := i) (Dd.int (K := K) (F := F') (f a b))
      exact ⟨a, b, rfl, rfl, q _ H' F' L1 s (Led.subA D' s1) S1⟩
    · cases e
  · cases e
/-! ### one's own list and dict, written -/
/-- the value and the place of a slot's own object, to be written once -/
theorem own_wr {α : Nat → Addr} {σ : L2.St} {H F : Hp} {L R : List (Addr × HO)} {δ : Env} {i : Nat} {t : Option Nat} {d : Dv} (D : Led H F (L ++ R)) (S : RelS K F α σ δ L) (e : δ[i]? = some (.ow t d)) :
    ∃ a o, σ[i]? = some (some (.ref a)) ∧ H a = some o ∧ DO K F o d ∧ ∀ o' d', DO K F o' d' → ∃ L', Led (upd H a o') F (L' ++ R) ∧ RelS K F α σ (δ.set i (.ow t d')) L' := by
  obtain ⟨a, o, L1, L2', rfl, hσ, h1, h2, k1, k2, k3⟩ := S.ow_at e
  have D2 : Led H F ((a, o) :: (L1 ++ (L2' ++ R))) := by
    rw [List.append_assoc] at D
    exact Led.mid D
  refine ⟨a, o, hσ, Led.head D2, h1, fun o' d' h' => ⟨L1 ++ (a, o') :: L2', ?_, k1 _ _ _ (Le.refl _) h'⟩⟩
  have D3 := Led.unmid (Led.wr (u := o') D2)
  rw [List.append_assoc]
  exact D3
def fApp (i : Nat) (fe : Env → Option (Rv × Env)) (δ : Env) : Option (Rv × Env) := match fe δ with
  | some (.dv d, δ1) => match δ1[i]? with
    | some (.ow t (.lst ds)) => if ds.length < 1000000 then some (.dv .non, δ1.set i (.ow t (.lst (ds ++ [d])))) else none
    | _ => none
  | _ => none
theorem ow_lst {F : Hp} {o : HO} {ds : List Dv} (h : DO K F o (.lst ds)) : ∃ xs, o = .lst xs ∧ DdA K F xs ds := by
  cases h with
  | lst h => exact ⟨_, rfl, h⟩
theorem ow_dct {F : Hp} {o : HO} {ds : List (Key × Dv)} (h : DO K F o (.dct ds)) : ∃ xs, o = .dK xs ∧ DdK K F xs ds := by
  cases h with
  | dct h => exact ⟨_, rfl, h⟩
/-- before the arguments: the slot is an own list already -/
def ownL (i : Nat) (δ : Env) : Bool := match δ[i]? with
  | some (.ow _ (.lst _)) => true
  | _ => false
theorem ownL_ex {i : Nat} {δ : Env} (h : ownL i δ = true) : ∃ t ds, δ[i]? = some (.ow t (.lst ds)) := by
  unfold ownL at h
  split at h
  · exact ⟨_, _, by assumption⟩
  · cases h
def fOwnL (i : Nat) (f : Env → Option (Rv × Env)) (δ : Env) : Option (Rv × Env) := if ownL i δ = true then f δ else none
theorem de_app {i : Nat} {te : TE} {fe : Env → Option (Rv × Env)} (he : DE K te fe) : DE K (tBM K "list" rAppend (tVar i) (tCons te tNil)) (fOwnL i (fApp i fe)) := by
  intro α σ H F L R δ δ' rr Q D S e q
  unfold fOwnL at e
  split at e
  · rename_i ho
    obtain ⟨t0, ds0, e0⟩ := ownL_ex ho
    obtain ⟨a, o, hσ, hH, h1, -⟩ := own_wr D S e0
    obtain ⟨xs0, rfl, hd0⟩ := ow_lst h1
    unfold fApp at e
    split at e
    · rename_i d δ1 e1
      split at e
      · rename_i t ds e2
        split at e
        · rename_i hl
          cases e
          refine ⟨.ref a, hσ, .inl ⟨rfl, _, SqL.of hH⟩, he α σ H F L R δ δ1 _ _ D S e1 fun v H' F' L' s D' S' r => ?_⟩
          obtain ⟨a', o', hσ', hH', h1', wr⟩ := own_wr D' S' e2
          rw [hσ] at hσ'
          cases hσ'
          obtain ⟨xs, rfl, hd⟩ := ow_lst h1'
          obtain ⟨L2', D2, S2⟩ := wr (.lst (xs ++ [v])) (.lst (ds ++ [d])) (.lst (hd.app (.cons r .nil)))
          exact ⟨a, xs, v, rfl, rfl, hH', lt_line (by rw [hd.len]; exact hl), q _ _ F' L2' s D2 S2 .non⟩
        · cases e
      · cases e
    · cases e
  · cases e
def fPop0 (i : Nat) (δ : Env) : Option (Rv × Env) := match δ[i]? with
  | some (.ow t (.lst ds)) => match ds[ds.length - 1]? with
    | some d => some (.dv d, δ.set i (.ow t (.lst ds.dropLast)))
    | none => none
  | _ => none
theorem DdA.dropLast {F : Hp} {vs : List V} {ds : List Dv} (h : DdA K F vs ds) : DdA K F vs.dropLast ds.dropLast := by
  rw [List.dropLast_eq_take, List.dropLast_eq_take, h.len]
  exact h.take _
theorem de_pop0 {i : Nat} : DE K (tBM0 K "list" rPop (tVar i)) (fPop0 i) := by
  intro α σ H F L R δ δ' rr Q D S e q
  unfold fPop0 at e
  split at e
  · rename_i t ds e2
    split at e
    · rename_i d e3
      cases e
      obtain ⟨a, o, hσ, hH, h1, wr⟩ := own_wr D S e2
      obtain ⟨xs, rfl, hd⟩ := ow_lst h1
      obtain ⟨v, hv, r⟩ := hd.get e3
      obtain ⟨L2', D2, S2⟩ := wr (.lst xs.dropLast) (.lst ds.dropLast) (.lst hd.dropLast)
      exact ⟨.ref a, hσ, .inl ⟨rfl, _, SqL.of hH⟩, a, xs, v, rfl, rfl, hH, by rw [hd.len]; exact hv, q v _ F L2' (Same.refl _) D2 S2 r⟩
    · cases e
  · cases e
def fPopAt (i : Nat) (fe : Env → Option (Rv × Env)) (δ : Env) : Option (Rv × Env) := match got fe δ with
  | some (.int k, δ1) => match δ1[i]? with
    | some (.ow t (.lst ds)) => if 0 ≤ k ∧ ds.length ≤ 1000000 then (match ds[k.toNat]? with
      | some d => some (.dv d, δ1.set i (.ow t (.lst (ds.eraseIdx k.toNat))))
      | none => none) else none
    | _ => none
  | _ => none
theorem de_popAt {i : Nat} {te : TE} {fe : Env → Option (Rv × Env)} (he : DE K te fe) : DE K (tBM K "list" rPopAt (tVar i) (tCons te tNil)) (fOwnL i (fPopAt i fe)) := by
  intro α σ H F L R δ δ' rr Q D S e q
  unfold fOwnL at e
  split at e
  · rename_i ho
    obtain ⟨t0, ds0, e0⟩ := ownL_ex ho
    obtain ⟨a, o, hσ, hH, h1, -⟩ := own_wr D S e0
    obtain ⟨xs0, rfl, hd0⟩ := ow_lst h1
    unfold fPopAt at e
    split at e
    · rename_i k δ1 e1
      split at e
      · rename_i t ds e2
        split at e
        · rename_i hk
          split at e
          · rename_i d e3
            cases e
            refine ⟨.ref a, hσ, .inl ⟨rfl, _, SqL.of hH⟩, he.rd D S e1 fun v H' F' L' s D' S' dr => ?_⟩
            rw [dr.int]
            obtain ⟨a', o', hσ', hH', h1', wr⟩ := own_wr D' S' e2
            rw [hσ] at hσ'
            cases hσ'
            obtain ⟨xs, rfl, hd⟩ := ow_lst h1'
            obtain ⟨u, hu, r⟩ := hd.get e3
            have hlt := (List.getElem?_eq_some_iff.mp e3).1
            obtain ⟨L2', D2, S2⟩ := wr (.lst (xs.eraseIdx k.toNat)) (.lst (ds.eraseIdx k.toNat)) (.lst (hd.erase _))
            exact ⟨a, xs, k, k.toNat, u, rfl, rfl, hH', by omega, by omega, by rw [hd.len]; exact seqIx hk.1 (by omega), hu, q u _ F' L2' s D2 S2 r⟩
          · cases e
        · cases e
      · cases e
    · cases e
  · cases e
/-- d[k] = v, of one's own dict: the value first, then the dict, then the key -/
def ownD (i : Nat) (δ : Env) : Bool := match δ[i]? with
  | some (.ow _ (.dct _)) => true
  | _ => false
theorem ownD_ex {i : Nat} {δ : Env} (h : ownD i δ = true) : ∃ t ds, δ[i]? = some (.ow t (.dct ds)) := by
  unfold ownD at h
  split at h
  · exact ⟨_, _, by assumption⟩
  · cases h
def sPut (i : Nat) (fk fv : Env → Option (Rv × Env)) (δ : Env) : Option (Ctl × Env) := match fv δ with
  | some (.dv d, δ1) => if ownD i δ1 = true then (match got fk δ1 with
    | some (kd, δ2) => match keyOf kd, δ2[i]? with
      | some k, some (.ow t (.dct ds)) => if ds.length < 1000000 then some (.nx, δ2.set i (.ow t (.dct (putD ds k d)))) else none
      | _, _ => none
    | none => none) else none
  | _ => none
theorem ds_put {i : Nat} {tk tv : TE} {fk fv : Env → Option (Rv × Env)} (hk : DE K tk fk) (hv : DE K tv fv) : DS K (sDPut (tVar i) tk tv) (sPut i fk fv) := by
  intro α σ H F L R δ δ' c D hD S e q
  unfold sPut at e
  split at e
  · rename_i d δ1 e1
    split at e
    · rename_i ho
      split at e
      · rename_i kd δ2 e2
        split at e
        · rename_i k t ds ek e3
          split at e
          · rename_i hl
            cases e
            refine hv α σ H F L R δ δ1 _ _ hD S e1 fun v H1 F1 L1 s1 D1 S1 r1 => ?_
            have r1 : Dd K F1 v d := r1
            obtain ⟨t0, ds0, e0⟩ := ownD_ex ho
            obtain ⟨a, o, hσ, hH, h1, -⟩ := own_wr D1 S1 e0
            refine ⟨_, hσ, hk.rd D1 S1 e2 fun y H2 F2 M2 s2 D2 S2 dr => ?_⟩
            obtain ⟨a', o', hσ', hH', h1', wr⟩ := own_wr D2 S2 e3
            rw [hσ] at hσ'
            cases hσ'
            obtain ⟨xs, rfl, hd⟩ := ow_dct h1'
            rw [dr.key ek]
            obtain ⟨M3, D3, S3⟩ := wr (.dK (putK xs k v)) (.dct (putD ds k d)) (.dct (hd.put (r1.mono (Le.of s2))))
            exact ⟨a, _, rfl, DPut.k hH' (lt_line (by rw [hd.len]; exact hl)), q σ _ F2 M3 (s1.trans s2) D3 S3⟩
          · cases e
        · cases e
      · cases e
    · cases e
  · cases e
/-- xs[k] = v, of one's own list -/
def sSetL (i : Nat) (fk fv : Env → Option (Rv × Env)) (δ : Env) : Option (Ctl × Env) := match fv δ with
  | some (.dv d, δ1) => if ownL i δ1 = true then (match got fk δ1 with
    | some (.int k, δ2) => match δ2[i]? with
      | some (.ow t (.lst ds)) => match ixN ds.length k with
        | some j => some (.nx, δ2.set i (.ow t (.lst (ds.set j d))))
        | none => none
      | _ => none
    | _ => none) else none
  | _ => none
theorem ds_setL {i : Nat} {tk tv : TE} {fk fv : Env → Option (Rv × Env)} (hk : DE K tk fk) (hv : DE K tv fv) : DS K (tAsg tv (gSub (tVar i) tk rSetL)) (sSetL i fk fv) := by
  intro α σ H F L R δ δ' c D hD S e q
  unfold sSetL at e
  split at e
  · rename_i d δ1 e1
    split at e
    · rename_i ho
      split at e
      · rename_i k δ2 e2
        split at e
        · rename_i t ds e3
          split at e
          · rename_i j ej
            cases e
            refine hv α σ H F L R δ δ1 _ _ hD S e1 fun v H1 F1 L1 s1 D1 S1 r1 => ?_
            have r1 : Dd K F1 v d := r1
            obtain ⟨t0, ds0, e0⟩ := ownL_ex ho
            obtain ⟨a, o, hσ, hH, h1, -⟩ := own_wr D1 S1 e0
            refine ⟨_, hσ, hk.rd D1 S1 e2 fun y H2 F2 M2 s2 D2 S2 dr => ?_⟩
            obtain ⟨a', o', hσ', hH', h1', wr⟩ := own_wr D2 S2 e3
            rw [hσ] at hσ'
            cases hσ'
            obtain ⟨xs, rfl, hd⟩ := ow_lst h1'
            rw [dr.int]
            obtain ⟨M3, D3, S3⟩ := wr (.lst (xs.set j v)) (.lst (ds.set j d)) (.lst (hd.set j (r1.mono (Le.of s2))))
            exact ⟨a, xs, k, j, rfl, rfl, hH', by rw [hd.len]; exact ej, q σ _ F2 M3 (s1.trans s2) D3 S3⟩
          · cases e
        · cases e
      · cases e
    · cases e
  · cases e
/-! ### loops -/
def fLoop (fb : Dv → Env → Option Env) (fs : Fs) : List Dv → Fs
  | [], δ => some (.nx, δ)
  | d :: ds, δ => match fb d δ with
    | none => none
    | some δ1 => match fs δ1 with
      | some (.nx, δ2) => fLoop fb fs ds δ2
      | some (.ct, δ2) => fLoop fb fs ds δ2
      | some (.bk, δ2) => some (.nx, δ2)
      | some (c, δ2) => some (c, δ2)
      | none => none
theorem for_core {J : It} {g : TG} {tb : TS} {fb : Dv → Env → Option Env} {fs : Fs} {ws : List Nat} (hg : DG K g fb ws) (hb : DS K tb fs) {α : Nat → Addr} {σ : L2.St} {H F : Hp} {L R : List (Addr × HO)} {δ δ' : Env} {c : Ctl} {ds : List Dv} {D : Ends}
    (hD : Led H F (L ++ R)) (S : RelS K F α σ δ L) (wk : WalkD K J F ds) (e : fLoop fb fs ds δ = some (c, δ')) (q : After K α F R D δ' c) : FL.forAsk J g tb D σ H := by
  refine ⟨fun i m σ' H' => m = ds.length - i ∧ i ≤ ds.length ∧ ∃ F' L' δ2, Same F F' ∧ Led H' F' (L' ++ R) ∧ RelS K F' α σ' δ2 L' ∧ fLoop fb fs (ds.drop i) δ2 = some (c, δ'),
    ⟨ds.length, by omega, by omega, F, L, δ, Same.refl _, hD, S, by rw [List.drop_zero]; exact e⟩, ?_⟩
  rintro i m σ' H' ⟨rfl, hi, F', L', δ2, s, D', S', e'⟩
  by_cases hlt : i < ds.length
  · obtain ⟨d, hd, edrop⟩ := drop_at hlt
    refine .inr ⟨wk.go i H' F' _ s D' hlt, fun σ2 H2 => i + 1 ≤ ds.length ∧ ∃ F' L' δ2, Same F F' ∧ Led H2 F' (L' ++ R) ∧ RelS K F' α σ2 δ2 L' ∧ fLoop fb fs (ds.drop (i + 1)) δ2 = some (c, δ'),
      fun σ2 H2 ⟨_, w⟩ => ⟨ds.length - (i + 1), by omega, rfl, hlt, w⟩, fun x H2 y => ?_⟩
    obtain ⟨F2, s2, D2, rx⟩ := wk.yld i H' x H2 F' _ d s D' hd y
    rw [edrop] at e'
    unfold fLoop at e'
    split at e'
    · cases e'
    · rename_i δ3 e3
      refine hg α σ' H2 F2 L' R _ _ x d _ D2 (S'.mono (Le.of s2)) rx e3 fun σ4 L4 sl4 S4 w4 => ?_
      have D4 := Led.subA D2 sl4
      have s4 := s.trans s2
      have nxt : ∀ δ5, fLoop fb fs (ds.drop (i + 1)) δ5 = some (c, δ') → ∀ σ' H' F' L', Same F2 F' → Led H' F' (L' ++ R) → RelS K F' α σ' δ5 L' → i + 1 ≤ ds.length ∧ ∃ F' L' δ2, Same F F' ∧ Led H' F' (L' ++ R) ∧ RelS K F' α σ' δ2 L' ∧ fLoop fb fs (ds.drop (i + 1)) δ2 = some (c, δ') :=
        fun δ5 e5 σ5 H5 F5 L5 s5 D5 S5 => ⟨hlt, F5, L5, δ5, s4.trans s5, D5, S5, e5⟩
      split at e'
      · rename_i δ5 e5
        exact hb α σ4 H2 F2 L4 R _ _ .nx _ D4 S4 e5 (nxt δ5 e')
      · rename_i δ5 e5
        exact hb α σ4 H2 F2 L4 R _ _ .ct _ D4 S4 e5 (nxt δ5 e')
      · rename_i δ5 e5
        cases e'
        exact hb α σ4 H2 F2 L4 R _ _ .bk _ D4 S4 e5 (After.grow (c := .nx) s4 q)
      · rename_i c1 δ5 n1 n2 n3 e5
        cases e'
        refine hb α σ4 H2 F2 L4 R _ _ c _ D4 S4 e5 ?_
        have q2 := After.grow s4 q
        cases c with
        | nx => exact (n1 rfl).elim
        | ct => exact (n2 rfl).elim
        | bk => exact (n3 rfl).elim
        | rt d => exact q2
        | ro d => exact q2
        | rn _ d => exact q2
      · cases e'
  · have ei : i = ds.length := by omega
    subst ei
    rw [List.drop_length] at e'
    cases e'
    exact .inl ⟨wk.stop H' F' _ s D', q σ' H' F' L' s D' S'⟩
def sFor (fi : Env → Option (List Dv × Env)) (fb : Dv → Env → Option Env) (fs : Fs) (δ : Env) : Option (Ctl × Env) := match fi δ with
  | some (ds, δ1) => fLoop fb fs ds δ1
  | none => none
theorem ds_for {wi : TI} {g : TG} {tb : TS} {fi : Env → Option (List Dv × Env)} {fb : Dv → Env → Option Env} {fs : Fs} {ws : List Nat} (hi : DI K wi fi) (hg : DG K g fb ws) (hb : DS K tb fs) : DS K (tFor wi g tb) (sFor fi fb fs) := by
  intro α σ H F L R δ δ' c D hD S e q
  unfold sFor at e
  split at e
  · rename_i ds δ1 e1
    refine hi α σ H F L R δ δ1 ds _ hD S e1 fun J H' F' L' s D' S' wk => ?_
    exact for_core hg hb D' S' wk e (q.grow s)
  · cases e
theorem ds_forD (w : Way) (i : Nat) {g : TG} {tb : TS} {fb : Dv → Env → Option Env} {fs : Fs} {ws : List Nat} (hg : DG K g fb ws) (hb : DS K tb fs) :
    DS K (fun D σ H => tLock (tFor (w.ti (tVar i)) g tb) D σ H ∨ tFor (w.ti (tVar i)) g tb D σ H) (sFor (itD w i) fb fs) := by
  intro α σ H F L R δ δ' c D hD S e q
  unfold sFor at e
  split at e
  · rename_i ds δ1 e1
    unfold itD at e1
    split at e1
    · rename_i ks eδ
      cases e1
      obtain ⟨v, hσ, r⟩ := S.sh_at eδ
      cases r with
      | @dct a kvs _ h hs =>
        have hv : ∀ H1 (R : VK), R (.ref a) H1 → tVar i σ H1 R := fun H1 R r => ⟨_, hσ, r⟩
        rcases h with h | ⟨od, h⟩
        · refine .inl ⟨a, .dK kvs, hD.frz h, trivial, fun od => ?_⟩
          have le := Le.lock (od := od) h True.intro dk_nt dk_nl
          have D1 := Led.relock (o := .frz od (.dK kvs)) hD h
          refine w.run (F := upd F a (.frz od (.dK kvs))) hv upd_same upd_same (hs.mono le) fun J wk => ?_
          refine for_core hg hb D1 (S.mono le) wk e ?_
          cases c with
          | nx => exact fun σ' H' F' L' s D' S' => ⟨D'.frz (s _ _ upd_same), q σ' _ (upd F' a (.dK kvs)) L' (same_lock h s) (Led.relock D' (s _ _ upd_same)) (S'.mono (Le.unlock (s _ _ upd_same)))⟩
          | bk => exact fun σ' H' F' L' s D' S' => ⟨D'.frz (s _ _ upd_same), q σ' _ (upd F' a (.dK kvs)) L' (same_lock h s) (Led.relock D' (s _ _ upd_same)) (S'.mono (Le.unlock (s _ _ upd_same)))⟩
          | ct => exact fun σ' H' F' L' s D' S' => ⟨D'.frz (s _ _ upd_same), q σ' _ (upd F' a (.dK kvs)) L' (same_lock h s) (Led.relock D' (s _ _ upd_same)) (S'.mono (Le.unlock (s _ _ upd_same)))⟩
          | rt d => exact fun v H' F' L' σ' s D' S' r => ⟨D'.frz (s _ _ upd_same), q v _ (upd F' a (.dK kvs)) L' σ' (same_lock h s) (Led.relock D' (s _ _ upd_same)) (S'.mono (Le.unlock (s _ _ upd_same))) (r.mono (Le.unlock (s _ _ upd_same)))⟩
          | rn sh d => exact fun v M H' F' L' σ' s D' S' r => ⟨D'.frz (s _ _ upd_same), q v M _ (upd F' a (.dK kvs)) L' σ' (same_lock h s) (Led.relock D' (s _ _ upd_same)) (S'.mono (Le.unlock (s _ _ upd_same))) (r.mono (Le.unlock (s _ _ upd_same)))⟩
          | ro d => exact fun b o H' F' L' σ' s D' S' r => ⟨D'.frz (s _ _ upd_same), q b o _ (upd F' a (.dK kvs)) L' σ' (same_lock h s) (Led.relock D' (s _ _ upd_same)) (S'.mono (Le.unlock (s _ _ upd_same))) (r.mono (Le.unlock (s _ _ upd_same)))⟩
        · refine .inr ?_
          refine w.run hv (hD.frz h) h hs fun J wk => ?_
          exact for_core hg hb hD S wk e q
    · cases e1
  · cases e
/-- while: at most n turns -/
def wLoop (ft : Env → Option (Bool × Env)) (fs : Fs) : Nat → Fs
  | 0, _ => none
  | n + 1, δ => match ft δ with
    | none => none
    | some (false, δ1) => some (.nx, δ1)
    | some (true, δ1) => match fs δ1 with
      | some (.nx, δ2) => wLoop ft fs n δ2
      | some (.ct, δ2) => wLoop ft fs n δ2
      | some (.bk, δ2) => some (.nx, δ2)
      | some (c, δ2) => some (c, δ2)
      | none => none
theorem ds_while (n : Nat) {tc : TT} {tb : TS} {ft : Env → Option (Bool × Env)} {fs : Fs} (hc : DT K tc ft) (hb : DS K tb fs) : DS K (tWhile tc tb) (wLoop ft fs n) := by
  intro α σ H F L R δ δ' c D hD S e q
  refine ⟨fun m σ' H' => ∃ F' L' δ2, Same F F' ∧ Led H' F' (L' ++ R) ∧ RelS K F' α σ' δ2 L' ∧ wLoop ft fs m δ2 = some (c, δ'), ⟨n, F, L, δ, Same.refl _, hD, S, e⟩, ?_⟩
  rintro m σ' H' ⟨F', L', δ2, s, D', S', e'⟩
  cases m with
  | zero => cases e'
  | succ m =>
    unfold wLoop at e'
    split at e'
    · cases e'
    · rename_i δ1 e1
      cases e'
      exact hc α σ' H' F' L' R _ _ false _ D' S' e1 fun H2 F2 L2' s2 D2 S2 => iteF (q σ' H2 F2 L2' (s.trans s2) D2 S2)
    · rename_i δ1 e1
      refine hc α σ' H' F' L' R _ _ true _ D' S' e1 fun H2 F2 M2 s2 D2 S2 => iteT ?_
      have s4 := s.trans s2
      refine ⟨fun σ' H' => ∃ F' L' δ2, Same F F' ∧ Led H' F' (L' ++ R) ∧ RelS K F' α σ' δ2 L' ∧ wLoop ft fs m δ2 = some (c, δ'), fun σ' H' w => ⟨m, Nat.lt_succ_self m, w⟩, ?_⟩
      split at e'
      · rename_i δ5 e5
        exact hb α σ' H2 F2 M2 R _ _ .nx _ D2 S2 e5 fun σ5 H5 F5 L5 s5 D5 S5 => ⟨F5, L5, δ5, s4.trans s5, D5, S5, e'⟩
      · rename_i δ5 e5
        exact hb α σ' H2 F2 M2 R _ _ .ct _ D2 S2 e5 fun σ5 H5 F5 L5 s5 D5 S5 => ⟨F5, L5, δ5, s4.trans s5, D5, S5, e'⟩
      · rename_i δ5 e5
        cases e'
        exact hb α σ' H2 F2 M2 R _ _ .bk _ D2 S2 e5 (After.grow (c := .nx) s4 q)
      · rename_i c1 δ5 n1 n2 n3 e5
        cases e'
        refine hb α σ' H2 F2 M2 R _ _ c _ D2 S2 e5 ?_
        have q2 := After.grow s4 q
        cases c with
        | nx => exact (n1 rfl).elim
        | ct => exact (n2 rfl).elim
        | bk => exact (n3 rfl).elim
        | rt d => exact q2
        | ro d => exact q2
        | rn _ d => exact q2
      · cases e'
end
end FD
namespace FD
open PySem PySem.Spec PyProof.Rows L2 FL
section
variable {K : PySem.W.Frag}
/-! ### what a def promises: its body as a function on data -/
/-- pure: the arguments' data, the answer's -/
def spP (K : PySem.W.Frag) (n : Nat) (sem : List Dv → Option Dv) : Sp := fun vs H Q _ => ∃ (F : Hp) (L : List (Addr × HO)) (ds : List Dv) (d : Dv), ds.length = n ∧ DdA K F vs ds ∧ Led H F L ∧ sem ds = some d ∧
  ∀ v H' F', Same F F' → Led H' F' L → Dd K F' v d → Q v H'
/-- the answer is a new object -/
def spO (K : PySem.W.Frag) (n : Nat) (sem : List Dv → Option Dv) : Sp := fun vs H Q _ => ∃ (F : Hp) (L : List (Addr × HO)) (ds : List Dv) (d : Dv), ds.length = n ∧ DdA K F vs ds ∧ Led H F L ∧ sem ds = some d ∧
  ∀ a o H' F', Same F F' → Led H' F' ((a, o) :: L) → DO K F' o d → Q (.ref a) H'
/-- the argument at p is an object of the caller's that is written -/
def spM (K : PySem.W.Frag) (n p : Nat) (sem : Dv → List Dv → Option (Dv × Dv)) : Sp := fun vs H Q _ => ∃ (F : Hp) (L : List (Addr × HO)) (a : Addr) (o : HO) (us : List V) (ds : List Dv) (d0 d d1 : Dv), vs = us.take p ++ .ref a :: us.drop p ∧ p ≤ us.length ∧ ds.length + 1 = n ∧ DdA K F us ds ∧ DO K F o d0 ∧ Led H F ((a, o) :: L) ∧ sem d0 ds = some (d, d1) ∧
  ∀ v H' F' o', Same F F' → Led H' F' ((a, o') :: L) → DO K F' o' d1 → Dd K F' v d → Q v H'
def env0 (ds : List Dv) (m : Nat) : Env := ds.map Sl.sh ++ List.replicate m .no
def semP (m : Nat) (fs : Fs) (ds : List Dv) : Option Dv := match fs (env0 ds m) with
  | some (.rt d, _) => some d
  | some (.nx, _) => some .non
  | _ => none
def semO (m : Nat) (fs : Fs) (ds : List Dv) : Option Dv := match fs (env0 ds m) with
  | some (.ro d, _) => some d
  | _ => none
def envM (p : Nat) (d0 : Dv) (ds : List Dv) (m : Nat) : Env := (ds.take p).map Sl.sh ++ Sl.ow (some 0) d0 :: (ds.drop p).map Sl.sh ++ List.replicate m .no
def semM (p m : Nat) (fs : Fs) (d0 : Dv) (ds : List Dv) : Option (Dv × Dv) := match fs (envM p d0 ds m) with
  | some (.rt d, δ') => match δ'[p]? with
    | some (.ow (some 0) d1) => some (d, d1)
    | _ => none
  | some (.nx, δ') => match δ'[p]? with
    | some (.ow (some 0) d1) => some (.non, d1)
    | _ => none
  | _ => none
theorem relS_no {F : Hp} {α : Nat → Addr} : ∀ (m : Nat) (σ : List (Option V)), σ.length = m → RelS K F α σ (List.replicate m .no) []
  | 0, [], _ => .nil
  | m + 1, x :: σ, h => .no (relS_no m σ (by simpa using h))
  | 0, _ :: _, h => by simp at h
  | _ + 1, [], h => by simp at h
theorem relS_sh {F : Hp} {α : Nat → Addr} : ∀ {vs : List V} {ds : List Dv}, DdA K F vs ds → ∀ {σ : List (Option V)} {δ : Env} {L : List (Addr × HO)}, RelS K F α σ δ L → RelS K F α (vs.map some ++ σ) (ds.map Sl.sh ++ δ) L
  | _, _, .nil, _, _, _, h => h
  | _, _, .cons r t, _, _, _, h => .sh r (relS_sh t h)
theorem start_rel {N : List Str} {vs : List V} {ds : List Dv} {F : Hp} {α : Nat → Addr} {m : Nat} (h : DdA K F vs ds) (hn : N.length - vs.length = m) : RelS K F α (L2.start N vs) (env0 ds m) [] := by
  unfold L2.start env0
  rw [hn]
  exact relS_sh h (relS_no m _ (by simp))
theorem run_P {t : TS} {fs : Fs} {N : List Str} {n m : Nat} {vs : List V} {H : Hp} {Q : VK} {E : XK} (ht : DS K t fs) (hN : N.length - n = m) (h : spP K n (semP m fs) vs H Q E) : t { nx := fun _ H' => Q .non H', rt := Q } (L2.start N vs) H := by
  obtain ⟨F, L, ds, d, hn, hd, D, e, q⟩ := h
  have S := start_rel (N := N) (m := m) (α := fun _ => 0) hd (by rw [hd.len, hn]; exact hN)
  unfold semP at e
  split at e
  · rename_i d' δ' e1
    cases e
    exact ht _ _ H F [] L _ _ _ _ D S e1 fun v H' F' L' σ' s D' S' r => q v H' F' s (FL.Led.sub D' (List.sublist_append_right _ _)) r
  · rename_i δ' e1
    cases e
    exact ht _ _ H F [] L _ _ _ _ D S e1 fun σ' H' F' L' s D' S' => q .non H' F' s (FL.Led.sub D' (List.sublist_append_right _ _)) .non
  · cases e
theorem run_O {t : TS} {fs : Fs} {N : List Str} {n m : Nat} {vs : List V} {H : Hp} {Q : VK} {E : XK} (ht : DS K t fs) (hN : N.length - n = m) (h : spO K n (semO m fs) vs H Q E) : t { nx := fun _ H' => Q .non H', rt := Q } (L2.start N vs) H := by
  obtain ⟨F, L, ds, d, hn, hd, D, e, q⟩ := h
  have S := start_rel (N := N) (m := m) (α := fun _ => 0) hd (by rw [hd.len, hn]; exact hN)
  unfold semO at e
  split at e
  · rename_i d' δ' e1
    cases e
    exact ht _ _ H F [] L _ _ _ _ D S e1 fun a o H' F' L' σ' s D' S' r => q a o H' F' s (FL.Led.sub D' ((List.sublist_append_right _ _).cons₂ _)) r
  · cases e
theorem run_M {t : TS} {fs : Fs} {N : List Str} {n p m : Nat} {vs : List V} {H : Hp} {Q : VK} {E : XK} (ht : DS K t fs) (hN : N.length - n = m) (h : spM K n p (semM p m fs) vs H Q E) : t { nx := fun _ H' => Q .non H', rt := Q } (L2.start N vs) H := by
  obtain ⟨F, L, a, o, us, ds, d0, d, d1, rfl, hp, hn, hd, ho, D, e, q⟩ := h
  have hl : (us.take p ++ V.ref a :: us.drop p).length = n := by rw [List.length_append, List.length_cons, List.length_take, List.length_drop, Nat.min_eq_left hp]; have := hd.len; omega
  have S : RelS K F (fun _ => a) (L2.start N (us.take p ++ V.ref a :: us.drop p)) (envM p d0 ds m) [(a, o)] := by
    unfold L2.start envM
    rw [hl, hN, List.map_append, List.map_cons, List.append_assoc, List.append_assoc]
    refine relS_sh (hd.take p) ?_
    rw [List.cons_append, List.cons_append]
    exact .ow ho (fun _ _ => rfl) (relS_sh (hd.drop p) (relS_no m _ (by simp)))
  have fin : ∀ {σ' : L2.St} {H' F' : Hp} {L' : List (Addr × HO)} {δ' : Env} {t : Dv}, Led H' F' (L' ++ L) → RelS K F' (fun _ => a) σ' δ' L' → δ'[p]? = some (.ow (some 0) t) → ∃ o', Led H' F' ((a, o') :: L) ∧ DO K F' o' t := by
    intro σ' H' F' L' δ' t D' S' e'
    obtain ⟨b, o', L1, L2', rfl, hσ, h1, h2, -⟩ := S'.ow_at e'
    have eb : b = a := h2 0 rfl
    subst eb
    refine ⟨o', FL.Led.sub (Led.mid (by rw [List.append_assoc] at D'; exact D')) ?_, h1⟩
    exact List.Sublist.cons₂ _ ((List.sublist_append_right L2' L).trans (List.sublist_append_right L1 (L2' ++ L)))
  unfold semM at e
  split at e
  · rename_i d' δ' e1
    split at e
    · rename_i d1' e2
      cases e
      refine ht _ _ H F [(a, o)] L _ _ _ _ D S e1 fun v H' F' L' σ' s D' S' r => ?_
      obtain ⟨o', D2, h2⟩ := fin D' S' e2
      exact q v H' F' o' s D2 h2 r
    · cases e
  · rename_i δ' e1
    split at e
    · rename_i d1' e2
      cases e
      refine ht _ _ H F [(a, o)] L _ _ _ _ D S e1 fun σ' H' F' L' s D' S' => ?_
      obtain ⟨o', D2, h2⟩ := fin D' S' e2
      exact q .non H' F' o' s D2 h2 .non
    · cases e
  · cases e
theorem len_P {n : Nat} {sem : List Dv → Option Dv} {ps : List Str} (h : ps.length = n) : ∀ vs H Q E, spP K n sem vs H Q E → vs.length = ps.length := by
  rintro vs H Q E ⟨F, L, ds, d, hn, hd, -⟩
  rw [hd.len, hn, h]
theorem len_O {n : Nat} {sem : List Dv → Option Dv} {ps : List Str} (h : ps.length = n) : ∀ vs H Q E, spO K n sem vs H Q E → vs.length = ps.length := by
  rintro vs H Q E ⟨F, L, ds, d, hn, hd, -⟩
  rw [hd.len, hn, h]
theorem len_M {n p : Nat} {sem : Dv → List Dv → Option (Dv × Dv)} {ps : List Str} (h : ps.length = n) : ∀ vs H Q E, spM K n p sem vs H Q E → vs.length = ps.length := by
  rintro vs H Q E ⟨F, L, a, o, us, ds, d0, d, d1, rfl, hp, hn, hd, -⟩
  rw [List.length_append, List.length_cons, List.length_take, List.length_drop, Nat.min_eq_left hp, h]
  have := hd.len
  omega
/-! ### calls -/
def fCallP (sem : List Dv → Option Dv) (fa : Env → Option (List Rv × Env)) (δ : Env) : Option (Rv × Env) := match fa δ with
  | some (rs, δ') => match rvData rs with
    | some ds => match sem ds with
      | some d => some (.dv d, δ')
      | none => none
    | none => none
  | none => none
def oCall (sem : List Dv → Option Dv) (fa : Env → Option (List Rv × Env)) (δ : Env) : Option (Dv × Env) := match fa δ with
  | some (rs, δ') => match rvData rs with
    | some ds => match sem ds with
      | some d => some (d, δ')
      | none => none
    | none => none
  | none => none
theorem rvData_len : ∀ {rs : List Rv} {ds : List Dv}, rvData rs = some ds → rs.length = ds.length
  | [], _, e => by cases e; rfl
  | .dv d :: rs, ds, e => by
    unfold rvData at e
    split at e
    · rename_i ds' e'; cases e; rw [List.length_cons, List.length_cons, rvData_len e']
    · cases e
  | .al _ :: rs, ds, e => by cases e
/-- n arguments, whatever they are -/
def ckLen (n : Nat) (fa : Env → Option (List Rv × Env)) (δ : Env) : Option (List Rv × Env) := match fa δ with
  | some (rs, δ') => if rs.length = n then some (rs, δ') else none
  | none => none
theorem de_callP {n : Nat} {sem : List Dv → Option Dv} {ta : TA} {fa : Env → Option (List Rv × Env)} {E : XK} (ha : DA K ta fa) : DE K (tCall (spP K n sem) [] E ta) (fCallP sem (ckLen n fa)) := by
  intro α σ H F L R δ δ' rr Q D S e q
  unfold fCallP ckLen at e
  split at e
  · rename_i rs δ1 e1
    split at e1
    · rename_i rs' δ2 e0
      split at e1
      · rename_i hl
        cases e1
        split at e
        · rename_i ds e2
          split at e
          · rename_i d e3
            cases e
            refine ha α σ H F L R δ _ rs _ D S e0 fun vs H' F' L' s D' S' R' => ?_
            rw [List.append_nil]
            exact ⟨F', _, ds, d, by rw [← rvData_len e2]; exact hl, rvData_dda R' e2, D', e3, fun v H2 F2 s2 D2 r => q v H2 F2 L' (s.trans s2) D2 (S'.mono (Le.of s2)) r⟩
          · cases e
        · cases e
      · cases e1
    · cases e1
  · cases e
theorem do_call {n : Nat} {sem : List Dv → Option Dv} {ta : TA} {fa : Env → Option (List Rv × Env)} {E : XK} (ha : DA K ta fa) : DEO K (tCall (spO K n sem) [] E ta) (oCall sem (ckLen n fa)) := by
  intro α σ H F L R δ δ' rr Q D S e q
  unfold oCall ckLen at e
  split at e
  · rename_i rs δ1 e1
    split at e1
    · rename_i rs' δ2 e0
      split at e1
      · rename_i hl
        cases e1
        split at e
        · rename_i ds e2
          split at e
          · rename_i d e3
            cases e
            refine ha α σ H F L R δ _ rs _ D S e0 fun vs H' F' L' s D' S' R' => ?_
            rw [List.append_nil]
            exact ⟨F', _, ds, _, by rw [← rvData_len e2]; exact hl, rvData_dda R' e2, D', e3, fun a o H2 F2 s2 D2 r => q a o H2 F2 L' (s.trans s2) D2 (S'.mono (Le.of s2)) r⟩
          · cases e
        · cases e
      · cases e1
    · cases e1
  · cases e
/-- a call that writes the object of a slot -/
def fCallM (n p : Nat) (sem : Dv → List Dv → Option (Dv × Dv)) (fa : Env → Option (List Rv × Env)) (δ : Env) : Option (Rv × Env) := match fa δ with
  | some (rs, δ') => if rs.length = n then (match rs[p]? with
    | some (.al i) => match rvData (rs.eraseIdx p), δ'[i]? with
      | some ds, some (.ow t d0) => match sem d0 ds with
        | some (d, d1) => some (.dv d, δ'.set i (.ow t d1))
        | none => none
      | _, _ => none
    | _ => none) else none
  | none => none
theorem paired_erase {α β : Type} {G : α → β → Prop} : ∀ {vs : List α} {rs : List β}, Paired G vs rs → ∀ {p : Nat} {r : β}, rs[p]? = some r → ∃ v, vs = (vs.eraseIdx p).take p ++ v :: (vs.eraseIdx p).drop p ∧ p ≤ (vs.eraseIdx p).length ∧ G v r ∧ Paired G (vs.eraseIdx p) (rs.eraseIdx p)
  | _, _, .nil, p, r, h => by cases h
  | v :: vs, _, .cons g t, 0, r, h => by cases h; exact ⟨v, rfl, Nat.zero_le _, g, t⟩
  | v :: vs, _, .cons g t, p + 1, r, h => by
    obtain ⟨u, e, hl, g', t'⟩ := paired_erase t (p := p) h
    refine ⟨u, ?_, ?_, g', .cons g t'⟩
    · show v :: vs = v :: ((vs.eraseIdx p).take p ++ u :: (vs.eraseIdx p).drop p)
      rw [← e]
    · show p + 1 ≤ (vs.eraseIdx p).length + 1
      omega
theorem de_callM {n p : Nat} {sem : Dv → List Dv → Option (Dv × Dv)} {ta : TA} {fa : Env → Option (List Rv × Env)} {E : XK} (ha : DA K ta fa) : DE K (tCall (spM K n p sem) [] E ta) (fCallM n p sem fa) := by
  intro α σ H F L R δ δ' rr Q D S e q
  unfold fCallM at e
  split at e
  · rename_i rs δ1 e1
    split at e
    · rename_i hl
      split at e
      · rename_i i e2
        split at e
        · rename_i ds t d0 e3 e4
          split at e
          · rename_i d d1 e5
            cases e
            refine ha α σ H F L R δ _ rs _ D S e1 fun vs H' F' L' s D' S' R' => ?_
            rw [List.append_nil]
            obtain ⟨v, ev, hp, rv, t'⟩ := paired_erase R' e2
            obtain ⟨a, o, L1, L2', rfl, hσ, h1, h2, k1, k2, k3⟩ := S'.ow_at e4
            have rv : σ[i]? = some (some v) := rv
            rw [hσ] at rv
            cases rv
            have D2 : Led H' F' ((a, o) :: (L1 ++ (L2' ++ R))) := by
              rw [List.append_assoc] at D'
              exact Led.mid D'
            have hlen : ds.length + 1 = n := by
              have h3 := rvData_len e3
              have h4 : p < rs.length := (List.getElem?_eq_some_iff.mp e2).1
              rw [List.length_eraseIdx, if_pos h4] at h3
              omega
            refine ⟨F', _, a, o, vs.eraseIdx p, ds, d0, d, d1, ev, hp, hlen, rvData_dda t' e3, h1, D2, e5, fun v H2 F2 o' s2 D3 ho r => ?_⟩
            refine q v H2 F2 (L1 ++ (a, o') :: L2') (s.trans s2) ?_ (k1 _ _ _ (Le.of s2) ho) r
            rw [List.append_assoc]
            exact Led.unmid D3
          · cases e
        · cases e
      · cases e
    · cases e
  · cases e
/-- a call with defaults for the last parameters, with keywords -/
def aMore (dvs : List Dv) (fa : Env → Option (List Rv × Env)) (δ : Env) : Option (List Rv × Env) := match fa δ with
  | some (rs, δ') => some (rs ++ dvs.map Rv.dv, δ')
  | none => none
def aApp (fa fb : Env → Option (List Rv × Env)) (δ : Env) : Option (List Rv × Env) := match fa δ with
  | some (rs, δ1) => match fb δ1 with
    | some (ss, δ2) => some (rs ++ ss, δ2)
    | none => none
  | none => none
theorem Paired.appG {α β : Type} {G : α → β → Prop} : ∀ {l₁ m₁ : List α} {l₂ m₂ : List β}, Paired G l₁ l₂ → Paired G m₁ m₂ → Paired G (l₁ ++ m₁) (l₂ ++ m₂)
  | _, _, _, _, .nil, k => k
  | _, _, _, _, .cons r t, k => .cons r (Paired.appG t k)
def tAMore (dvs : List V) (ta : TA) : TA := fun σ H Q => ta σ H fun vs H1 => Q (vs ++ dvs) H1
theorem da_more {dvs : List V} {dds : List Dv} {ta : TA} {fa : Env → Option (List Rv × Env)} (hc : Paired IsC dvs dds) (ha : DA K ta fa) : DA K (tAMore dvs ta) (aMore dds fa) := by
  intro α σ H F L R δ δ' rr Q D S e q
  unfold aMore at e
  split at e
  · rename_i rs δ1 e1
    cases e
    refine ha α σ H F L R δ _ rs _ D S e1 fun vs H' F' L' s D' S' R' => q _ H' F' L' s D' S' (Paired.appG R' ?_)
    clear q e1
    induction hc with
    | nil => exact .nil
    | cons h t ih => exact .cons h.dd ih
  · cases e
theorem tCall_more {sp : Sp} {dvs : List V} {E : XK} {ta : TA} : tCall sp dvs E ta = tCall sp [] E (tAMore dvs ta) := by
  funext σ H Q
  show ta σ H (fun vs H1 => sp (vs ++ dvs) H1 Q E) = ta σ H (fun vs H1 => sp ((vs ++ dvs) ++ []) H1 Q E)
  simp only [List.append_nil]
def tAApp (n m : Nat) (ta tb : TA) : TA := fun σ H Q => ta σ H fun vs H1 => tb σ H1 fun zs H2 => vs.length = n ∧ zs.length = m ∧ Q (vs ++ zs) H2
def aAppN (n m : Nat) (fa fb : Env → Option (List Rv × Env)) (δ : Env) : Option (List Rv × Env) := match fa δ with
  | some (rs, δ1) => match fb δ1 with
    | some (ss, δ2) => if rs.length = n ∧ ss.length = m then some (rs ++ ss, δ2) else none
    | none => none
  | none => none
theorem paired_len {α β : Type} {G : α → β → Prop} : ∀ {vs : List α} {rs : List β}, Paired G vs rs → vs.length = rs.length
  | _, _, .nil => rfl
  | _, _, .cons _ t => congrArg (· + 1) (paired_len t)
theorem da_app {n m : Nat} {ta tb : TA} {fa fb : Env → Option (List Rv × Env)} (ha : DA K ta fa) (hb : DA K tb fb) : DA K (tAApp n m ta tb) (aAppN n m fa fb) := by
  intro α σ H F L R δ δ' rr Q D S e q
  unfold aAppN at e
  split at e
  · rename_i rs δ1 e1
    split at e
    · rename_i ss δ2 e2
      split at e
      · rename_i hl
        cases e
        refine ha α σ H F L R δ _ rs _ D S e1 fun vs H' F' L' s D' S' R' => ?_
        refine hb α σ H' F' L' R δ1 _ ss _ D' S' e2 fun zs H2 F2 L2' s2 D2 S2 R2 => ?_
        exact ⟨by rw [paired_len R']; exact hl.1, by rw [paired_len R2]; exact hl.2, q _ H2 F2 L2' (s.trans s2) D2 S2 (Paired.appG (paired_mono (Le.of s2) R') R2)⟩
      · cases e
    · cases e
  · cases e
theorem tCallN_app {n m : Nat} {sp : Sp} {E : XK} {ta tb : TA} : tCallN n m sp (fun vs zs => vs ++ zs) E ta tb = tCall sp [] E (tAApp n m ta tb) := by
  funext σ H Q
  show ta σ H (fun vs H1 => tb σ H1 fun zs H2 => vs.length = n ∧ zs.length = m ∧ sp (vs ++ zs) H2 Q E) = ta σ H (fun vs H1 => tb σ H1 fun zs H2 => vs.length = n ∧ zs.length = m ∧ sp ((vs ++ zs) ++ []) H2 Q E)
  simp only [List.append_nil]
/-- repr -/
def bRepr : List Dv → Option Dv
  | [.lst ds] => if (toPD (.lst ds)).showable = true ∧ (toPD (.lst ds)).depth ≤ 60 ∧ (toPD (.lst ds)).shown.length ≤ 16777216 then some (.str (toPD (.lst ds)).shown) else none
  | _ => none
end
/-! ### defs with keyword-only parameters -/
structure DfnK (P : Program) (w : World) (K : PySem.W.Frag) (mg : Str → Option Value) (base : Heap) (x : Str) (ps : List Str) (n : Nat) (ks : List Str) (dvs : List V) (k : Nat) (sp : Sp) : Prop where
  ex : ∃ f fd, mg x = some (.ref f) ∧ PySem.W.keepIn K (.ref f) = true ∧ FnOk P w K mg base CX0 k f fd ps sp ∧ (∃ ds, Vals dvs ds ∧ Binds K fd ps ds) ∧ KBn K fd ps n ks (fun us ws => us ++ ws) (fun vs zs => vs ++ zs)
structure AtK (K : PySem.W.Frag) (mg : Str → Option Value) (x : Str) (st : Stmt) (ps : List Str) (n : Nat) (ks : List Str) (dvs : List V) : Prop where
  ex : ∃ f fd, mg x = some (.ref f) ∧ Fun K x x st f fd ∧ (∃ ds, Vals dvs ds ∧ Binds K fd ps ds) ∧ KBn K fd ps n ks (fun us ws => us ++ ws) (fun vs zs => vs ++ zs)
section
variable {P : Program} {w : World} {K : PySem.W.Frag} {mg : Str → Option Value} {base : Heap}
theorem dfnK {x : Str} {st : Stmt} {N ps ks : List Str} {n k : Nat} {dvs : List V} {sp : Sp} (D : AtK K mg x st ps n ks dvs) (S : FnScope N ps (defScope st)) (len : ∀ vs H Q E, sp vs H Q E → vs.length = ps.length)
    (body : ∀ (X : Cx) (f : Addr) (cdv : Value) (A : Around) (outer : List PySem.Env) (s : Shared) (H : Hp) (vs : List V) (Q : VK) (E : XK), X = (cxOf CX0 P w K mg base N x (defScope st) f cdv A outer s H E).nox → Room k X.A → sp vs H Q E →
      ∃ t, PSs X (defBody st) t ∧ t { nx := fun _ H' => Q .non H', rt := Q } (start N vs) H) : DfnK P w K mg base x ps n ks dvs (k + 1) sp := by
  obtain ⟨f, fd, hg, F, b, kb⟩ := D.ex
  exact ⟨f, fd, hg, F.kp, F.ok S len fun cdv A outer s H vs Q E hr h => body _ f cdv A outer s H vs Q E rfl hr h, b, kb⟩
theorem kwd_of {D : Addr} : ∀ {ms : List (Str × V)} {us : List Value}, Vals (ms.map (·.2)) us → (∀ q ∈ (ms.map (·.1)).zip us, PySem.W.nsIn K D q.1 = some (some q.2)) → ∀ q ∈ ms, ∃ u, PySem.W.nsIn K D q.1 = some (some u) ∧ RelV q.2 u := by
  intro ms
  induction ms with
  | nil => intro us _ _ q hq; cases hq
  | cons m ms ih =>
    intro us r h q hq
    cases r with
    | cons r t =>
      rename_i u us
      rcases List.mem_cons.mp hq with e | hq
      · subst e; exact ⟨u, h (q.1, u) List.mem_cons_self, r⟩
      · exact ih t (fun p hp => h p (List.mem_cons_of_mem _ hp)) q hq
theorem AtK.mk1 {h : Heap} {x : Str} {st : Stmt} {ps : List Str} {f : Addr} {oc : Value} {od an : Option Addr} {osl : Array (Option Value)} {doc pm cdv ct : Value} {n : Nat} {D : Addr} {y : Str} (X : K.In h) (G : h.Ns mainGlobals mg)
    (nn : PySem.W.nsIn K mainGlobals x = some (some (.ref f))) (l : K.lookup f = some ⟨oc, od, .func (PySem.W.fnOf x x (defArgs st) (defBody st) (defScope st) .none (.ref D) doc pm an cdv ct), osl⟩)
    (c : PySem.W.codeIn K cdv x = true) (k : PySem.W.keepIn K (.ref f) = true) (dk : PySem.W.nsIn K D y = some (some .none)) (hn : n + 1 = ps.length)
    (b0 : ∀ (doc pm : Value) (an : Option Addr) (cdv ct : Value) (us ks : List Value), us.length = n → ks.length = 1 → KwChain D ([y].zip ks) (bindArgs (PySem.W.fnOf x x (defArgs st) (defBody st) (defScope st) .none (.ref D) doc pm an cdv ct) ⟨us, []⟩) (ps.zip (us ++ ks)))
    (b1 : ∀ (doc pm : Value) (an : Option Addr) (cdv ct : Value) (us ws : List Value), us.length = n → ws.length = 1 → bindArgs (PySem.W.fnOf x x (defArgs st) (defBody st) (defScope st) .none (.ref D) doc pm an cdv ct) ⟨us, [y].zip ws⟩ = pure (ps.zip (us ++ ws))) : AtK K mg x st ps n [y] [.non] := by
  refine ⟨_, _, PySem.W.mg_of X G nn, fun_mk l c k, ⟨[.none], .cons rfl .nil, fun s us X hl => ?_⟩, ⟨fun s us ws X h1 h2 => ?_, fun r z => r.append z⟩⟩
  · have hl2 : us.length = n := by rw [List.length_append] at hl; simp at hl; omega
    exact BindsTo.of_looks fun M => KwChain.looks X (fun q hq => by
      have : q = (y, Value.none) := by simpa using hq
      subst this
      exact dk) (b0 doc pm an cdv ct us [.none] hl2 rfl)
  · exact .of_eq (b1 doc pm an cdv ct us ws h1 h2)
end
section
variable {X : Cx} {k n : Nat} {ps ks : List Str} {dvs : List V} {sp : Sp} {x : Str} {p pos : Pos} {e : Expr} {es : List Expr} {kws : List Keyword} {t tk : TA}
theorem pe_callKD (D : DfnK X.prog X.w X.K X.mg X.base x ps n ks dvs k sp) (hr : Room k X.A) (hg : Gl X x) (ha : PA X (e :: es) t) (hdb : (x == ("__debug__" : Str)) = false := by decide)
    (he : starEach (e :: es) X.env = (false, eval e X.env) :: starEach es X.env := by rfl) (hpl : (backTo pos (starEach es X.env)).any (·.1) = false := by rfl) : PE X (.Call (.Name x p) (e :: es) [] pos) (tCall sp [] E0 (tAMore dvs t)) := by
  obtain ⟨f, fd, hm, hk, F, ⟨ds, hv, hb⟩, kb⟩ := D.ex
  have h : PE X (.Call (.Name x p) (e :: es) [] pos) (tCall sp dvs E0 t) := pe_call F hr hg hm hk hb hv pass0 ha hdb he hpl
  rwa [tCall_more] at h
theorem pe_callKN (D : DfnK X.prog X.w X.K X.mg X.base x ps n ks dvs k sp) (hr : Room k X.A) (hg : Gl X x) (ha : PA X (e :: es) t) (hkw : PK X kws tk) (hall : (backToKw pos (keywordEach kws X.env)).all (·.1.isSome) = true := by rfl) (hks : (backToKw pos (keywordEach kws X.env)).filterMap (·.1) = ks := by rfl)
    (hdb : (x == ("__debug__" : Str)) = false := by decide) (he : starEach (e :: es) X.env = (false, eval e X.env) :: starEach es X.env := by rfl)
    (hpl : ((backTo pos (starEach (e :: es) X.env)).any (·.1) || (backToKw pos (keywordEach kws X.env)).any (·.1.isNone)) = false := by rfl) : PE X (.Call (.Name x p) (e :: es) kws pos) (tCall sp [] E0 (tAApp n ks.length t tk)) := by
  obtain ⟨f, fd, hm, hk, F, ⟨ds, hv, hb⟩, kb⟩ := D.ex
  have h : PE X (.Call (.Name x p) (e :: es) kws pos) (tCallN n ks.length sp (fun vs zs => vs ++ zs) E0 t tk) := pe_callN F hr hg hm hk kb pass0 ha hkw hall hks hdb he hpl
  rwa [tCallN_app] at h
end
theorem PS.or {X : Cx} {st : Stmt} {t u : TS} (h : PS X st t) (h' : PS X st u) : PS X st (fun D σ H => t D σ H ∨ u D σ H) :=
  ⟨fun pins s σ H D I q => q.elim (h.run pins s σ H D I) (h'.run pins s σ H D I)⟩
end FD
namespace FD
open PySem PySem.Spec PyProof.Rows L2 FL
section
variable {K : PySem.W.Frag}
def fNeg (fe : Env → Option (Rv × Env)) (δ : Env) : Option (Rv × Env) := match got fe δ with
  | some (.int i, δ') => some (.dv (.int (-i)), δ')
  | _ => none
theorem de_neg {te : TE} {fe : Env → Option (Rv × Env)} (h : DE K te fe) : DE K (tUn (rU fun i => V.int (-i)) te) (fNeg fe) := by
  intro α σ H F L R δ δ' r Q D S e q
  unfold fNeg at e
  split at e
  · rename_i i δ1 e1
    cases e
    refine h.rd D S e1 fun v H' F' L' s D' S' dr => ?_
    rw [dr.int]
    exact ⟨i, rfl, q _ H' F' L' s D' S' (.int _)⟩
  · cases e
/-! a dict's display -/
def DPs (K : PySem.W.Frag) (trs : List (TE × TE)) (fp : Env → Option (List (Key × Dv) × Env)) : Prop :=
  ∀ (α : Nat → Addr) (σ : L2.St) (H F : Hp) (L R : List (Addr × HO)) (δ δ' : Env) (ps : List (Key × Dv)) (Q : List (V × V) → Hp → Prop), Led H F (L ++ R) → RelS K F α σ δ L → fp δ = some (ps, δ') →
    (∀ (kvs : List (Key × V)) H' F' L', Same F F' → Led H' F' (L' ++ R) → RelS K F' α σ δ' L' → DdK K F' kvs ps → Q (kvs.map fun kv => (kV kv.1, kv.2)) H') → tPairs trs σ H Q
def psNil (δ : Env) : Option (List (Key × Dv) × Env) := some ([], δ)
def psCons (fk fv : Env → Option (Rv × Env)) (fp : Env → Option (List (Key × Dv) × Env)) (δ : Env) : Option (List (Key × Dv) × Env) := match fk δ with
  | some (.dv kd, δ1) => match keyOf kd, fv δ1 with
    | some k, some (.dv d, δ2) => match fp δ2 with
      | some (ps, δ3) => some ((k, d) :: ps, δ3)
      | none => none
    | _, _ => none
  | _ => none
theorem dps_nil : DPs K [] psNil := by
  intro α σ H F L R δ δ' ps Q D S e q
  cases e
  exact q [] H F L (Same.refl _) D S .nil
theorem dps_cons {tk tv : TE} {trs : List (TE × TE)} {fk fv : Env → Option (Rv × Env)} {fp : Env → Option (List (Key × Dv) × Env)} (hk : DE K tk fk) (hv : DE K tv fv) (hp : DPs K trs fp) : DPs K ((tk, tv) :: trs) (psCons fk fv fp) := by
  intro α σ H F L R δ δ' ps Q D S e q
  unfold psCons at e
  split at e
  · rename_i kd δ1 e1
    split at e
    · rename_i k d δ2 ek e2
      split at e
      · rename_i ps' δ3 e3
        cases e
        refine hk α σ H F L R δ δ1 _ _ D S e1 fun x H1 F1 L1 s1 D1 S1 r1 => ?_
        refine hv α σ H1 F1 L1 R δ1 δ2 _ _ D1 S1 e2 fun y H2 F2 M2 s2 D2 S2 r2 => ?_
        refine hp α σ H2 F2 M2 R δ2 _ ps' _ D2 S2 e3 fun kvs H3 F3 M3 s3 D3 S3 r3 => ?_
        have ex : x = kV k := Dr.key (K := K) (H := H1) (.inl (show Dd K F1 x kd from r1)) ek
        subst ex
        exact q ((k, y) :: kvs) H3 F3 M3 (s1.trans (s2.trans s3)) D3 S3 (.cons (Dd.mono (Le.of s3) r2) r3)
      · cases e
    · cases e
  · cases e
def oDisp (fp : Env → Option (List (Key × Dv) × Env)) (δ : Env) : Option (Dv × Env) := match fp δ with
  | some (ps, δ') => if ps.length ≤ 15 then some (.dct (mergeD [] ps), δ') else none
  | none => none
theorem do_disp {trs : List (TE × TE)} {fp : Env → Option (List (Key × Dv) × Env)} (hp : DPs K trs fp) : DEO K (tDisp trs) (oDisp fp) := by
  intro α σ H F L R δ δ' d Q D S e q
  unfold oDisp at e
  split at e
  · rename_i ps δ1 e1
    split at e
    · rename_i hl
      cases e
      intro p np
      refine hp α σ _ F L ((p, .dK []) :: R) δ _ ps _ (Led.unmid (D.new np)) S e1 fun kvs H' F' L' s D' S' r => ?_
      have D2 := Led.mid D'
      refine ⟨Led.head D2, kvs, rfl, by rw [r.len]; exact hl, q p _ _ F' L' s (Led.wr D2) S' (.dct (r.merge .nil))⟩
    · cases e
  · cases e
/-! a list the other way round -/
def oRev (fe : Env → Option (Rv × Env)) (δ : Env) : Option (Dv × Env) := match got fe δ with
  | some (.lst ds, δ') => some (.lst ds.reverse, δ')
  | _ => none
theorem do_rev {te : TE} {fe : Env → Option (Rv × Env)} (h : DE K te fe) : DEO K (tRevL K te) (oRev fe) := by
  intro α σ H F L R δ δ' d Q D S e q
  unfold oRev at e
  split at e
  · rename_i ds δ1 e1
    cases e
    refine h.rd D S e1 fun v H' F' L' s D' S' dr => ?_
    obtain ⟨a, xs, rfl, h1, d1⟩ := dr.lst D'
    exact ⟨a, xs, rfl, SqL.of h1, fun p np => q p _ _ F' L' s (D'.new np) S' (.lst d1.reverse)⟩
  · cases e
/-! len(set(..)) of different ints -/
def fLenSet (fe : Env → Option (Rv × Env)) (δ : Env) : Option (Rv × Env) := match got fe δ with
  | some (.lst ds, δ') => match intsOf ds with
    | some ns => if ns.Nodup ∧ ns.length ≤ 4000 then some (.dv (.int (ns.length : Nat)), δ') else none
    | none => none
  | _ => none
theorem de_lenSet {te : TE} {fe : Env → Option (Rv × Env)} (h : DE K te fe) : DE K (RZ.tLenSetI K te) (fLenSet fe) := by
  intro α σ H F L R δ δ' r Q D S e q
  unfold fLenSet at e
  split at e
  · rename_i ds δ1 e1
    split at e
    · rename_i ns en
      split at e
      · rename_i hn
        cases e
        refine h.rd D S e1 fun v H' F' L' s D' S' dr => ?_
        obtain ⟨a, xs, rfl, h1, d1⟩ := dr.lst D'
        rw [intsOf_eq en] at d1
        rw [d1.ints] at h1
        exact ⟨a, ns, rfl, SqL.of h1, hn.1, hn.2, q _ H' F' L' s D' S' (.int _)⟩
      · cases e
    · cases e
  · cases e
/-! in, of flat items -/
def inBF (a b : Dv) : Option Bool := match b with
  | .lst ds => if flatD a && ds.all flatD then some (ds.any fun d => eqF d a) else none
  | .tup ds => if flatD a && ds.all flatD then some (ds.any fun d => eqF d a) else none
  | _ => none
def oInF (a b : Dv) : Option Dv := match inBF a b with
  | some c => some (.bl c)
  | none => none
def oNotInF (a b : Dv) : Option Dv := match inBF a b with
  | some c => some (.bl (!c))
  | none => none
theorem inF_core {H F : Hp} {L : List (Addr × HO)} {x y : V} {a b : Dv} {c : Bool} (D : Led H F L) (hx : Dr K H F x a) (hy : Dr K H F y b) (e : inBF a b = some c) :
    ∃ p xs, y = .ref p ∧ (SqL K H p xs ∨ SqT K H p xs) ∧ flatV x = true ∧ xs.all flatV = true ∧ inV x xs = c := by
  unfold inBF at e
  split at e
  · split at e
    · rename_i hf
      cases e
      rw [Bool.and_eq_true] at hf
      obtain ⟨p, xs, rfl, h1, d1⟩ := hy.lst D
      have hd := hx.flat hf.1
      exact ⟨p, xs, rfl, .inl (SqL.of h1), hd.flat hf.1, d1.flat hf.2, d1.anyF hd hf.1 hf.2⟩
    · cases e
  · split at e
    · rename_i hf
      cases e
      rw [Bool.and_eq_true] at hf
      obtain ⟨p, xs, rfl, h1, d1⟩ := hy.tup D
      have hd := hx.flat hf.1
      exact ⟨p, xs, rfl, .inr (SqT.of h1), hd.flat hf.1, d1.flat hf.2, d1.anyF hd hf.1 hf.2⟩
    · cases e
  · cases e
theorem r2_inF : R2D K (rIn K false) oInF := by
  intro H F L x y a b d Q D hx hy e q
  unfold oInF at e
  split at e
  · rename_i c e1
    cases e
    obtain ⟨p, xs, rfl, h1, h2, h3, rfl⟩ := inF_core D hx hy e1
    exact ⟨p, xs, rfl, h1, h2, h3, q _ _ _ (Same.refl _) D (.bl _)⟩
  · cases e
theorem r2_notInF : R2D K (rIn K true) oNotInF := by
  intro H F L x y a b d Q D hx hy e q
  unfold oNotInF at e
  split at e
  · rename_i c e1
    cases e
    obtain ⟨p, xs, rfl, h1, h2, h3, rfl⟩ := inF_core D hx hy e1
    exact ⟨p, xs, rfl, h1, h2, h3, q _ _ _ (Same.refl _) D (.bl _)⟩
  · cases e
theorem ds_lcOr {t : TE} {i : Nat} {fs : Fs} (h : DS K (tAsg (fun σ H Q => tLockE t σ H Q ∨ t σ H Q) (gName i)) fs) : DS K (fun D σ H => tLock (tAsg t (gName i)) D σ H ∨ tAsg t (gName i) D σ H) fs := h
/-! ### repr -/
section
variable {X : Cx} {pins : List (Addr × Obj)} {σ : L2.St} {H : Hp} {s : Shared}
mutual
/-- no script, no dict with tuples for keys in it -/
def plainD : Dv → Bool
  | .lst xs => plainA xs
  | .tup xs => plainA xs
  | .dct kvs => plainK kvs
  | .dcT _ => false
  | .scr _ => false
  | _ => true
def plainA : List Dv → Bool
  | [] => true
  | x :: xs => plainD x && plainA xs
def plainK : List (Key × Dv) → Bool
  | [] => true
  | (_, v) :: r => plainD v && plainK r
end
mutual
theorem Dd.reads (I : L2.Inv X pins σ H s) : ∀ (d : Dv) (v : V) (u : Value), Dd X.K H v d → plainD d = true → L2.RelV v u → ∃ as, Reads s.heap u (toPD d) as ∧ ∀ a ∈ as, (H a).isSome = true
  | .non, _, _, h, _, r => by
    cases h; cases r; rw [toPD]
    exact ⟨[], .none, fun _ z => nomatch z⟩
  | .bl b, _, _, h, _, r => by
    cases h; cases r; rw [toPD]
    exact ⟨[], .bool b, fun _ z => nomatch z⟩
  | .int i, _, _, h, _, r => by
    cases h; obtain ⟨t, rfl⟩ := r; rw [toPD]
    exact ⟨[], .int i t, fun _ z => nomatch z⟩
  | .str x, _, _, h, _, r => by
    cases h; obtain ⟨t, rfl⟩ := r; rw [toPD]
    exact ⟨[], .str x t, fun _ z => nomatch z⟩
  | .lst ds, _, _, h, p, r => by
    cases h with
    | @lst a xs _ h hs =>
      cases r
      obtain ⟨its, rv, ⟨o, n, ho, hc, _, hd⟩, _⟩ := I.list (SqL.of h)
      obtain ⟨as, hr, hm⟩ := Dd.readsAll I ds _ its hs (by unfold plainD at p; exact p) rv
      rw [toPD]
      refine ⟨_, .list ho hc hd hr, fun b hb => ?_⟩
      rcases List.mem_cons.mp hb with e | hb
      · rw [e, h]; rfl
      · exact hm b hb
  | .tup ds, _, _, h, p, r => by
    cases h with
    | @tup a xs _ h hs =>
      cases r
      obtain ⟨its, rv, ⟨o, ho, hc, n, hd⟩, _⟩ := I.tuple (SqT.of h)
      obtain ⟨as, hr, hm⟩ := Dd.readsAll I ds _ its hs (by unfold plainD at p; exact p) rv
      rw [toPD]
      exact ⟨_, .tuple ho hc hd hr, hm⟩
  | .dct ds, _, _, h, p, r => by
    cases h with
    | @dct a kvs _ h hs =>
      cases r
      obtain ⟨_, _, vs, kv, o, es, ep, ho, hx, hd, _, hp, _⟩ := Rd.ok h I.hok
      obtain ⟨as, bs, h1, h2, m1, m2⟩ := Dd.readsKv I ds kvs vs es.toList hs (by unfold plainD at p; exact p) kv hp
      rw [toPD]
      refine ⟨_, .dict ho hx.1 hd h1 h2, fun b hb => ?_⟩
      rcases List.mem_append.mp hb with hb | hb
      · rcases List.mem_cons.mp hb with e | hb
        · rw [e]
          rcases h with h | ⟨_, h⟩ <;> rw [h] <;> rfl
        · exact m1 b hb
      · exact m2 b hb
  | .dcT _, _, _, _, p, _ => by unfold plainD at p; cases p
  | .scr _, _, _, _, p, _ => by unfold plainD at p; cases p
theorem Dd.readsAll (I : L2.Inv X pins σ H s) : ∀ (ds : List Dv) (vs : List V) (us : List Value), DdA X.K H vs ds → plainA ds = true → Vals vs us → ∃ as, ReadsAll s.heap us (toPDs ds) as ∧ ∀ a ∈ as, (H a).isSome = true
  | [], _, _, h, _, r => by
    cases h; cases r; rw [toPDs]
    exact ⟨[], .nil, fun _ z => nomatch z⟩
  | d :: ds, _, _, h, p, r => by
    cases h with
    | cons h t =>
      cases r with
      | cons r1 r2 =>
        unfold plainA at p
        rw [Bool.and_eq_true] at p
        obtain ⟨as, q1, m1⟩ := Dd.reads I d _ _ h p.1 r1
        obtain ⟨bs, q2, m2⟩ := Dd.readsAll I ds _ _ t p.2 r2
        rw [toPDs]
        exact ⟨_, .cons q1 q2, fun b hb => (List.mem_append.mp hb).elim (m1 b) (m2 b)⟩
theorem Dd.readsKv (I : L2.Inv X pins σ H s) : ∀ (ds : List (Key × Dv)) (kvs : List (Key × V)) (vs : List (Key × Value)) (es : List DictEntry), DdK X.K H kvs ds → plainK ds = true → KV kvs vs → Pairs (mixKind X.prog X.w) es vs →
    ∃ as bs, ReadsAll s.heap (es.map (·.key)) ((toPDk ds).map (·.1)) as ∧ ReadsAll s.heap (es.map (·.val)) ((toPDk ds).map (·.2)) bs ∧ (∀ a ∈ as, (H a).isSome = true) ∧ ∀ a ∈ bs, (H a).isSome = true
  | [], _, _, _, h, _, r, p => by
    cases h; cases r; cases p; rw [toPDk]
    exact ⟨[], [], .nil, .nil, by simp, by simp⟩
  | (k, d) :: ds, _, _, _, h, pl, r, p => by
    cases h with
    | @cons _ v kvs _ _ h t =>
      cases r with
      | cons r1 r2 =>
        cases p with
        | cons p1 p2 p3 =>
          obtain ⟨e1, rv⟩ := r1
          unfold plainK at pl
          rw [Bool.and_eq_true] at pl
          obtain ⟨as, bs, q1, q2, m1, m2⟩ := Dd.readsKv I ds _ _ _ t pl.2 r2 p3
          obtain ⟨cs, q3, m3⟩ := Dd.reads I d v _ h pl.1 rv
          rename_i _ _ en _
          have q4 : Reads s.heap en.key (kD k) [] := by
            rw [← e1] at p1
            rcases keyIs_shape p1 with ⟨i, t, e, f⟩ | ⟨x, t, e, f⟩
            · have e : k = Sum.inl i := e
              rw [e, f]; exact .int i t
            · have e : k = Sum.inr x := e
              rw [e, f]; exact .str x t
          rw [toPDk]
          refine ⟨[] ++ as, cs ++ bs, .cons q4 q1, .cons (by show Reads s.heap en.val (toPD d) cs; rw [p2]; exact q3) q2, fun b hb => m1 b hb, fun b hb => (List.mem_append.mp hb).elim (m3 b) (m2 b)⟩
end
end
def shOk (d : Dv) : Bool := plainD d && (toPD d).showable && decide ((toPD d).depth ≤ 60) && decide ((toPD d).shown.length ≤ 16777216)
def rReprX (K : PySem.W.Frag) : List V → Hp → VK → Prop := fun xs H Q => ∃ x d, xs = [x] ∧ (∃ a, x = .ref a) ∧ Dd K H x d ∧ shOk d = true ∧ Q (.str (toPD d).shown) H
theorem call_reprX {X : Cx} (G : Grd X.A X.base) (hu : X.A.units + 64 < cLine) : CallR X (.builtin "repr") (rReprX X.K) := by
  intro pins s σ H xs us Q I r h
  obtain ⟨_, d, rfl, ⟨a, rfl⟩, hd, ho, q⟩ := h
  unfold shOk at ho
  simp only [Bool.and_eq_true, decide_eq_true_eq] at ho
  obtain ⟨⟨⟨hp, hs⟩, hdp⟩, hsz⟩ := ho
  obtain ⟨u, rfl, ru⟩ := vals1 r
  obtain ⟨as, rd, hm⟩ := Dd.reads I d _ _ hd hp ru
  cases ru
  obtain ⟨o, ho⟩ := G.m
  have hn : sysModules ∉ as := fun z => by
    have e := (I.bs _ _ ho).2
    have e2 := hm _ z
    rw [e] at e2
    cases e2
  exact repr_of_reads' rd hs (fun _ => hn) G.g (by omega) (fun _ _ e => e) (fun h' u tk hk => ⟨.str (toPD d).shown, H, I.kept hk, ⟨u, rfl⟩, q⟩) (by rw [sizeLine_eq]; exact hsz)
def bReprX : List Dv → Option Dv
  | [d] => match d with
    | .lst _ | .tup _ | .dct _ => if shOk d then some (.str (toPD d).shown) else none
    | .bl b => some (.str (if b then "True" else "False"))
    | .int i => if i.natAbs.log2 < 1920 then some (.str (Str.ofString (toString i))) else none
    | _ => none
  | _ => none
def rReprI : List V → Hp → VK → Prop := fun xs H Q => ∃ i : Int, xs = [.int i] ∧ i.natAbs.log2 < 1920 ∧ Q (.str (Str.ofString (toString i))) H
theorem call_reprI {X : Cx} : CallR X (.builtin "repr") rReprI := by
  intro pins s σ H xs us Q I r h
  obtain ⟨i, rfl, hi, q⟩ := h
  obtain ⟨u, rfl, t, rfl⟩ := vals1 r
  exact PySem.P.repr_of_int hi ⟨.str _, H, I.tok _, ⟨_, rfl⟩, q⟩
def rReprZ (K : PySem.W.Frag) : List V → Hp → VK → Prop := fun xs H Q => rReprX K xs H Q ∨ rReprB xs H Q ∨ rReprI xs H Q
theorem call_reprZ {X : Cx} (G : Grd X.A X.base) (hu : X.A.units + 64 < cLine) : CallR X (.builtin "repr") (rReprZ X.K) := (call_reprX G hu).or (call_reprB.or call_reprI)
theorem Dr.ref {H F : Hp} {L : List (Addr × HO)} {v : V} {d : Dv} (D : Led H F L) (h : Dr K H F v d) (hd : match d with | .lst _ | .tup _ | .dct _ => True | _ => False) : ∃ a, v = .ref a := by
  rcases h with h | ⟨a, o, rfl, -, -⟩
  · cases h <;> first | exact ⟨_, rfl⟩ | cases hd
  · exact ⟨a, rfl⟩
theorem cb_repr : CRD K (rReprZ K) bReprX := by
  intro H F L vs ds d Q D h e q
  unfold bReprX at e
  split at e
  · rename_i d'
    split at e
    · split at e
      · rename_i hs
        cases e
        obtain ⟨v, rfl, dr⟩ := pr1 h
        exact .inl ⟨v, _, rfl, dr.ref D True.intro, dr.dd D, hs, q _ _ _ (Same.refl _) D (.str _)⟩
      · cases e
    · split at e
      · rename_i hs
        cases e
        obtain ⟨v, rfl, dr⟩ := pr1 h
        exact .inl ⟨v, _, rfl, dr.ref D True.intro, dr.dd D, hs, q _ _ _ (Same.refl _) D (.str _)⟩
      · cases e
    · split at e
      · rename_i hs
        cases e
        obtain ⟨v, rfl, dr⟩ := pr1 h
        exact .inl ⟨v, _, rfl, dr.ref D True.intro, dr.dd D, hs, q _ _ _ (Same.refl _) D (.str _)⟩
      · cases e
    · cases e
      obtain ⟨v, rfl, dr⟩ := pr1 h
      rw [dr.bl]
      exact .inr (.inl ⟨_, rfl, q _ _ _ (Same.refl _) D (.str _)⟩)
    · split at e
      · rename_i hi
        cases e
        obtain ⟨v, rfl, dr⟩ := pr1 h
        rw [dr.int]
        exact .inr (.inr ⟨_, rfl, hi, q _ _ _ (Same.refl _) D (.str _)⟩)
      · cases e
    · cases e
  · cases e
/-! ### the law's own def -/
def sp_lawD (K : PySem.W.Frag) : Sp := fun vs H Q _ => ∃ (a : Addr) (ns : List Int), vs = [.ref a] ∧ SqL K H a (ns.map V.int) ∧ ns.length ≤ 63 ∧ ∀ H', Q (.bl true) H'
theorem law_sp {sem : List Dv → Option Dv} (h : ∀ ns : List Int, ns.length ≤ 63 → sem [.scr ns] = some (.bl true)) {vs : List V} {H : Hp} {Q : VK} {E : XK} (hs : sp_lawD K vs H Q E) : spP K 1 sem vs H Q E := by
  obtain ⟨a, ns, rfl, hq, hl, q⟩ := hs
  refine ⟨H, [], [.scr ns], .bl true, rfl, .cons (.scr hq) .nil, Led.same0 H, h ns hl, fun v H' F' s D r => ?_⟩
  cases r
  exact q H'
end
end FD
namespace FD
open PySem PySem.Spec PyProof.Rows L2 FL
section
variable {K : PySem.W.Frag}
def sBreak (δ : Env) : Option (Ctl × Env) := some (.bk, δ)
def sCont (δ : Env) : Option (Ctl × Env) := some (.ct, δ)
theorem ds_break : DS K tBreak sBreak := by
  intro α σ H F L R δ δ' c D hD S e q
  cases e
  exact q σ H F L (Same.refl _) hD S
theorem ds_cont : DS K tCont sCont := by
  intro α σ H F L R δ δ' c D hD S e q
  cases e
  exact q σ H F L (Same.refl _) hD S
/-! ### names given new objects side by side -/
inductive Ov where
  | dv (d : Dv) | ow (d : Dv)
inductive OvR (K : PySem.W.Frag) (F : Hp) : List V → List Ov → List (Addr × HO) → Prop
  | nil : OvR K F [] [] []
  | dv {v : V} {d : Dv} {vs : List V} {os : List Ov} {E : List (Addr × HO)} (h : Dd K F v d) (t : OvR K F vs os E) : OvR K F (v :: vs) (.dv d :: os) E
  | ow {a : Addr} {o : HO} {d : Dv} {vs : List V} {os : List Ov} {E : List (Addr × HO)} (h : DO K F o d) (t : OvR K F vs os E) : OvR K F (.ref a :: vs) (.ow d :: os) ((a, o) :: E)
def DOA (K : PySem.W.Frag) (ta : TA) (fa : Env → Option (List Ov × Env)) : Prop :=
  ∀ (α : Nat → Addr) (σ : L2.St) (H F : Hp) (L R : List (Addr × HO)) (δ δ' : Env) (os : List Ov) (Q : List V → Hp → Prop), Led H F (L ++ R) → RelS K F α σ δ L → fa δ = some (os, δ') →
    (∀ vs H' F' L' E, Same F F' → Led H' F' (E ++ (L' ++ R)) → RelS K F' α σ δ' L' → OvR K F' vs os E → Q vs H') → ta σ H Q
def oaNil (δ : Env) : Option (List Ov × Env) := some ([], δ)
def oaConsE (fe : Env → Option (Rv × Env)) (fa : Env → Option (List Ov × Env)) (δ : Env) : Option (List Ov × Env) := match fe δ with
  | some (.dv d, δ1) => match fa δ1 with
    | some (os, δ2) => some (.dv d :: os, δ2)
    | none => none
  | _ => none
def oaConsO (fo : Env → Option (Dv × Env)) (fa : Env → Option (List Ov × Env)) (δ : Env) : Option (List Ov × Env) := match fo δ with
  | some (d, δ1) => match fa δ1 with
    | some (os, δ2) => some (.ow d :: os, δ2)
    | none => none
  | none => none
theorem do_nil : DOA K tNil oaNil := by
  intro α σ H F L R δ δ' os Q D S e q
  cases e
  exact q [] H F L [] (Same.refl _) D S .nil
theorem do_consE {te : TE} {ta : TA} {fe : Env → Option (Rv × Env)} {fa : Env → Option (List Ov × Env)} (he : DE K te fe) (ha : DOA K ta fa) : DOA K (tCons te ta) (oaConsE fe fa) := by
  intro α σ H F L R δ δ' os Q D S e q
  unfold oaConsE at e
  split at e
  · rename_i d δ1 e1
    split at e
    · rename_i os' δ2 e2
      cases e
      refine he α σ H F L R δ δ1 _ _ D S e1 fun v H1 F1 L1 s1 D1 S1 r1 => ?_
      refine ha α σ H1 F1 L1 R δ1 _ os' _ D1 S1 e2 fun vs H2 F2 M2 E2 s2 D2 S2 r2 => ?_
      exact q _ H2 F2 M2 E2 (s1.trans s2) D2 S2 (.dv (Dd.mono (Le.of s2) r1) r2)
    · cases e
  · cases e
theorem do_consO {te : TE} {ta : TA} {fo : Env → Option (Dv × Env)} {fa : Env → Option (List Ov × Env)} (he : DEO K te fo) (ha : DOA K ta fa) : DOA K (tCons te ta) (oaConsO fo fa) := by
  intro α σ H F L R δ δ' os Q D S e q
  unfold oaConsO at e
  split at e
  · rename_i d δ1 e1
    split at e
    · rename_i os' δ2 e2
      cases e
      refine he α σ H F L R δ δ1 _ _ D S e1 fun a o H1 F1 L1 s1 D1 S1 h1 => ?_
      refine ha α σ H1 F1 L1 ((a, o) :: R) δ1 _ os' _ (Led.unmid D1) S1 e2 fun vs H2 F2 M2 E2 s2 D2 S2 r2 => ?_
      refine q _ H2 F2 M2 ((a, o) :: E2) (s1.trans s2) ?_ S2 (.ow (h1.mono (Le.of s2)) r2)
      rw [← List.append_assoc] at D2
      have D3 := Led.mid D2
      rw [List.append_assoc] at D3
      exact D3
    · cases e
  · cases e
def setV (σ : L2.St) : List Nat → List V → L2.St
  | i :: is, v :: vs => setV (σ.set i (some v)) is vs
  | _, _ => σ
def setOv (δ : Env) : List Nat → List Ov → Option Env
  | i :: is, .dv d :: os => setOv (δ.set i (.sh d)) is os
  | i :: is, .ow d :: os => if i < δ.length then setOv (δ.set i (.ow none d)) is os else none
  | [], [] => some δ
  | _, _ => none
theorem put_ov {α : Nat → Addr} {H F : Hp} {R : List (Addr × HO)} : ∀ {vs : List V} {os : List Ov} {E : List (Addr × HO)} {is : List Nat} {σ : L2.St} {δ δ' : Env} {L : List (Addr × HO)}, OvR K F vs os E → Led H F (E ++ (L ++ R)) → RelS K F α σ δ L → setOv δ is os = some δ' →
    ∃ L', Led H F (L' ++ R) ∧ RelS K F α (setV σ is vs) δ' L'
  | _, _, _, is, σ, δ, δ', L, .nil, D, S, e => by
    cases is with
    | nil => cases e; exact ⟨L, D, S⟩
    | cons i is => cases e
  | _, _, _, is, σ, δ, δ', L, .dv h t, D, S, e => by
    cases is with
    | nil => cases e
    | cons i is =>
      obtain ⟨L1, s1, S1⟩ := S.set_sh (i := i) h
      refine put_ov (is := is) t ?_ S1 e
      exact FL.Led.sub D ((List.Sublist.refl _).append (s1.append (List.Sublist.refl _)))
  | _, _, _, is, σ, δ, δ', L, @OvR.ow _ _ a o d vs os E h t, D, S, e => by
    cases is with
    | nil => cases e
    | cons i is =>
      unfold setOv at e
      split at e
      · rename_i hi
        obtain ⟨L1, L2', s1, p, S1⟩ := S.set_ow (a := a) hi h
        refine put_ov (is := is) t ?_ S1 e
        have D2 : Led H F (E ++ (((a, o) :: L1) ++ R)) := by
          have D1 : Led H F ((a, o) :: (E ++ (L1 ++ R))) := FL.Led.sub D (List.Sublist.cons₂ _ ((List.Sublist.refl _).append (s1.append (List.Sublist.refl _))))
          exact Led.unmid D1
        exact FL.Led.perm D2 ((List.Perm.refl _).append (p.append (List.Perm.refl _)))
      · cases e
def sParO (i j : Nat) (fa : Env → Option (List Ov × Env)) (δ : Env) : Option (Ctl × Env) := match fa δ with
  | some (os, δ1) => if os.length = 2 then (match setOv δ1 [i, j] os with
    | some δ2 => some (.nx, δ2)
    | none => none) else none
  | none => none
def sPar3O (i j k : Nat) (fa : Env → Option (List Ov × Env)) (δ : Env) : Option (Ctl × Env) := match fa δ with
  | some (os, δ1) => if os.length = 3 then (match setOv δ1 [i, j, k] os with
    | some δ2 => some (.nx, δ2)
    | none => none) else none
  | none => none
theorem OvR.len {F : Hp} : ∀ {vs : List V} {os : List Ov} {E : List (Addr × HO)}, OvR K F vs os E → vs.length = os.length
  | _, _, _, .nil => rfl
  | _, _, _, .dv _ t => congrArg (· + 1) (OvR.len t)
  | _, _, _, .ow _ t => congrArg (· + 1) (OvR.len t)
theorem ds_parO {i j : Nat} {ta : TA} {fa : Env → Option (List Ov × Env)} (ha : DOA K ta fa) : DS K (tPar i j ta) (sParO i j fa) := by
  intro α σ H F L R δ δ' c D hD S e q
  unfold sParO at e
  split at e
  · rename_i os δ1 e1
    split at e
    · rename_i hl
      split at e
      · rename_i δ2 e2
        cases e
        refine ha α σ H F L R δ δ1 os _ hD S e1 fun vs H' F' L' E s D' S' r => ?_
        obtain ⟨L2', D2, S2⟩ := put_ov r D' S' e2
        have hv := r.len
        rw [hl] at hv
        match vs, hv with
        | [v, w], _ => exact ⟨v, w, rfl, q _ H' F' L2' s D2 S2⟩
      · cases e
    · cases e
  · cases e
theorem ds_par3O {i j k : Nat} {ta : TA} {fa : Env → Option (List Ov × Env)} (ha : DOA K ta fa) : DS K (tPar3 i j k ta) (sPar3O i j k fa) := by
  intro α σ H F L R δ δ' c D hD S e q
  unfold sPar3O at e
  split at e
  · rename_i os δ1 e1
    split at e
    · rename_i hl
      split at e
      · rename_i δ2 e2
        cases e
        refine ha α σ H F L R δ δ1 os _ hD S e1 fun vs H' F' L' E s D' S' r => ?_
        obtain ⟨L2', D2, S2⟩ := put_ov r D' S' e2
        have hv := r.len
        rw [hl] at hv
        match vs, hv with
        | [u, v, w], _ => exact ⟨u, v, w, rfl, q _ H' F' L2' s D2 S2⟩
      · cases e
    · cases e
  · cases e
/-! ### a value's truth -/
def tru : Dv → Option Bool
  | .non => some false
  | .bl b => some b
  | .int i => some (i != 0)
  | .str z => if z.length ≤ 1000000 then some ((z.length : Int) != 0) else none
  | .lst ds => some (!ds.isEmpty)
  | .tup ds => some (!ds.isEmpty)
  | _ => none
def tstTru (fe : Env → Option (Rv × Env)) (δ : Env) : Option (Bool × Env) := match got fe δ with
  | some (d, δ1) => match tru d with
    | some b => some (b, δ1)
    | none => none
  | none => none
theorem isEmpty_dda {F : Hp} {vs : List V} {ds : List Dv} (h : DdA K F vs ds) : (!ds.isEmpty) = !vs.isEmpty := by cases h <;> rfl
theorem dt_tru {te : TE} {fe : Env → Option (Rv × Env)} (h : DE K te fe) : DT K (fun σ H Q => te σ H fun x H' => ∃ k, TruV K x H' k ∧ Q k H') (tstTru fe) := by
  intro α σ H F L R δ δ' b Q D S e q
  unfold tstTru at e
  split at e
  · rename_i d δ1 e1
    split at e
    · rename_i b' e2
      cases e
      refine h.rd D S e1 fun v H' F' L' s D' S' dr => ⟨b, ?_, q H' F' L' s D' S'⟩
      unfold tru at e2
      split at e2
      · cases e2; rw [dr.non]; rfl
      · cases e2; rw [dr.bl]; rfl
      · cases e2; rw [dr.int]; rfl
      · split at e2
        · rename_i hl; cases e2; rw [dr.str]; exact ⟨le_line hl, rfl⟩
        · cases e2
      · cases e2
        obtain ⟨a, xs, rfl, h1, d1⟩ := dr.lst D'
        exact .inl ⟨xs, SqL.of h1, isEmpty_dda d1⟩
      · cases e2
        obtain ⟨a, xs, rfl, h1, d1⟩ := dr.tup D'
        exact .inr (.inl ⟨xs, SqT.of h1, isEmpty_dda d1⟩)
      · cases e2
    · cases e
  · cases e
end
end FD
namespace FD
open PySem PySem.Spec PyProof.Rows L2 FL
/-! ### dicts compared: the values plain data -/
def dEqB (ds es : List (Key × Dv)) : Bool := decide (ds.length = es.length) && ds.all fun p => match lookK es p.1 with
  | some d => PyData.eqv (toPD p.2) (toPD d)
  | none => false
def shpK (ds : List (Key × Dv)) : Bool := ds.all fun p => shp p.2
def rDEq (K : PySem.W.Frag) (neg : Bool) : R2 := fun x y H Q => ∃ ds es, Dd K H x (.dct ds) ∧ Dd K H y (.dct es) ∧ shpK ds = true ∧ shpK es = true ∧ Q (.bl (xor neg (dEqB ds es))) H
section
variable {X : Cx} {pins : List (Addr × Obj)} {σ : L2.St} {H : Hp} {s : Shared}
theorem Dd.rdsP (I : L2.Inv X pins σ H s) {d : Dv} {v : V} {u : Value} (h : Dd X.K H v d) (c : shp d = true) (r : RelV v u) : ∃ as, Reads s.heap u (toPD d) as := Dp.reads I _ _ _ (h.dp (SeqAt.canLay_of_shaped c)) r
theorem kv_val : ∀ {kvs : List (Key × V)} {vs : List (Key × Value)}, KV kvs vs → ∀ (k : Key) {v : V}, valV kvs k = some v → ∃ u, valueAt vs k = some u ∧ RelV v u := fun r k v e => by
  have := r.val k
  rw [e] at this
  exact RelO.some_of this
theorem kv_none {kvs : List (Key × V)} {vs : List (Key × Value)} (r : KV kvs vs) {k : Key} (e : valV kvs k = none) : valueAt vs k = none := by
  have h := r.val k
  rw [e] at h
  cases q : valueAt vs k with
  | none => rfl
  | some u => rw [q] at h; exact h.elim
theorem lookK_mem {k : Key} {d : Dv} : ∀ {ds : List (Key × Dv)}, lookK ds k = some d → (k, d) ∈ ds
  | (k', d') :: ds, e => by
    rw [lookK_cons] at e
    by_cases q : k' = k
    · rw [if_pos q] at e; cases e; subst q; exact List.mem_cons_self
    · rw [if_neg q] at e; exact List.mem_cons_of_mem _ (lookK_mem e)
theorem hits_of (I : L2.Inv X pins σ H s) {A : Around} (hu : A.in1.units + 64 < cLine) {es : List (Key × Dv)} {le : List (Key × V)} {vb : List (Key × Value)} (he : DdK X.K H le es) (rb : KV le vb) (ce : shpK es = true) :
    ∀ {ds : List (Key × Dv)} {kd : List (Key × V)} {va : List (Key × Value)}, DdK X.K H kd ds → KV kd va → shpK ds = true → PySem.W.KeqHits A.in1 s vb va (ds.all fun p => match lookK es p.1 with | some d => PyData.eqv (toPD p.2) (toPD d) | none => false)
  | [], _, _, h, r, _ => by cases h; cases r; exact .nil
  | (k, d) :: ds, _, _, h, r, c => by
    cases h with
    | @cons _ v kd _ _ hd ht =>
      cases r with
      | @cons _ q _ va r1 r2 =>
        obtain ⟨key, u⟩ := q
        obtain ⟨e1, rv⟩ := r1
        have e1 : k = key := e1
        subst e1
        have c : (shp d && shpK ds) = true := c
        rw [Bool.and_eq_true] at c
        rw [List.all_cons]
        rcases he.look (k := k) with ⟨n1, n2⟩ | ⟨d', v', g1, g2, g3⟩
        · simp only [n1, Bool.false_and]
          exact .miss (kv_none rb n2)
        · simp only [g1]
          obtain ⟨u', hu', ru'⟩ := kv_val rb k g2
          have cd' : shp d' = true := List.all_eq_true.mp ce _ (lookK_mem g1)
          obtain ⟨as, q1⟩ := Dd.rdsP I hd c.1 rv
          obtain ⟨bs, q2⟩ := Dd.rdsP I g3 cd' ru'
          exact .hit hu' (PySem.W.keq_at q1 q2 c.1 cd' hu) (hits_of I hu he rb ce ht r2 c.2)
theorem op_dEq (hu : X.A.units + 70 < cLine) : OpR X (compareOp .Eq) (rDEq X.K false) := by
  intro pins s σ H x y v u Q I rx ry h
  obtain ⟨ds, es, hx, hy, cx, cy, q⟩ := h
  cases hx with
  | dct h1 d1 =>
    cases hy with
    | dct h2 d2 =>
      cases (show v = Value.ref _ from rx)
      cases (show u = Value.ref _ from ry)
      obtain ⟨_, ya, va, ra, da⟩ := dk_rd I.hok h1
      obtain ⟨_, yb, vb, rb, db⟩ := dk_rd I.hok h2
      have hl : (va.length == vb.length) = decide (ds.length = es.length) := by
        rw [show va.length = ds.length from by rw [← d1.len]; exact (Paired.length ra).symm, show vb.length = es.length from by rw [← d2.len]; exact (Paired.length rb).symm]
        by_cases e : ds.length = es.length <;> simp [e]
      exact PySem.W.keq_eq (knd := mixKind X.prog X.w) ya yb da db (by omega) (fun _ => hits_of I (A := X.A) (by show X.A.units + 1 + 64 < cLine; omega) d2 rb cy d1 ra cx) (fin_bl I q (by rw [hl, Bool.false_xor]; rfl))
theorem op_dNe (hu : X.A.units + 70 < cLine) : OpR X (compareOp .NotEq) (rDEq X.K true) := by
  intro pins s σ H x y v u Q I rx ry h
  obtain ⟨ds, es, hx, hy, cx, cy, q⟩ := h
  cases hx with
  | dct h1 d1 =>
    cases hy with
    | dct h2 d2 =>
      cases (show v = Value.ref _ from rx)
      cases (show u = Value.ref _ from ry)
      obtain ⟨_, ya, va, ra, da⟩ := dk_rd I.hok h1
      obtain ⟨_, yb, vb, rb, db⟩ := dk_rd I.hok h2
      have hl : (va.length == vb.length) = decide (ds.length = es.length) := by
        rw [show va.length = ds.length from by rw [← d1.len]; exact (Paired.length ra).symm, show vb.length = es.length from by rw [← d2.len]; exact (Paired.length rb).symm]
        by_cases e : ds.length = es.length <;> simp [e]
      exact PySem.W.keq_ne (knd := mixKind X.prog X.w) ya yb da db (by omega) (fun _ => hits_of I (A := X.A) (by show X.A.units + 1 + 64 < cLine; omega) d2 rb cy d1 ra cx) (fin_bl I q (by rw [hl, Bool.true_xor]; rfl))
end
def rEqX (K : PySem.W.Frag) : R2 := fun x y H Q => rEqA K x y H Q ∨ rDEq K false x y H Q
def rNeX (K : PySem.W.Frag) : R2 := fun x y H Q => rNeA K x y H Q ∨ rDEq K true x y H Q
theorem opEqX {X : Cx} (hu : X.A.units + 70 < cLine) : OpR X (compareOp .Eq) (rEqX X.K) := (opEq (by omega)).or (op_dEq hu)
theorem opNeX {X : Cx} (hu : X.A.units + 70 < cLine) : OpR X (compareOp .NotEq) (rNeX X.K) := (opNe (by omega)).or (op_dNe hu)
theorem hu70 {A : Around} {k : Nat} (hr : Room k A) : A.units + 70 < cLine := by have := hr.un; omega
def eqBX (a b : Dv) : Option Bool := match a, b with
  | .dct ds, .dct es => if shpK ds && shpK es then some (dEqB ds es) else none
  | a, b => eqB a b
def oEqX (a b : Dv) : Option Dv := match eqBX a b with
  | some c => some (.bl c)
  | none => none
def oNeX (a b : Dv) : Option Dv := match eqBX a b with
  | some c => some (.bl (!c))
  | none => none
section
variable {K : PySem.W.Frag}
theorem r2_eqX : R2D K (rEqX K) oEqX := by
  intro H F L x y a b d Q D hx hy e q
  unfold oEqX eqBX at e
  split at e
  · rename_i c e1
    cases e
    split at e1
    · split at e1
      · rename_i hs
        cases e1
        rw [Bool.and_eq_true] at hs
        refine .inr ⟨_, _, hx.dd D, hy.dd D, hs.1, hs.2, ?_⟩
        rw [Bool.false_xor]
        exact q _ _ _ (Same.refl _) D (.bl _)
      · cases e1
    · refine .inl (r2_eq H F L x y a b _ Q D hx hy ?_ q)
      unfold oEq; rw [e1]
  · cases e
theorem r2_neX : R2D K (rNeX K) oNeX := by
  intro H F L x y a b d Q D hx hy e q
  unfold oNeX eqBX at e
  split at e
  · rename_i c e1
    cases e
    split at e1
    · split at e1
      · rename_i hs
        cases e1
        rw [Bool.and_eq_true] at hs
        refine .inr ⟨_, _, hx.dd D, hy.dd D, hs.1, hs.2, ?_⟩
        rw [Bool.true_xor]
        exact q _ _ _ (Same.refl _) D (.bl _)
      · cases e1
    · refine .inl (r2_ne H F L x y a b _ Q D hx hy ?_ q)
      unfold oNe; rw [e1]
  · cases e
end
/-! ### list(d.items()), whatever walks the dict -/
def rItemsX : V → Hp → VK → Prop := fun x H Q => ∃ (d : Addr) (kvs : List (Key × V)), x = .ref d ∧ Rd H d (.dK kvs) ∧
  ∀ (H' : Hp) (p : Addr) (ts : List Addr), Same H H' → H p = none → (∀ t ∈ ts, H t = none) → p ∉ ts → H' p = some (.lst (ts.map V.ref)) → Paired (fun (t : Addr) (q : Key × V) => H' t = some (.tup [kV q.1, q.2])) ts kvs → Q (.ref p) H'
def tItemsX (te : TE) : TE := fun σ H Q => te σ H fun x H1 => rItemsX x H1 Q
section
variable {X : Cx} {e : Expr} {te : TE} {p apos cpos pos : Pos}
theorem pe_itemsX (hcalm : X.calm = true) (he : PE X e te) (hg : Gl X "list") (hm : X.mg "list" = none) (hv : bootBuiltins "list" = some (.type "list"))
    (hbase : attributeBase e "items" X.env (eval e X.env) = eval e X.env := by rfl) (hline : (apos.endLine == cpos.line) = true := by rfl)
    (hs : starEach [.Call (.Attribute e "items" apos) [] [] cpos] X.env = (false, eval (.Call (.Attribute e "items" apos) [] [] cpos) X.env) :: starEach [] X.env := by rfl) :
    PE X (.Call (.Name "list" p) [.Call (.Attribute e "items" apos) [] [] cpos] [] pos) (tItemsX te) := by
  refine ⟨fun pins s σ H Q I hq => wpAny_Call_Name_kw (ld_blt I hg hm hv (PyProof.Rows.callWith_type1 ?_ hs rfl))⟩
  rw [hs]
  show wpAny (model X.prog X.w) X.A (spliced ((false, eval (Expr.Call (Expr.Attribute e "items" apos) [] [] cpos) X.env) :: backTo pos (starEach [] X.env))) _ X.xe s
  refine Calls.spliced_cons (wpAny_Call_method (args := []) (T := "dict") (id := "dict.items") hbase rfl hline F.plainAttrs_dict F.slot_dict_items F.type_dict_items
    (thn (he.run pins s σ H _ I hq) fun u s1 ⟨x, H1, I1, rx, d, kvs, ex, hd, q⟩ => ?_))
  subst ex
  obtain rfl : u = Value.ref d := rx
  obtain ⟨hz, hs0, vs, kv, hdo⟩ : ObjOk X.prog X.w H1 s1.heap d (.dK kvs) := Rd.ok hd I1.hok
  obtain ⟨ep, hat⟩ := hdo.dictAt
  have I2 : Inv X pins σ H1 { s1 with heap := s1.heap.push { cls := .type "dict_items", data := .fields #[.ref d] } } := I1.kept (t' := s1.toks) fun b ob w => Heap.get?_push_of_some _ w
  have hlen : kvs.length = vs.length := Paired.length kv
  refine ⟨hdo.typeIs, hdo.mapOf.noDict, ?_⟩
  show wpAny (model X.prog X.w) X.A (callWith cpos (Value.builtin "dict.items") [Value.ref d] [] []) _ X.xe s1
  refine method_meetsIn F.slot_dict_items F.entry_dict_items rfl (PySem.evalArgs_none ⟨rfl, hdo.typeIs, F.args_dict_items_1 _, _, meets_dict_items (mixKind X.prog X.w) d hs0, ⟨vs, hdo⟩, Calls.spliced_nil ?_⟩)
  refine PySem.W.kdx_call (knd := mixKind X.prog X.w) (kvs := vs) (ep := ep) (I1.ok.hd hcalm) ⟨_, Heap.get?_push_size _ rfl, rfl, rfl⟩ (hat.push _) (by omega) fun h' tk acc c tsA hk1 hS1 hl1 hG1 hac => ?_
  obtain ⟨H2, g1, g2, g3, g4, g5, g6, J⟩ := LiI.items_laid (tk := tk) I2 hz kv hk1 hS1 hl1 hG1 hac
  exact ⟨.ref _, H2, J, rfl, q H2 _ tsA g1 g2 g3 g4 g5 g6⟩
end
section
variable {K : PySem.W.Frag}
def oItems (fe : Env → Option (Rv × Env)) (δ : Env) : Option (Dv × Env) := match fe δ with
  | some (.dv (.dct ds), δ') => some (.lst (ds.map itemD), δ')
  | _ => none
theorem do_itemsX {te : TE} {fe : Env → Option (Rv × Env)} (he : DE K te fe) : DEO K (tItemsX te) (oItems fe) := by
  intro α σ H F L R δ δ' d Q D S e q
  unfold oItems at e
  split at e
  · rename_i ds δ1 e1
    cases e
    refine he α σ H F L R δ _ _ _ D S e1 fun v H1 F1 L1 s1 D1 S1 r1 => ?_
    have r1 : Dd K F1 v (.dct ds) := r1
    cases r1 with
    | @dct a kvs _ h hs =>
      refine ⟨a, kvs, rfl, (Le.of D1.ext).rd _ _ True.intro h, fun H' p ts k1 k2 k3 k4 k5 k6 => ?_⟩
      obtain ⟨D2, s2⟩ := Led.adopt D1 k1 k3
      have fp : (fun b => if b ∈ ts then H' b else F1 b) p = none := by
        show (if p ∈ ts then H' p else F1 p) = none
        rw [if_neg k4]
        exact D1.ext.free k2
      have D3 : Led H' (fun b => if b ∈ ts then H' b else F1 b) ((p, .lst (ts.map V.ref)) :: (L1 ++ R)) := by
        refine ⟨D2.ext, fun x hx => ?_, ?_⟩
        · rcases List.mem_cons.mp hx with e | hx
          · subst e; exact ⟨k5, fp⟩
          · exact D2.ent x hx
        · exact List.nodup_cons.mpr ⟨D1.fresh k2, D1.nd⟩
      refine q p _ H' _ L1 (s1.trans s2) D3 (S1.mono (Le.of s2)) (.lst (items_dd ?_ (hs.mono (Le.of s2))))
      have all : ∀ {us : List Addr} {ls : List (Key × V)}, (∀ u ∈ us, u ∈ ts) → Paired (fun (t : Addr) (q : Key × V) => H' t = some (.tup [kV q.1, q.2])) us ls → Paired (fun (t : Addr) (q : Key × V) => (fun b => if b ∈ ts then H' b else F1 b) t = some (.tup [kV q.1, q.2])) us ls := by
        intro us ls hu h
        induction h with
        | nil => exact .nil
        | cons h t ih =>
          refine .cons ?_ (ih fun u m => hu u (List.mem_cons_of_mem _ m))
          show (if _ ∈ ts then H' _ else F1 _) = _
          rw [if_pos (hu _ List.mem_cons_self)]
          exact h
      exact all (fun _ h => h) k6
  · cases e
/-- d.pop(k), of one's own dict -/
def dropD (ds : List (Key × Dv)) (k : Key) : List (Key × Dv) := ds.filter fun p => decide (p.1 ≠ k)
theorem DdK.drop {F : Hp} {k : Key} : ∀ {kvs : List (Key × V)} {ds : List (Key × Dv)}, DdK K F kvs ds → DdK K F (dropK kvs k) (dropD ds k)
  | _, _, .nil => .nil
  | _, _, @DdK.cons _ _ k' v kvs d ds r t => by
    have ih := DdK.drop (k := k) t
    unfold dropK dropD at ih ⊢
    by_cases e : k' = k
    · rw [List.filter_cons_of_neg (by simp [e]), List.filter_cons_of_neg (by simp [e])]; exact ih
    · rw [List.filter_cons_of_pos (by simp [e]), List.filter_cons_of_pos (by simp [e])]; exact .cons r ih
def fDPop (i : Nat) (fk : Env → Option (Rv × Env)) (δ : Env) : Option (Rv × Env) := if ownD i δ = true then (match got fk δ with
  | some (kd, δ1) => match keyOf kd, δ1[i]? with
    | some k, some (.ow t (.dct ds)) => match lookK ds k with
      | some d => some (.dv d, δ1.set i (.ow t (.dct (dropD ds k))))
      | none => none
    | _, _ => none
  | none => none) else none
theorem de_dpop {i : Nat} {tk : TE} {fk : Env → Option (Rv × Env)} (hk : DE K tk fk) : DE K (tDPop1 (tVar i) tk) (fDPop i fk) := by
  intro α σ H F L R δ δ' rr Q D S e q
  unfold fDPop at e
  split at e
  · rename_i ho
    obtain ⟨t0, ds0, e0⟩ := ownD_ex ho
    obtain ⟨a, o, hσ, hH, h1, -⟩ := own_wr D S e0
    obtain ⟨xs0, rfl, hd0⟩ := ow_dct h1
    split at e
    · rename_i kd δ1 e1
      split at e
      · rename_i k t ds ek e3
        split at e
        · rename_i d e4
          cases e
          refine ⟨.ref a, hσ, a, rfl, .inl ⟨xs0, .inl hH⟩, hk.rd D S e1 fun y H2 F2 M2 s2 D2 S2 dr => ?_⟩
          obtain ⟨a', o', hσ', hH', h1', wr⟩ := own_wr D2 S2 e3
          rw [hσ] at hσ'
          cases hσ'
          obtain ⟨xs, rfl, hd⟩ := ow_dct h1'
          rcases hd.look (k := k) with ⟨n1, _⟩ | ⟨d', v, g1, g2, g3⟩
          · rw [e4] at n1; cases n1
          · rw [e4] at g1; cases g1
            obtain ⟨M3, D3, S3⟩ := wr (.dK (dropK xs k)) (.dct (dropD ds k)) (.dct hd.drop)
            exact ⟨xs, k, v, hH', dr.key ek, g2, q v _ F2 M3 s2 D3 S3 g3⟩
        · cases e
      · cases e
    · cases e
  · cases e
end
end FD
namespace FD
open PySem PySem.Spec PyProof.Rows L2 FL
section
variable {K : PySem.W.Frag}
def gNames : List Nat → TGs
  | [] => gNil
  | i :: is => gCons (gName i) (gNames is)
theorem gNames_run {H : Hp} {Q : L2.St → Hp → Prop} : ∀ {is : List Nat} {vs : List V} {σ : L2.St}, is.length = vs.length → Q (setV σ is vs) H → gNames is vs σ H Q
  | [], [], σ, _, q => ⟨rfl, q⟩
  | i :: is, v :: vs, σ, h, q => ⟨v, vs, rfl, gNames_run (is := is) (by simpa using h) q⟩
  | [], _ :: _, _, h, _ => by simp at h
  | _ :: _, [], _, h, _ => by simp at h
def sTupO (is : List Nat) (fa : Env → Option (List Ov × Env)) (δ : Env) : Option (Ctl × Env) := match fa δ with
  | some (os, δ1) => if os.length = is.length ∧ os.length ≤ 100 then (match setOv δ1 is os with
    | some δ2 => some (.nx, δ2)
    | none => none) else none
  | none => none
theorem ds_tupO {n : Nat} (is : List Nat) {ta : TA} {fa : Env → Option (List Ov × Env)} (hn : is.length = n) (ha : DOA K ta fa) : DS K (tAsg (tTup ta) (gTup K n (gNames is))) (sTupO is fa) := by
  intro α σ H F L R δ δ' c D hD S e q
  unfold sTupO at e
  split at e
  · rename_i os δ1 e1
    split at e
    · rename_i hl
      split at e
      · rename_i δ2 e2
        cases e
        refine ha α σ H F L R δ δ1 os _ hD S e1 fun vs H' F' L' E s D' S' r => ?_
        refine ⟨by rw [r.len]; exact le_line (by omega), fun p np => ?_⟩
        have D1 := D'.new (o := .tup vs) np
        refine ⟨p, vs, rfl, SqT.of upd_same, by rw [r.len, ← hn]; exact hl.1, gNames_run (by rw [r.len]; exact hl.1.symm) ?_⟩
        obtain ⟨L2', D2, S2⟩ := put_ov r D1.drop S' e2
        exact q _ _ F' L2' s D2 S2
      · cases e
    · cases e
  · cases e
end
end FD
namespace FD
open PySem PySem.Spec PyProof.Rows L2 FL
section
variable {K : PySem.W.Frag}
/-! ### a call that writes an object that the call itself is given new -/
def ovData : List Ov → Option (List Dv)
  | [] => some []
  | .dv d :: r => match ovData r with
    | some ds => some (d :: ds)
    | none => none
  | .ow _ :: _ => none
theorem ovData_dda {F : Hp} : ∀ {vs : List V} {os : List Ov} {E : List (Addr × HO)} {ds : List Dv}, OvR K F vs os E → ovData os = some ds → DdA K F vs ds ∧ E = []
  | _, _, _, _, .nil, e => by cases e; exact ⟨.nil, rfl⟩
  | _, _, _, ds, .dv h t, e => by
    unfold ovData at e
    split at e
    · rename_i ds' e'
      cases e
      obtain ⟨h1, h2⟩ := ovData_dda t e'
      exact ⟨.cons h h1, h2⟩
    · cases e
  | _, _, _, ds, .ow h t, e => by cases e
theorem ovR_erase {F : Hp} : ∀ {vs : List V} {os : List Ov} {E : List (Addr × HO)}, OvR K F vs os E → ∀ {p : Nat} {d0 : Dv} {ds : List Dv}, os[p]? = some (.ow d0) → ovData (os.eraseIdx p) = some ds →
    ∃ a o, E = [(a, o)] ∧ vs = (vs.eraseIdx p).take p ++ .ref a :: (vs.eraseIdx p).drop p ∧ p ≤ (vs.eraseIdx p).length ∧ DO K F o d0 ∧ DdA K F (vs.eraseIdx p) ds
  | _, _, _, .nil, p, d0, ds, h, _ => by cases h
  | _, _, _, .dv h t, 0, d0, ds, e, _ => by cases e
  | _, _, _, @OvR.dv _ _ v d vs os E h t, p + 1, d0, ds, e, e' => by
    have e' : ovData (.dv d :: os.eraseIdx p) = some ds := e'
    unfold ovData at e'
    split at e'
    · rename_i ds' e2
      cases e'
      obtain ⟨a, o, h1, h2, h3, h4, h5⟩ := ovR_erase t (p := p) e e2
      refine ⟨a, o, h1, ?_, ?_, h4, .cons h h5⟩
      · show v :: vs = v :: ((vs.eraseIdx p).take p ++ V.ref a :: (vs.eraseIdx p).drop p)
        rw [← h2]
      · show p + 1 ≤ (vs.eraseIdx p).length + 1
        omega
    · cases e'
  | _, _, _, @OvR.ow _ _ a o d vs os E h t, 0, d0, ds, e, e' => by
    cases e
    obtain ⟨h1, h2⟩ := ovData_dda t e'
    subst h2
    exact ⟨a, o, rfl, rfl, Nat.zero_le _, h, h1⟩
  | _, _, _, .ow h t, p + 1, d0, ds, e, e' => by cases e'
theorem ovData_len : ∀ {os : List Ov} {ds : List Dv}, ovData os = some ds → os.length = ds.length
  | [], _, e => by cases e; rfl
  | .dv d :: os, ds, e => by
    unfold ovData at e
    split at e
    · rename_i ds' e'; cases e; rw [List.length_cons, List.length_cons, ovData_len e']
    · cases e
  | .ow _ :: _, _, e => by cases e
def fCallMO (n p : Nat) (sem : Dv → List Dv → Option (Dv × Dv)) (fa : Env → Option (List Ov × Env)) (δ : Env) : Option (Rv × Env) := match fa δ with
  | some (os, δ') => if os.length = n then (match os[p]? with
    | some (.ow d0) => match ovData (os.eraseIdx p) with
      | some ds => match sem d0 ds with
        | some (d, _) => some (.dv d, δ')
        | none => none
      | none => none
    | _ => none) else none
  | none => none
theorem de_callMO {n p : Nat} {sem : Dv → List Dv → Option (Dv × Dv)} {ta : TA} {fa : Env → Option (List Ov × Env)} {E : XK} (ha : DOA K ta fa) : DE K (tCall (spM K n p sem) [] E ta) (fCallMO n p sem fa) := by
  intro α σ H F L R δ δ' rr Q D S e q
  unfold fCallMO at e
  split at e
  · rename_i os δ1 e1
    split at e
    · rename_i hl
      split at e
      · rename_i d0 e2
        split at e
        · rename_i ds e3
          split at e
          · rename_i d d1 e5
            cases e
            refine ha α σ H F L R δ _ os _ D S e1 fun vs H' F' L' E s D' S' R' => ?_
            rw [List.append_nil]
            obtain ⟨a, o, rfl, ev, hp, ho, hd⟩ := ovR_erase R' e2 e3
            have hlen : ds.length + 1 = n := by
              have h3 := ovData_len e3
              have h4 : p < os.length := (List.getElem?_eq_some_iff.mp e2).1
              rw [List.length_eraseIdx, if_pos h4] at h3
              omega
            exact ⟨F', _, a, o, vs.eraseIdx p, ds, d0, d, d1, ev, hp, hlen, hd, ho, D', e5, fun v H2 F2 o' s2 D3 ho r => q v H2 F2 L' (s.trans s2) D3.drop (S'.mono (Le.of s2)) r⟩
          · cases e
        · cases e
      · cases e
    · cases e
  · cases e
/-! ### a call that reads an object of a slot's own, and hands back a flat value -/
def fCallB (n p : Nat) (sem : List Dv → Option Dv) (fa : Env → Option (List Rv × Env)) (δ : Env) : Option (Rv × Env) := match fa δ with
  | some (rs, δ') => if rs.length = n then (match rs[p]? with
    | some (.al i) => match rvData (rs.eraseIdx p), δ'[i]? with
      | some ds, some (.ow _ d0) => match sem (ds.take p ++ d0 :: ds.drop p) with
        | some d => if flatD d then some (.dv d, δ') else none
        | none => none
      | _, _ => none
    | _ => none) else none
  | none => none
theorem Dd.flatAny {F F' : Hp} {v : V} {d : Dv} (h : Dd K F v d) (f : flatD d = true) : Dd K F' v d := by
  cases h with
  | non => exact .non
  | bl b => exact .bl b
  | int i => exact .int i
  | str x => exact .str x
  | lst h hs => cases f
  | tup h hs => cases f
  | dct h hs => cases f
  | dcT h hs => cases f
  | scr h => cases f
theorem de_callB {n p : Nat} {sem : List Dv → Option Dv} {ta : TA} {fa : Env → Option (List Rv × Env)} {E : XK} (ha : DA K ta fa) : DE K (tCall (spP K n sem) [] E ta) (fCallB n p sem fa) := by
  intro α σ H F L R δ δ' rr Q D S e q
  unfold fCallB at e
  split at e
  · rename_i rs δ1 e1
    split at e
    · rename_i hl
      split at e
      · rename_i i e2
        split at e
        · rename_i ds t d0 e3 e4
          split at e
          · rename_i d e5
            split at e
            · rename_i hf
              cases e
              refine ha α σ H F L R δ _ rs _ D S e1 fun vs H' F' L' s D' S' R' => ?_
              rw [List.append_nil]
              obtain ⟨v, ev, hp, rv, t'⟩ := paired_erase R' e2
              obtain ⟨a, o, L1, L2', eL, hσ, h1, h2, k1, k2, k3⟩ := S'.ow_at e4
              have rv : σ[i]? = some (some v) := rv
              rw [hσ] at rv
              cases rv
              have D2 : Led H' F' ((a, o) :: (L1 ++ (L2' ++ R))) := by
                rw [eL, List.append_assoc] at D'
                exact Led.mid D'
              have g := D2.grow
              have hlen : ds.length + 1 = n := by
                have h3 := rvData_len e3
                have h4 : p < rs.length := (List.getElem?_eq_some_iff.mp e2).1
                rw [List.length_eraseIdx, if_pos h4] at h3
                omega
              have hd := rvData_dda t' e3
              have hpl : p ≤ ds.length := by rw [← hd.len]; exact hp
              refine ⟨upd F' a o, _, ds.take p ++ d0 :: ds.drop p, d, ?_, ?_, D2.freeze, e5, fun v H2 F2 s2 D3 r => ?_⟩
              · rw [List.length_append, List.length_cons, List.length_take, List.length_drop]; omega
              · rw [ev]
                have hd' := hd.mono (Le.of g)
                exact (hd'.take p).app (.cons ((h1.mono (Le.of g)).dd upd_same) (hd'.drop p))
              · have hF2 : F2 a = some o := s2 _ _ upd_same
                have fa : F' a = none := (D2.ent (a, o) List.mem_cons_self).2
                have sm : Same F' (fun b => if b = a then none else F2 b) := fun b x e => by
                  show (if b = a then none else F2 b) = some x
                  rw [if_neg (fun z => by rw [z, fa] at e; cases e)]
                  exact s2 _ _ (g _ _ e)
                have na : ∀ x ∈ L1 ++ (L2' ++ R), x.1 ≠ a := fun x hx z => by
                  have := (D3.ent x hx).2
                  rw [z, hF2] at this; cases this
                have D4 : Led H2 (fun b => if b = a then none else F2 b) ((a, o) :: (L1 ++ (L2' ++ R))) := by
                  refine ⟨fun b x e => ?_, fun x hx => ?_, ?_⟩
                  · have e : (if b = a then none else F2 b) = some x := e
                    split at e
                    · cases e
                    · exact D3.ext _ _ e
                  · rcases List.mem_cons.mp hx with e | hx
                    · subst e
                      exact ⟨D3.ext _ _ hF2, by show (if a = a then none else F2 a) = none; rw [if_pos rfl]⟩
                    · obtain ⟨q1, q2⟩ := D3.ent x hx
                      refine ⟨q1, ?_⟩
                      show (if x.1 = a then none else F2 x.1) = none
                      rw [if_neg (na x hx)]; exact q2
                  · refine List.nodup_cons.mpr ⟨fun z => ?_, D3.nd⟩
                    obtain ⟨x, hx, e⟩ := List.mem_map.mp z
                    exact na x hx e
                refine q v H2 _ L' (s.trans sm) ?_ (S'.mono (Le.of sm)) (Dd.flatAny r hf)
                rw [eL, List.append_assoc]
                exact Led.unmid D4
            · cases e
          · cases e
        · cases e
      · cases e
    · cases e
  · cases e
end
end FD
namespace FD
open PySem PySem.Spec PyProof.Rows L2 FL
/-! ### data of this program -/
def encO : Option Int → Dv
  | none => .non
  | some i => .int i
def encS : Span → Dv
  | none => .non
  | some (l, h) => .tup [encO l, encO h]
def kvL (ks : List (Str × Int)) : List (Key × Dv) := ks.map fun p => (.inr p.1, .int p.2)
def kvS (es : List (Str × Span)) : List (Key × Dv) := es.map fun p => (.inr p.1, encS p.2)
def encF (p : Str × Str) : Dv := .tup [.str p.1, .str p.2]
def encB (fs : List (Str × Str)) : Dv := .lst (fs.map encF)
def encR (R : Rl) : Dv := .lst [.lst (R.great.map Dv.int), .lst (R.cells.map Dv.int), .int R.n, .int R.stir]
theorem lookK_line {ks : List (Str × Int)} {z : Str} {n : Int} (h : (z, n) ∈ ks) (nd : (ks.map (·.1)).Nodup) : lookK (kvL ks) (.inr z) = some (.int n) := by
  induction ks with
  | nil => cases h
  | cons p ks ih =>
    have hn := List.nodup_cons.mp nd
    show lookK ((.inr p.1, .int p.2) :: kvL ks) _ = _
    rw [lookK_cons]
    rcases List.mem_cons.mp h with e | h
    · subst e; rw [if_pos rfl]
    · rw [if_neg (fun e => hn.1 (by injection e with e; show p.1 ∈ _; rw [e]; exact List.mem_map.mpr ⟨_, h, rfl⟩)), ih h hn.2]
theorem lookK_line_none {ks : List (Str × Int)} {z : Str} (h : z ∉ ks.map (·.1)) : lookK (kvL ks) (.inr z) = none := by
  induction ks with
  | nil => rfl
  | cons p ks ih =>
    show lookK ((.inr p.1, .int p.2) :: kvL ks) _ = _
    rw [lookK_cons, if_neg (fun e => h (by injection e with e; rw [← e]; exact List.mem_cons_self (a := p.1))), ih fun m => h (List.mem_cons_of_mem _ m)]
theorem lookK_st {es : List (Str × Span)} {z : Str} {s : Span} (h : (z, s) ∈ es) (nd : (es.map (·.1)).Nodup) : lookK (kvS es) (.inr z) = some (encS s) := by
  induction es with
  | nil => cases h
  | cons p ks ih =>
    have hn := List.nodup_cons.mp nd
    show lookK ((.inr p.1, encS p.2) :: kvS ks) _ = _
    rw [lookK_cons]
    rcases List.mem_cons.mp h with e | h
    · subst e; rw [if_pos rfl]
    · rw [if_neg (fun e => hn.1 (by injection e with e; show p.1 ∈ _; rw [e]; exact List.mem_map.mpr ⟨_, h, rfl⟩)), ih h hn.2]
theorem len_kvL (ks : List (Str × Int)) : (kvL ks).length = ks.length := List.length_map ..
theorem len_kvS (ks : List (Str × Span)) : (kvS ks).length = ks.length := List.length_map ..
/-! ### loops -/
theorem fLoop_inv {fb : Dv → Env → Option Env} {fs : Fs} {ds : List Dv} {δ : Env} (I : Nat → Env → Prop) (h0 : I 0 δ)
    (step : ∀ i d δ, ds[i]? = some d → I i δ → ∃ δ1 δ2, fb d δ = some δ1 ∧ fs δ1 = some (.nx, δ2) ∧ I (i + 1) δ2) : ∃ δ', fLoop fb fs ds δ = some (.nx, δ') ∧ I ds.length δ' := by
  induction ds generalizing δ I with
  | nil => exact ⟨δ, rfl, h0⟩
  | cons d ds ih =>
    obtain ⟨δ1, δ2, e1, e2, h⟩ := step 0 d δ rfl h0
    obtain ⟨δ', e3, h'⟩ := ih (δ := δ2) (fun i => I (i + 1)) h fun i d δ e q => step (i + 1) d δ e q
    refine ⟨δ', ?_, h'⟩
    unfold fLoop
    rw [e1]
    simp only [e2]
    exact e3
/-- a comprehension whose items are read without a change -/
theorem lc_pure {fb : Dv → Env → Option Env} {ft : Env → Option (Bool × Env)} {fe : Env → Option (Rv × Env)} {vs : List Nat} {p : Dv → Bool} {g : Dv → Dv} : ∀ {ds : List Dv} {δ : Env},
    (∀ d ∈ ds, ∃ δ1, fb d (wipeD δ vs) = some δ1 ∧ ft δ1 = some (p d, δ1) ∧ (p d = true → fe δ1 = some (.dv (g d), δ1)) ∧ wipeD δ1 vs = wipeD δ vs) → ∃ δ', lcLoop fb ft fe vs ds δ = some ((ds.filter p).map g, δ') ∧ wipeD δ' vs = wipeD δ vs
  | [], δ, _ => ⟨δ, rfl, rfl⟩
  | d :: ds, δ, h => by
    obtain ⟨δ1, e1, e2, e3, e4⟩ := h d List.mem_cons_self
    obtain ⟨δ', e5, e6⟩ := lc_pure (ds := ds) (δ := δ1) fun c hc => by
      obtain ⟨δ2, q1, q2, q3, q4⟩ := h c (List.mem_cons_of_mem _ hc)
      exact ⟨δ2, by rw [e4]; exact q1, q2, q3, by rw [e4]; exact q4⟩
    refine ⟨δ', ?_, e6.trans e4⟩
    unfold lcLoop
    rw [e1]
    cases hp : p d with
    | true =>
      rw [hp] at e2
      simp only [e2, e3 hp, e5]
      rw [List.filter_cons_of_pos hp]; rfl
    | false =>
      rw [hp] at e2
      simp only [e2, e5]
      rw [List.filter_cons_of_neg (by rw [hp]; decide)]
theorem lc_all {fb : Dv → Env → Option Env} {fe : Env → Option (Rv × Env)} {vs : List Nat} {g : Dv → Dv} {ds : List Dv} {δ : Env}
    (h : ∀ d ∈ ds, ∃ δ1, fb d (wipeD δ vs) = some δ1 ∧ fe δ1 = some (.dv (g d), δ1) ∧ wipeD δ1 vs = wipeD δ vs) : ∃ δ', lcLoop fb tstYes fe vs ds δ = some (ds.map g, δ') ∧ wipeD δ' vs = wipeD δ vs := by
  obtain ⟨δ', e1, e2⟩ := lc_pure (ft := tstYes) (p := fun _ => true) (fb := fb) (fe := fe) (vs := vs) (g := g) (ds := ds) (δ := δ) fun d hd => by
    obtain ⟨δ1, q1, q2, q3⟩ := h d hd
    exact ⟨δ1, q1, rfl, fun _ => q2, q3⟩
  exact ⟨δ', by rw [e1, List.filter_eq_self.mpr fun _ _ => rfl], e2⟩
theorem oLc_pure {fi : Env → Option (List Dv × Env)} {fb : Dv → Env → Option Env} {ft : Env → Option (Bool × Env)} {fe : Env → Option (Rv × Env)} {vs : List Nat} {δ δ1 : Env} {ds : List Dv} (p : Dv → Bool) (g : Dv → Dv) (h1 : fi δ = some (ds, δ1)) (hl : ds.length ≤ 100000)
    (h : ∀ d ∈ ds, ∃ δ2, fb d (wipeD δ1 vs) = some δ2 ∧ ft δ2 = some (p d, δ2) ∧ (p d = true → fe δ2 = some (.dv (g d), δ2)) ∧ wipeD δ2 vs = wipeD δ1 vs) : oLc fi fb ft fe vs δ = some (.lst ((ds.filter p).map g), wipeD δ1 vs) := by
  obtain ⟨δ', e1, e2⟩ := lc_pure (p := p) (g := g) h
  unfold oLc
  rw [h1]
  simp only [if_pos hl, e1, e2]
theorem oLc_all {fi : Env → Option (List Dv × Env)} {fb : Dv → Env → Option Env} {fe : Env → Option (Rv × Env)} {vs : List Nat} {δ δ1 : Env} {ds : List Dv} (g : Dv → Dv) (h1 : fi δ = some (ds, δ1)) (hl : ds.length ≤ 100000)
    (h : ∀ d ∈ ds, ∃ δ2, fb d (wipeD δ1 vs) = some δ2 ∧ fe δ2 = some (.dv (g d), δ2) ∧ wipeD δ2 vs = wipeD δ1 vs) : oLc fi fb tstYes fe vs δ = some (.lst (ds.map g), wipeD δ1 vs) := by
  obtain ⟨δ', e1, e2⟩ := lc_all (g := g) h
  unfold oLc
  rw [h1]
  simp only [if_pos hl, e1, e2]
theorem putD_new {ds : List (Key × Dv)} {k : Key} {d : Dv} (h : k ∉ ds.map (·.1)) : putD ds k d = ds ++ [(k, d)] := by
  unfold putD
  rw [if_neg]
  rw [List.any_eq_true]
  rintro ⟨p, hp, e⟩
  exact h (List.mem_map.mpr ⟨p, hp, of_decide_eq_true e⟩)
theorem dcLoop_pure {fb : Dv → Env → Option Env} {fk fv : Env → Option (Rv × Env)} {vs : List Nat} {k : Dv → Dv} {κ : Dv → Key} {g : Dv → Dv} : ∀ {ds : List Dv} {acc : List (Key × Dv)} {δ : Env},
    (∀ d ∈ ds, ∃ δ1, fb d (wipeD δ vs) = some δ1 ∧ got fk δ1 = some (k d, δ1) ∧ keyOf (k d) = some (κ d) ∧ fv δ1 = some (.dv (g d), δ1) ∧ wipeD δ1 vs = wipeD δ vs) → (acc.map (·.1) ++ ds.map κ).Nodup →
    ∃ δ', dcLoop fb tstYes fk fv vs ds acc δ = some (acc ++ ds.map (fun d => (κ d, g d)), δ') ∧ wipeD δ' vs = wipeD δ vs
  | [], acc, δ, _, _ => ⟨δ, by rw [List.map_nil, List.append_nil]; rfl, rfl⟩
  | d :: ds, acc, δ, h, nd => by
    obtain ⟨δ1, e1, e2, e3, e4, e5⟩ := h d List.mem_cons_self
    have hn : κ d ∉ acc.map (·.1) := fun m => by
      rw [List.map_cons, List.nodup_append] at nd
      exact nd.2.2 _ m _ List.mem_cons_self rfl
    obtain ⟨δ', e6, e7⟩ := dcLoop_pure (ds := ds) (acc := acc ++ [(κ d, g d)]) (δ := δ1) (fun c hc => by
      obtain ⟨δ2, q1, q2, q3, q4, q5⟩ := h c (List.mem_cons_of_mem _ hc)
      exact ⟨δ2, by rw [e5]; exact q1, q2, q3, q4, by rw [e5]; exact q5⟩) (by rw [List.map_append, List.append_assoc]; exact nd)
    refine ⟨δ', ?_, e7.trans e5⟩
    unfold dcLoop
    rw [e1]
    simp only [tstYes, e2, e3, e4]
    rw [putD_new hn, e6, List.append_assoc]; rfl
theorem oDc_all {fi : Env → Option (List Dv × Env)} {fb : Dv → Env → Option Env} {fk fv : Env → Option (Rv × Env)} {vs : List Nat} {δ δ1 : Env} {ds : List Dv} (k : Dv → Dv) (κ : Dv → Key) (g : Dv → Dv) (h1 : fi δ = some (ds, δ1)) (hl : ds.length ≤ 100000)
    (h : ∀ d ∈ ds, ∃ δ2, fb d (wipeD δ1 vs) = some δ2 ∧ got fk δ2 = some (k d, δ2) ∧ keyOf (k d) = some (κ d) ∧ fv δ2 = some (.dv (g d), δ2) ∧ wipeD δ2 vs = wipeD δ1 vs) (nd : (ds.map κ).Nodup) :
    oDc fi fb tstYes fk fv vs δ = some (.dct (ds.map fun d => (κ d, g d)), wipeD δ1 vs) := by
  obtain ⟨δ', e1, e2⟩ := dcLoop_pure (acc := []) (k := k) (κ := κ) (g := g) h nd
  unfold oDc
  rw [h1]
  simp only [if_pos hl, e1, e2, List.nil_append]
theorem isT_0 : isT "NoneType" "int" = false := by decide
theorem isT_1 : isT "NoneType" "bool" = false := by decide
theorem isT_2 : isT "NoneType" "str" = false := by decide
theorem isT_3 : isT "NoneType" "dict" = false := by decide
theorem isT_4 : isT "NoneType" "list" = false := by decide
theorem isT_5 : isT "NoneType" "tuple" = false := by decide
theorem isT_6 : isT "bool" "int" = true := by decide
theorem isT_7 : isT "bool" "bool" = true := by decide
theorem isT_8 : isT "bool" "str" = false := by decide
theorem isT_9 : isT "bool" "dict" = false := by decide
theorem isT_10 : isT "bool" "list" = false := by decide
theorem isT_11 : isT "bool" "tuple" = false := by decide
theorem isT_12 : isT "int" "int" = true := by decide
theorem isT_13 : isT "int" "bool" = false := by decide
theorem isT_14 : isT "int" "str" = false := by decide
theorem isT_15 : isT "int" "dict" = false := by decide
theorem isT_16 : isT "int" "list" = false := by decide
theorem isT_17 : isT "int" "tuple" = false := by decide
theorem isT_18 : isT "str" "int" = false := by decide
theorem isT_19 : isT "str" "bool" = false := by decide
theorem isT_20 : isT "str" "str" = true := by decide
theorem isT_21 : isT "str" "dict" = false := by decide
theorem isT_22 : isT "str" "list" = false := by decide
theorem isT_23 : isT "str" "tuple" = false := by decide
theorem isT_24 : isT "list" "int" = false := by decide
theorem isT_25 : isT "list" "bool" = false := by decide
theorem isT_26 : isT "list" "str" = false := by decide
theorem isT_27 : isT "list" "dict" = false := by decide
theorem isT_28 : isT "list" "list" = true := by decide
theorem isT_29 : isT "list" "tuple" = false := by decide
theorem isT_30 : isT "tuple" "int" = false := by decide
theorem isT_31 : isT "tuple" "bool" = false := by decide
theorem isT_32 : isT "tuple" "str" = false := by decide
theorem isT_33 : isT "tuple" "dict" = false := by decide
theorem isT_34 : isT "tuple" "list" = false := by decide
theorem isT_35 : isT "tuple" "tuple" = true := by decide
theorem isT_36 : isT "dict" "int" = false := by decide
theorem isT_37 : isT "dict" "bool" = false := by decide
theorem isT_38 : isT "dict" "str" = false := by decide
theorem isT_39 : isT "dict" "dict" = true := by decide
theorem isT_40 : isT "dict" "list" = false := by decide
theorem isT_41 : isT "dict" "tuple" = false := by decide
theorem tyE_0 : decide (("NoneType" : String) = "NoneType") = true := by decide
theorem tyE_1 : decide (("NoneType" : String) = "bool") = false := by decide
theorem tyE_2 : decide (("NoneType" : String) = "int") = false := by decide
theorem tyE_3 : decide (("NoneType" : String) = "str") = false := by decide
theorem tyE_4 : decide (("NoneType" : String) = "list") = false := by decide
theorem tyE_5 : decide (("NoneType" : String) = "tuple") = false := by decide
theorem tyE_6 : decide (("NoneType" : String) = "dict") = false := by decide
theorem tyE_7 : decide (("bool" : String) = "NoneType") = false := by decide
theorem tyE_8 : decide (("bool" : String) = "bool") = true := by decide
theorem tyE_9 : decide (("bool" : String) = "int") = false := by decide
theorem tyE_10 : decide (("bool" : String) = "str") = false := by decide
theorem tyE_11 : decide (("bool" : String) = "list") = false := by decide
theorem tyE_12 : decide (("bool" : String) = "tuple") = false := by decide
theorem tyE_13 : decide (("bool" : String) = "dict") = false := by decide
theorem tyE_14 : decide (("int" : String) = "NoneType") = false := by decide
theorem tyE_15 : decide (("int" : String) = "bool") = false := by decide
theorem tyE_16 : decide (("int" : String) = "int") = true := by decide
theorem tyE_17 : decide (("int" : String) = "str") = false := by decide
theorem tyE_18 : decide (("int" : String) = "list") = false := by decide
theorem tyE_19 : decide (("int" : String) = "tuple") = false := by decide
theorem tyE_20 : decide (("int" : String) = "dict") = false := by decide
theorem tyE_21 : decide (("str" : String) = "NoneType") = false := by decide
theorem tyE_22 : decide (("str" : String) = "bool") = false := by decide
theorem tyE_23 : decide (("str" : String) = "int") = false := by decide
theorem tyE_24 : decide (("str" : String) = "str") = true := by decide
theorem tyE_25 : decide (("str" : String) = "list") = false := by decide
theorem tyE_26 : decide (("str" : String) = "tuple") = false := by decide
theorem tyE_27 : decide (("str" : String) = "dict") = false := by decide
theorem tyE_28 : decide (("list" : String) = "NoneType") = false := by decide
theorem tyE_29 : decide (("list" : String) = "bool") = false := by decide
theorem tyE_30 : decide (("list" : String) = "int") = false := by decide
theorem tyE_31 : decide (("list" : String) = "str") = false := by decide
theorem tyE_32 : decide (("list" : String) = "list") = true := by decide
theorem tyE_33 : decide (("list" : String) = "tuple") = false := by decide
theorem tyE_34 : decide (("list" : String) = "dict") = false := by decide
theorem tyE_35 : decide (("tuple" : String) = "NoneType") = false := by decide
theorem tyE_36 : decide (("tuple" : String) = "bool") = false := by decide
theorem tyE_37 : decide (("tuple" : String) = "int") = false := by decide
theorem tyE_38 : decide (("tuple" : String) = "str") = false := by decide
theorem tyE_39 : decide (("tuple" : String) = "list") = false := by decide
theorem tyE_40 : decide (("tuple" : String) = "tuple") = true := by decide
theorem tyE_41 : decide (("tuple" : String) = "dict") = false := by decide
theorem tyE_42 : decide (("dict" : String) = "NoneType") = false := by decide
theorem tyE_43 : decide (("dict" : String) = "bool") = false := by decide
theorem tyE_44 : decide (("dict" : String) = "int") = false := by decide
theorem tyE_45 : decide (("dict" : String) = "str") = false := by decide
theorem tyE_46 : decide (("dict" : String) = "list") = false := by decide
theorem tyE_47 : decide (("dict" : String) = "tuple") = false := by decide
theorem tyE_48 : decide (("dict" : String) = "dict") = true := by decide
theorem blsOf_true {α : Type} (l : List α) : blsOf (l.map fun _ => Dv.bl true) = some (l.map fun _ => true) := by
  have := blsOf_map (l.map fun _ => true)
  rwa [List.map_map] at this
theorem bAll_true {α : Type} (l : List α) : bAll [.lst (l.map fun _ => Dv.bl true)] = some (.bl true) := by
  show (match blsOf (l.map fun _ => Dv.bl true) with | some bs => some (Dv.bl (bs.all id)) | none => none) = _
  rw [blsOf_true]
  simp
theorem all_true {α : Type} {l : List α} : ((l.map fun _ => true).all id) = true := by simp
end FD
namespace FD
open PySem PySem.Spec PyProof.Rows L2 FL
-- joined
def joinO (f : Int → Int → Int) : Option Int → Option Int → Option Int
  | some a, some b => some (f a b)
  | _, _ => none
def joinS : Span → Option Int × Option Int → Option Int × Option Int
  | none, r => r
  | some (l, h), (l', h') => (joinO (fun a b => if b < a then b else a) l l', joinO (fun a b => if b > a then b else a) h h')
-- reach_of_kind
/-- the kind of a frame from b to t, the target's interval s; its reach -/
def kindS (s : Span) (b : Int) : Str := match s with
  | none => "all"
  | some _ => if inSpan s b then "direct" else "flood"
def reachS (s : Span) (b t : Int) : Option Int × Option Int := match s with
  | none => (none, none)
  | some _ => if inSpan s b then (some (if t < b then t else b), some (if t > b then t else b)) else if b < t then (none, some t) else (some t, none)
-- has_hosts_of
/-- a state of the line: its hosts, each with its interval -/
structure StOk (ks : List (Str × Int)) (es : List (Str × Span)) : Prop where
  pm : (es.map (·.1)).Perm (ks.map (·.1))
  ok : ∀ p ∈ es, spanOk ks (posOf ks p.1) p.2
theorem StOk.nd {ks : List (Str × Int)} {es : List (Str × Span)} (hk : LineOk ks) (h : StOk ks es) : (es.map (·.1)).Nodup := h.pm.nodup_iff.mpr hk.ndn
theorem StOk.len {ks : List (Str × Int)} {es : List (Str × Span)} (h : StOk ks es) : es.length = ks.length := by have := h.pm.length_eq; rwa [List.length_map, List.length_map] at this
theorem spOf_look {ks : List (Str × Int)} {es : List (Str × Span)} (hk : LineOk ks) (h : StOk ks es) {z : Str} (hz : z ∈ ks.map (·.1)) : lookK (kvS es) (.inr z) = some (encS (spOf es z)) ∧ (z, spOf es z) ∈ es := by
  obtain ⟨p, hp, rfl⟩ := List.mem_map.mp (h.pm.mem_iff.mpr hz)
  rw [spOf_in (h.nd hk) hp]
  exact ⟨lookK_st hp (h.nd hk), hp⟩
-- is_frames
structure FrOk (ks : List (Str × Int)) (fs : List (Str × Str)) : Prop where
  len : fs.length ≤ 300
  ok : ∀ p ∈ fs, p.1 ∈ ks.map (·.1) ∧ p.2 ∈ ks.map (·.1) ∧ p.1 ≠ p.2
-- is_line
theorem intsOf_vals (ks : List (Str × Int)) : intsOf ((kvL ks).map (·.2)) = some (ks.map (·.2)) := by
  have e : (kvL ks).map (·.2) = (ks.map (·.2)).map Dv.int := by unfold kvL; rw [List.map_map, List.map_map]; rfl
  rw [e, intsOf_map]
-- is_end
theorem vals_line (ks : List (Str × Int)) : (kvL ks).map (·.2) = (ks.map (·.2)).map Dv.int := by unfold kvL; rw [List.map_map, List.map_map]; rfl
theorem flat_ints : ∀ ns : List Int, (ns.map Dv.int).all flatD = true
  | [] => rfl
  | n :: ns => by rw [List.map_cons, List.all_cons, flat_ints ns]; rfl
theorem any_ints {i : Int} : ∀ {ns : List Int}, i ∈ ns → ((ns.map Dv.int).any fun d => eqF d (.int i)) = true
  | n :: ns, h => by
    rw [List.map_cons, List.any_cons]
    rcases List.mem_cons.mp h with e | h
    · subst e; rw [show eqF (.int i) (.int i) = true from beq_self_eq_true i, Bool.true_or]
    · rw [any_ints h, Bool.or_true]
-- silent_state
def silE (ks : List (Str × Int)) : List (Str × Span) := ks.map fun p => (p.1, none)
theorem silE_ok {ks : List (Str × Int)} : StOk ks (silE ks) := by
  refine ⟨?_, fun p hp => ?_⟩
  · unfold silE; rw [List.map_map]; exact List.Perm.refl _
  · obtain ⟨q, hq, rfl⟩ := List.mem_map.mp hp
    exact True.intro

-- send_one
/-- the interval of z is s -/
def setE (es : List (Str × Span)) (z : Str) (s : Span) : List (Str × Span) := es.map fun p => if p.1 = z then (z, s) else p
theorem setE_keys (es : List (Str × Span)) (z : Str) (s : Span) : (setE es z s).map (·.1) = es.map (·.1) := by
  unfold setE
  rw [List.map_map]
  refine List.map_congr_left fun p _ => ?_
  show (if p.1 = z then (z, s) else p).1 = p.1
  split
  · rename_i h; exact h.symm
  · rfl
theorem putD_setE {es : List (Str × Span)} {z : Str} {s : Span} (h : z ∈ es.map (·.1)) : putD (kvS es) (.inr z) (encS s) = kvS (setE es z s) := by
  unfold putD
  rw [if_pos]
  · unfold kvS setE
    rw [List.map_map, List.map_map]
    refine List.map_congr_left fun p _ => ?_
    show (if (Sum.inr p.1 : Key) = Sum.inr z then (Sum.inr z, encS s) else (Sum.inr p.1, encS p.2)) = (Sum.inr (if p.1 = z then (z, s) else p).1, encS (if p.1 = z then (z, s) else p).2)
    by_cases e : p.1 = z
    · rw [if_pos e, if_pos (by rw [e])]
    · rw [if_neg e, if_neg (fun q => e (Sum.inr.inj q))]
  · rw [List.any_eq_true]
    obtain ⟨p, hp, e⟩ := List.mem_map.mp h
    exact ⟨(.inr p.1, encS p.2), List.mem_map.mpr ⟨p, hp, rfl⟩, decide_eq_true (by show (Sum.inr p.1 : Key) = Sum.inr z; rw [← e])⟩
/-- the state after a frame -/
def sendE (ks : List (Str × Int)) (es : List (Str × Span)) (p : Str × Str) : List (Str × Span) :=
  setE es p.1 (some (joinS (spOf es p.1) (reachS (spOf es p.2) (posOf ks p.1) (posOf ks p.2))))
def kindE (ks : List (Str × Int)) (es : List (Str × Span)) (p : Str × Str) : Str := kindS (spOf es p.2) (posOf ks p.1)
def reachE (ks : List (Str × Int)) (es : List (Str × Span)) (p : Str × Str) : Option Int × Option Int := reachS (spOf es p.2) (posOf ks p.1) (posOf ks p.2)
theorem setE_mem {es : List (Str × Span)} {z : Str} {s : Span} {q : Str × Span} (h : q ∈ setE es z s) : q = (z, s) ∨ q ∈ es := by
  obtain ⟨p, hp, e⟩ := List.mem_map.mp h
  by_cases c : p.1 = z
  · rw [if_pos c] at e; exact .inl e.symm
  · rw [if_neg c] at e; subst e; exact .inr hp
theorem pos_in {ks : List (Str × Int)} {z : Str} (h : z ∈ ks.map (·.1)) : posOf ks z ∈ ks.map (·.2) := List.mem_map.mpr ⟨_, posOf_in h, rfl⟩
theorem reach_ok {ks : List (Str × Int)} {b t : Int} (s : Span) (hb : b ∈ ks.map (·.2)) (ht : t ∈ ks.map (·.2)) : spanOk ks b (some (reachS s b t)) := by
  rcases s with _ | s
  · exact ⟨(fun i e => nomatch e), (fun i e => nomatch e)⟩
  · unfold reachS
    by_cases q : inSpan (some s) b = true
    · simp only [if_pos q]
      refine ⟨fun i e => ?_, fun i e => ?_⟩
      · cases e
        by_cases r : t < b
        · rw [if_pos r]; exact ⟨ht, by omega⟩
        · rw [if_neg r]; exact ⟨hb, by omega⟩
      · cases e
        by_cases r : t > b
        · rw [if_pos r]; exact ⟨ht, by omega⟩
        · rw [if_neg r]; exact ⟨hb, by omega⟩
    · simp only [if_neg q]
      by_cases r : b < t
      · simp only [if_pos r]
        exact ⟨(fun i e => nomatch e), fun i e => by cases e; exact ⟨ht, by omega⟩⟩
      · simp only [if_neg r]
        exact ⟨fun i e => by cases e; exact ⟨ht, by omega⟩, (fun i e => nomatch e)⟩
theorem join_ok {ks : List (Str × Int)} {b : Int} {s : Span} {r : Option Int × Option Int} (h : spanOk ks b s) (h' : spanOk ks b (some r)) : spanOk ks b (some (joinS s r)) := by
  obtain ⟨rl, rh⟩ := r
  rcases s with _ | ⟨l, u⟩
  · exact h'
  · refine ⟨fun i e => ?_, fun i e => ?_⟩
    · rcases l with _ | l <;> rcases rl with _ | rl <;> first | (cases e; done) | skip
      have e : (if rl < l then rl else l) = i := Option.some.inj e
      subst e
      split
      · exact h'.1 rl rfl
      · exact h.1 l rfl
    · rcases u with _ | u <;> rcases rh with _ | rh <;> first | (cases e; done) | skip
      have e : (if rh > u then rh else u) = i := Option.some.inj e
      subst e
      split
      · exact h'.2 rh rfl
      · exact h.2 u rfl
theorem sendE_ok {ks : List (Str × Int)} {es : List (Str × Span)} (hk : LineOk ks) (h : StOk ks es) {p : Str × Str} (h1 : p.1 ∈ ks.map (·.1)) (h2 : p.2 ∈ ks.map (·.1)) : StOk ks (sendE ks es p) := by
  refine ⟨by unfold sendE; rw [setE_keys]; exact h.pm, fun q hq => ?_⟩
  rcases setE_mem hq with e | hq
  · subst e
    exact join_ok (h.ok _ (spOf_look hk h h1).2) (reach_ok _ (pos_in h1) (pos_in h2))
  · exact h.ok _ hq

-- send_each
def runE (ks : List (Str × Int)) : List (Str × Span) → List (Str × Str) → List (Str × Span)
  | es, [] => es
  | es, p :: fs => runE ks (sendE ks es p) fs
def sentE (ks : List (Str × Int)) : List (Str × Span) → List (Str × Str) → List (Str × (Option Int × Option Int))
  | _, [] => []
  | es, p :: fs => (kindE ks es p, reachE ks es p) :: sentE ks (sendE ks es p) fs
def encT (x : Str × (Option Int × Option Int)) : Dv := .tup [.str x.1, encS (some x.2)]
theorem runE_snoc {ks : List (Str × Int)} {p : Str × Str} : ∀ {fs : List (Str × Str)} {es : List (Str × Span)}, runE ks es (fs ++ [p]) = sendE ks (runE ks es fs) p
  | [], es => rfl
  | q :: fs, es => runE_snoc (fs := fs) (es := sendE ks es q)
theorem sentE_snoc {ks : List (Str × Int)} {p : Str × Str} : ∀ {fs : List (Str × Str)} {es : List (Str × Span)}, sentE ks es (fs ++ [p]) = sentE ks es fs ++ [(kindE ks (runE ks es fs) p, reachE ks (runE ks es fs) p)]
  | [], es => rfl
  | q :: fs, es => by
    show _ :: sentE ks (sendE ks es q) (fs ++ [p]) = _
    rw [sentE_snoc (fs := fs) (es := sendE ks es q)]; rfl
theorem sentE_len {ks : List (Str × Int)} : ∀ {fs : List (Str × Str)} {es : List (Str × Span)}, (sentE ks es fs).length = fs.length
  | [], _ => rfl
  | q :: fs, es => by show (sentE ks (sendE ks es q) fs).length + 1 = _; rw [sentE_len]; rfl
theorem runE_ok {ks : List (Str × Int)} (hk : LineOk ks) : ∀ {fs : List (Str × Str)} {es : List (Str × Span)}, StOk ks es → (∀ p ∈ fs, p.1 ∈ ks.map (·.1) ∧ p.2 ∈ ks.map (·.1) ∧ p.1 ≠ p.2) → StOk ks (runE ks es fs)
  | [], es, h, _ => h
  | q :: fs, es, h, hf => runE_ok hk (fs := fs) (sendE_ok hk h (hf q List.mem_cons_self).1 (hf q List.mem_cons_self).2.1) fun p hp => hf p (List.mem_cons_of_mem _ hp)
theorem take_snoc {α : Type} {l : List α} {i : Nat} {x : α} (h : l[i]? = some x) : l.take (i + 1) = l.take i ++ [x] := by rw [List.take_add_one, h]; rfl
-- known_after
/-- the hosts of a state in the order of their names -/
def sortE (es : List (Str × Span)) : List (Str × Span) := (srt leS (es.map (·.1))).map fun z => (z, spOf es z)
theorem skeys_st (es : List (Str × Span)) : skeys (kvS es) = some (es.map (·.1)) := by
  induction es with
  | nil => rfl
  | cons p es ih => show skeys ((.inr p.1, encS p.2) :: kvS es) = _; unfold skeys; rw [ih]; rfl
/-! ### dicts out of pairs -/
theorem mergeD_app : ∀ {more acc : List (Key × Dv)}, (acc.map (·.1) ++ more.map (·.1)).Nodup → mergeD acc more = acc ++ more
  | [], acc, _ => by rw [List.append_nil]; rfl
  | p :: more, acc, nd => by
    have hn : p.1 ∉ acc.map (·.1) := fun m => by
      rw [List.map_cons, List.nodup_append] at nd
      exact nd.2.2 _ m _ List.mem_cons_self rfl
    show mergeD (putD acc p.1 p.2) more = _
    rw [putD_new hn, mergeD_app (acc := acc ++ [(p.1, p.2)]) (by rw [List.map_append, List.append_assoc]; exact nd), List.append_assoc]; rfl
theorem keyOf_keyD (k : Key) : keyOf (keyD k) = some k := by cases k <;> rfl
theorem pairsOf_items : ∀ kvs : List (Key × Dv), pairsOf (kvs.map itemD) = some kvs
  | [] => rfl
  | (k, d) :: kvs => by
    show pairsOf (.tup [keyD k, d] :: kvs.map itemD) = _
    unfold pairsOf
    rw [keyOf_keyD, pairsOf_items kvs]
theorem bDict_items {kvs : List (Key × Dv)} (nd : (kvs.map (·.1)).Nodup) : bDict [.lst (kvs.map itemD)] = some (.dct kvs) := by
  show (match pairsOf (kvs.map itemD) with | some ps => some (Dv.dct (mergeD [] ps)) | none => none) = _
  rw [pairsOf_items]
  show some (Dv.dct (mergeD [] kvs)) = _
  rw [mergeD_app (by simpa using nd)]; rfl
theorem kvS_nd {es : List (Str × Span)} (h : (es.map (·.1)).Nodup) : ((kvS es).map (·.1)).Nodup := by
  have e : (kvS es).map (·.1) = (es.map (·.1)).map Sum.inr := by unfold kvS; rw [List.map_map, List.map_map]; rfl
  rw [e]
  exact List.Pairwise.map _ (fun a b h e => h (Sum.inr.inj e)) h
theorem kvL_nd {es : List (Str × Int)} (h : (es.map (·.1)).Nodup) : ((kvL es).map (·.1)).Nodup := by
  have e : (kvL es).map (·.1) = (es.map (·.1)).map Sum.inr := by unfold kvL; rw [List.map_map, List.map_map]; rfl
  rw [e]
  exact List.Pairwise.map _ (fun a b h e => h (Sum.inr.inj e)) h
theorem bDict_pairs {ps : List (Str × Span)} (nd : (ps.map (·.1)).Nodup) : bDict [.lst (ps.map fun p => .tup [.str p.1, encS p.2])] = some (.dct (kvS ps)) := by
  have e : (ps.map fun p => Dv.tup [.str p.1, encS p.2]) = (kvS ps).map itemD := by unfold kvS; rw [List.map_map]; rfl
  rw [e]
  exact bDict_items (kvS_nd nd)
theorem bDict_line {ps : List (Str × Int)} (nd : (ps.map (·.1)).Nodup) : bDict [.lst (ps.map fun p => .tup [.str p.1, .int p.2])] = some (.dct (kvL ps)) := by
  have e : (ps.map fun p => Dv.tup [.str p.1, .int p.2]) = (kvL ps).map itemD := by unfold kvL; rw [List.map_map]; rfl
  rw [e]
  exact bDict_items (kvL_nd nd)
theorem skeys_line (ks : List (Str × Int)) : skeys (kvL ks) = some (ks.map (·.1)) := by
  induction ks with
  | nil => rfl
  | cons p es ih => show skeys ((.inr p.1, .int p.2) :: kvL es) = _; unfold skeys; rw [ih]; rfl
theorem bSort_line {ks : List (Str × Int)} (hk : LineOk ks) : bSort [.dct (kvL ks)] = some (.lst ((srt leS (ks.map (·.1))).map Dv.str)) := by
  have := hk.len2
  unfold bSort
  simp only [skeys_line, List.length_map]
  rw [if_pos (by omega)]
theorem srt_len_line {ks : List (Str × Int)} (hk : LineOk ks) : (srt leS (ks.map (·.1))).length ≤ 40 := by rw [(srt_perm leS _).length_eq, List.length_map]; exact hk.len2
theorem srt_nd {ks : List (Str × Int)} (hk : LineOk ks) : (srt leS (ks.map (·.1))).Nodup := (srt_perm leS _).nodup_iff.mpr hk.ndn
/-- the names in their order, all silent -/
def noneE (ks : List (Str × Int)) : List (Str × Span) := (srt leS (ks.map (·.1))).map fun z => (z, none)
theorem noneE_keys (ks : List (Str × Int)) : (noneE ks).map (·.1) = srt leS (ks.map (·.1)) := by unfold noneE; rw [List.map_map]; exact List.map_id' _
theorem noneE_nd {ks : List (Str × Int)} (hk : LineOk ks) : ((noneE ks).map (·.1)).Nodup := by rw [noneE_keys]; exact srt_nd hk
theorem noneE_ok {ks : List (Str × Int)} : StOk ks (noneE ks) := by
  refine ⟨by rw [noneE_keys]; exact srt_perm leS _, fun p hp => ?_⟩
  obtain ⟨q, hq, rfl⟩ := List.mem_map.mp hp
  exact True.intro
/-! ### operators at work -/
theorem eq_ii (a b : Int) : oEqX (.int a) (.int b) = some (.bl (decide (a = b))) := rfl
theorem ne_ii (a b : Int) : oNeX (.int a) (.int b) = some (.bl (!decide (a = b))) := rfl
theorem eq_ss (a b : Str) : oEqX (.str a) (.str b) = some (.bl (decide (a = b))) := rfl
theorem ne_ss (a b : Str) : oNeX (.str a) (.str b) = some (.bl (!decide (a = b))) := rfl
theorem oMul_ok {a b : Int} (ha : a.natAbs < 2 ^ 250) (hb : b.natAbs < 2 ^ 250) : oMul (.int a) (.int b) = some (.int (a * b)) := if_pos ⟨Nat.lt_trans (log_small ha) (by decide), Nat.lt_trans (log_small hb) (by decide)⟩
theorem oMul_big {a b : Int} (ha : a.natAbs.log2 < 20000) (hb : b.natAbs.log2 < 20000) : oMul (.int a) (.int b) = some (.int (a * b)) := if_pos ⟨ha, hb⟩
theorem oFdv_ok {a b : Int} (h : 0 < b) (hb : b < 2 ^ 250) : oFdv (.int a) (.int b) = some (.int (a / b)) := by
  have e : ((2 ^ 250 : Nat) : Int) = 2 ^ 250 := by simp
  have h2 : b.natAbs < 2 ^ 250 := by omega
  exact if_pos ⟨h, log_small h2⟩
theorem oMod_ok {a b : Int} (h : 0 < b) : oMod (.int a) (.int b) = some (.int (a % b)) := if_pos h
theorem oPow_ok {a b : Int} (h : 0 ≤ b ∧ b ≤ 100 ∧ a.natAbs < 1000) : oPow (.int a) (.int b) = some (.int (a ^ b.toNat)) := if_pos h
theorem p64 : oPow (.int 2) (.int 64) = some (.int 18446744073709551616) := (oPow_ok (by decide)).trans (congrArg (fun i => some (Dv.int i)) (by decide +kernel))
theorem p63 : oPow (.int 2) (.int 63) = some (.int 9223372036854775808) := (oPow_ok (by decide)).trans (congrArg (fun i => some (Dv.int i)) (by decide +kernel))
theorem p41 : oPow (.int 2) (.int 41) = some (.int 2199023255552) := (oPow_ok (by decide)).trans (congrArg (fun i => some (Dv.int i)) (by decide +kernel))
theorem p2930 : oPow (.int 29) (.int 27) = some (.int 3053134545970524535745336759489912159909) := (oPow_ok (by decide)).trans (congrArg (fun i => some (Dv.int i)) (by decide +kernel))
theorem p18 : oPow (.int 10) (.int 18) = some (.int 1000000000000000000) := (oPow_ok (by decide)).trans (congrArg (fun i => some (Dv.int i)) (by decide +kernel))
theorem p30 : oPow (.int 10) (.int 30) = some (.int 1000000000000000000000000000000) := (oPow_ok (by decide)).trans (congrArg (fun i => some (Dv.int i)) (by decide +kernel))
theorem p28 : oPow (.int 10) (.int 28) = some (.int 10000000000000000000000000000) := (oPow_ok (by decide)).trans (congrArg (fun i => some (Dv.int i)) (by decide +kernel))
theorem m6463 : oMul (.int 18446744073709551616) (.int 9223372036854775808) = some (.int 170141183460469231731687303715884105728) := by rw [oMul_ok (by decide) (by decide)]; rfl
theorem at0 (x : Dv) (l : List Dv) : atI (x :: l) 0 = some x := at_nat (k := 0) rfl
theorem at1 (x y : Dv) (l : List Dv) : atI (x :: y :: l) 1 = some y := at_nat (k := 1) rfl
theorem at2 (x y z : Dv) (l : List Dv) : atI (x :: y :: z :: l) 2 = some z := at_nat (k := 2) rfl
theorem at3 (x y z u : Dv) (l : List Dv) : atI (x :: y :: z :: u :: l) 3 = some u := at_nat (k := 3) rfl
theorem ixN_lt {n k : Nat} (h : k < n) : ixN n (k : Int) = some k := Evl.ixN_nat h
theorem ix40 : ixN 4 0 = some 0 := rfl
theorem ix42 : ixN 4 2 = some 2 := rfl
theorem ix43 : ixN 4 3 = some 3 := rfl
theorem cutD_drop (xs : List Dv) (k : Nat) : cutD xs (some (k : Int)) none = xs.drop k := by
  unfold cutD
  rw [HT.sIx_none, HT.sIx_nat]
  by_cases h : k ≤ xs.length
  · rw [Nat.min_eq_left h, List.take_of_length_le (by simp)]
  · rw [Nat.min_eq_right (by omega), List.drop_of_length_le (Nat.le_refl _), List.drop_of_length_le (by omega), List.take_nil]
theorem cutD_take (xs : List Dv) (k : Nat) : cutD xs none (some (k : Int)) = xs.take k := by
  unfold cutD
  rw [HT.sIx_none, HT.sIx_nat]
  show List.take (min k xs.length - 0) (xs.drop 0) = _
  rw [List.drop_zero, Nat.sub_zero]
  by_cases h : k ≤ xs.length
  · rw [Nat.min_eq_left h]
  · rw [Nat.min_eq_right (by omega), List.take_of_length_le (Nat.le_refl _), List.take_of_length_le (by omega)]
theorem toPDs_ints (ns : List Int) : toPDs (ns.map Dv.int) = dI ns := by rw [toPDs_map, List.map_map]; unfold dI; exact List.map_congr_left fun _ _ => by rw [Function.comp, toPD]
theorem shp_ints (ns : List Int) : shp (.lst (ns.map Dv.int)) = true := by unfold shp; rw [toPD, toPDs_ints]; exact shI ns
theorem ne_ints (ns : List Int) : oNeX (.lst (ns.map Dv.int)) (.lst []) = some (.bl (!ns.isEmpty)) := by
  have h1 := shp_ints ns
  have h2 : shp (.lst []) = true := shp_ints []
  have e : eqBX (.lst (ns.map Dv.int)) (.lst []) = some (PyData.eqv (toPD (.lst (ns.map Dv.int))) (toPD (.lst []))) := by
    show (if shp (.lst (ns.map Dv.int)) && shp (.lst []) then some _ else none) = _
    rw [h1, h2]; rfl
  unfold oNeX
  rw [e]
  show some (Dv.bl (!PyData.eqv _ _)) = _
  rw [toPD, toPDs_ints, toPD, toPDs]
  cases ns <;> rfl
end FD
namespace FD
open PySem PySem.Spec PyProof.Rows L2 FL
/-- a comprehension whose turns change what they read -/
theorem lc_inv {fb : Dv → Env → Option Env} {fe : Env → Option (Rv × Env)} {vs : List Nat} : ∀ {ds : List Dv} {δ : Env} (I : Nat → List Dv → Env → Prop), I 0 [] δ →
    (∀ i d ys δ, ds[i]? = some d → I i ys δ → ∃ δ1 y δ2, fb d (wipeD δ vs) = some δ1 ∧ fe δ1 = some (.dv y, δ2) ∧ I (i + 1) (ys ++ [y]) δ2) → ∃ ys δ', lcLoop fb tstYes fe vs ds δ = some (ys, δ') ∧ I ds.length ys δ'
  | [], δ, I, h, _ => ⟨[], δ, rfl, h⟩
  | d :: ds, δ, I, h, step => by
    obtain ⟨δ1, y, δ2, e1, e2, h2⟩ := step 0 d [] δ rfl h
    obtain ⟨ys, δ', e3, h3⟩ := lc_inv (ds := ds) (δ := δ2) (fun i ys δ => I (i + 1) (y :: ys) δ) h2 fun i d ys δ e q => step (i + 1) d (y :: ys) δ e q
    refine ⟨y :: ys, δ', ?_, h3⟩
    unfold lcLoop
    rw [e1]
    simp only [tstYes, e2, e3]
theorem oLc_inv {fi : Env → Option (List Dv × Env)} {fb : Dv → Env → Option Env} {fe : Env → Option (Rv × Env)} {vs : List Nat} {δ δ1 : Env} {ds : List Dv} (I : Nat → List Dv → Env → Prop) (h1 : fi δ = some (ds, δ1)) (hl : ds.length ≤ 100000) (h0 : I 0 [] δ1)
    (step : ∀ i d ys δ, ds[i]? = some d → I i ys δ → ∃ δ1 y δ2, fb d (wipeD δ vs) = some δ1 ∧ fe δ1 = some (.dv y, δ2) ∧ I (i + 1) (ys ++ [y]) δ2) : ∃ ys δ', oLc fi fb tstYes fe vs δ = some (.lst ys, wipeD δ' vs) ∧ I ds.length ys δ' := by
  obtain ⟨ys, δ', e, h⟩ := lc_inv (vs := vs) I h0 step
  refine ⟨ys, δ', ?_, h⟩
  unfold oLc
  rw [h1]
  simp only [if_pos hl, e]
theorem fLoop_inv2 {fb : Dv → Env → Option Env} {fs : Fs} {ds : List Dv} {δ : Env} (I : Nat → Env → Prop) (h0 : I 0 δ)
    (step : ∀ i d δ, ds[i]? = some d → I i δ → ∃ δ1, fb d δ = some δ1 ∧ ∃ δ2, fs δ1 = some (.nx, δ2) ∧ I (i + 1) δ2) : ∃ δ', fLoop fb fs ds δ = some (.nx, δ') ∧ I ds.length δ' :=
  fLoop_inv I h0 fun i d δ h q => by
    obtain ⟨δ1, e1, δ2, e2, h2⟩ := step i d δ h q
    exact ⟨δ1, δ2, e1, e2, h2⟩
theorem sSeq_ex {f g : Fs} {δ : Env} {Q : Env → Prop} (P : Env → Prop) (h1 : ∃ δ1, f δ = some (.nx, δ1) ∧ P δ1) (h2 : ∀ δ1, P δ1 → ∃ δ2, g δ1 = some (.nx, δ2) ∧ Q δ2) : ∃ δ2, sSeq f g δ = some (.nx, δ2) ∧ Q δ2 := by
  obtain ⟨δ1, e1, p⟩ := h1
  obtain ⟨δ2, e2, q⟩ := h2 δ1 p
  refine ⟨δ2, ?_, q⟩
  unfold sSeq
  rw [e1]
  exact e2
theorem at_last {α : Type} {l : List α} {x : α} : atI (l ++ [x]) (-1) = some x := by
  unfold atI ixN
  rw [if_neg (by omega), if_pos (by rw [List.length_append]; simp; omega)]
  rw [show (-1 + ((l ++ [x]).length : Int)).toNat = l.length by rw [List.length_append]; simp; omega]
  show (l ++ [x])[l.length]? = some x
  simp
theorem toPDs_strs (ns : List Str) : toPDs (ns.map Dv.str) = dS ns := by rw [toPDs_map, List.map_map]; unfold dS; exact List.map_congr_left fun _ _ => by rw [Function.comp, toPD]
theorem shp_strs {ns : List Str} (h : ∀ z ∈ ns, nmStr z = true) : shp (.lst (ns.map Dv.str)) = true := by unfold shp; rw [toPD, toPDs_strs]; exact shS ns h
theorem toPDs_frs (ps : List (Str × Str)) : toPDs (ps.map encF) = ps.map tS := by rw [toPDs_map, List.map_map]; exact List.map_congr_left fun _ _ => by rw [Function.comp]; unfold encF; rw [toPD, toPDs, toPD, toPDs, toPD, toPDs]; rfl
theorem shp_frs {ps : List (Str × Str)} (h : ∀ p ∈ ps, nmStr p.1 = true ∧ nmStr p.2 = true) : shp (encB ps) = true := by unfold encB shp; rw [toPD, toPDs_frs]; exact shT ps h
theorem ne_nilG {ds : List Dv} (h1 : shp (.lst ds) = true) : oNeX (.lst ds) (.lst []) = some (.bl (!ds.isEmpty)) := by
  have h2 : shp (.lst []) = true := shp_ints []
  have e : eqBX (.lst ds) (.lst []) = some (PyData.eqv (toPD (.lst ds)) (toPD (.lst []))) := by
    show (if shp (.lst ds) && shp (.lst []) then some _ else none) = _
    rw [h1, h2]; rfl
  unfold oNeX
  rw [e]
  show some (Dv.bl (!PyData.eqv _ _)) = _
  rw [toPD, toPD, toPDs]
  cases ds <;> rfl
-- the names that a law draws from
def poolA : List Str := (Str.ofString "abcdefghijklmnopqrstuvwxyz").cps.toList.map fun c => ⟨#[c]⟩
def poolB : List Str := ["ab", "ba", "zz", "abcdefgh", "all", "flood"]
def poolC : List Str := (Str.ofString "abcdefghij").cps.toList.map fun c => Str.ofString "h" ++ ⟨#[c]⟩
def POOL : List Str := poolA ++ poolB ++ poolC
theorem pool_nd : POOL.Nodup := by decide +kernel
theorem pool_nm : ∀ z ∈ POOL, nmStr z = true := by decide +kernel
theorem pool_len : POOL.length = 42 := by decide +kernel
def stepOf (k : Nat) : Int := ([1, 5, 4 * 10 ^ (28 : Int).toNat, 6] : List Int).getD k 1
theorem step_at : ∀ k : Nat, k < 4 → atI [Dv.int 1, .int 5, .int (4 * 10 ^ (28 : Int).toNat), .int 6] (k : Int) = some (.int (stepOf k)) ∧ 0 < stepOf k ∧ stepOf k < 2 ^ 100
  | 0, _ => ⟨rfl, by decide +kernel, by decide +kernel⟩
  | 1, _ => ⟨rfl, by decide +kernel, by decide +kernel⟩
  | 2, _ => ⟨rfl, by decide +kernel, by decide +kernel⟩
  | 3, _ => ⟨rfl, by decide +kernel, by decide +kernel⟩
theorem place_at (d : Int) (h0 : 0 ≤ d) (h1 : d < 50) : ∀ k : Nat, k < 4 → ∃ p, atI [Dv.int 0, .int (0 - d), .int (0 - 10 ^ (30 : Int).toNat), .int (10 ^ (30 : Int).toNat - 240)] (k : Int) = some (.int p) ∧ -(10 ^ 30) ≤ p ∧ p + 39 * stepOf k ≤ 10 ^ 30
  | 0, _ => ⟨_, rfl, by decide +kernel, by decide +kernel⟩
  | 1, _ => ⟨_, rfl, by omega, by rw [show stepOf 1 = 5 from rfl]; omega⟩
  | 2, _ => ⟨_, rfl, by decide +kernel, by decide +kernel⟩
  | 3, _ => ⟨_, rfl, by decide +kernel, by decide +kernel⟩
theorem pow30 : oPow (.int 10) (.int 30) = some (.int (10 ^ (30 : Int).toNat)) := by rfl
theorem pow28 : oPow (.int 10) (.int 28) = some (.int (10 ^ (28 : Int).toNat)) := by rfl
theorem mul428 : oMul (.int 4) (.int (10 ^ (28 : Int).toNat)) = some (.int (4 * 10 ^ (28 : Int).toNat)) := oMul_ok (by decide) (by decide +kernel)
end FD
namespace FD
open PySem PySem.Spec PyProof.Rows L2 FL
/-! ### equal with itself -/
theorem eqD_refl {d : Dv} (h : shp d = true) : PyData.eqv (toPD d) (toPD d) = true := by
  unfold shp SeqAt.shaped at h
  rw [Bool.and_eq_true] at h
  exact SeqAt.eqv_refl _ h.1
theorem eqL_refl {ds : List Dv} (h : shp (.lst ds) = true) : oEqX (.lst ds) (.lst ds) = some (.bl true) := by
  have e : eqBX (.lst ds) (.lst ds) = some (PyData.eqv (toPD (.lst ds)) (toPD (.lst ds))) := by
    show (if shp (.lst ds) && shp (.lst ds) then some _ else none) = _
    rw [h]; rfl
  unfold oEqX
  rw [e, eqD_refl h]
theorem neL_refl {ds : List Dv} (h : shp (.lst ds) = true) : oNeX (.lst ds) (.lst ds) = some (.bl false) := by
  have e : eqBX (.lst ds) (.lst ds) = some (PyData.eqv (toPD (.lst ds)) (toPD (.lst ds))) := by
    show (if shp (.lst ds) && shp (.lst ds) then some _ else none) = _
    rw [h]; rfl
  unfold oNeX
  rw [e, eqD_refl h]; rfl
theorem nm_all : nmStr "all" = true := by decide +kernel
theorem nm_direct : nmStr "direct" = true := by decide +kernel
theorem nm_flood : nmStr "flood" = true := by decide +kernel
theorem nm_kind (s : Span) (b : Int) : nmStr (kindS s b) = true := by
  rcases s with _ | s
  · exact nm_all
  · unfold kindS
    by_cases h : inSpan (some s) b = true
    · simp only [if_pos h]; exact nm_direct
    · simp only [if_neg h]; exact nm_flood
theorem canE (s : Span) : (toPD (encS s)).canLay0 = true := by rcases s with _ | ⟨_ | l, _ | h⟩ <;> rfl
theorem shp_enc (s : Span) : shp (encS s) = true := by rcases s with _ | ⟨_ | l, _ | h⟩ <;> rfl
theorem shp_kr {k : Str} (hk : nmStr k = true) (s : Span) : shp (.lst [.str k, encS s]) = true := by
  have h1 := shp_strs (ns := [k]) fun z hz => by rw [List.mem_singleton.mp hz]; exact hk
  unfold shp SeqAt.shaped at h1 ⊢
  rw [Bool.and_eq_true] at h1 ⊢
  have h2 : ((PyData.str k).canLay0 && true) = true := h1.1
  rw [Bool.and_true] at h2
  refine ⟨?_, ?_⟩
  · show ((PyData.str k).canLay0 && ((toPD (encS s)).canLay0 && true)) = true
    rw [h2, canE]; rfl
  · rcases s with _ | ⟨_ | l, _ | h⟩ <;> rfl
theorem shpK_st (es : List (Str × Span)) : shpK (kvS es) = true := by
  unfold shpK
  rw [List.all_eq_true]
  intro p hp
  obtain ⟨e, he, rfl⟩ := List.mem_map.mp hp
  exact shp_enc e.2
theorem dEq_st {A B : List (Str × Span)} (hl : A.length = B.length) (h : ∀ p ∈ A, lookK (kvS B) (.inr p.1) = some (encS p.2)) : dEqB (kvS A) (kvS B) = true := by
  unfold dEqB
  rw [Bool.and_eq_true]
  refine ⟨decide_eq_true (by rw [len_kvS, len_kvS, hl]), List.all_eq_true.mpr fun p hp => ?_⟩
  obtain ⟨e, he, rfl⟩ := List.mem_map.mp hp
  rw [h e he]
  exact eqD_refl (shp_enc e.2)
theorem eq_st {A B : List (Str × Span)} (hl : A.length = B.length) (h : ∀ p ∈ A, lookK (kvS B) (.inr p.1) = some (encS p.2)) : oEqX (.dct (kvS A)) (.dct (kvS B)) = some (.bl true) := by
  have e : eqBX (.dct (kvS A)) (.dct (kvS B)) = some (dEqB (kvS A) (kvS B)) := by
    show (if shpK (kvS A) && shpK (kvS B) then some _ else none) = _
    rw [shpK_st, shpK_st]; rfl
  unfold oEqX
  rw [e, dEq_st hl h]
theorem ne_st {A B : List (Str × Span)} (hl : A.length = B.length) (h : ∀ p ∈ A, lookK (kvS B) (.inr p.1) = some (encS p.2)) : oNeX (.dct (kvS A)) (.dct (kvS B)) = some (.bl false) := by
  have e : eqBX (.dct (kvS A)) (.dct (kvS B)) = some (dEqB (kvS A) (kvS B)) := by
    show (if shpK (kvS A) && shpK (kvS B) then some _ else none) = _
    rw [shpK_st, shpK_st]; rfl
  unfold oNeX
  rw [e, dEq_st hl h]; rfl
/-! ### the items of the dicts in another order -/
theorem StOk.rev {ks : List (Str × Int)} {es : List (Str × Span)} (h : StOk ks es) : StOk ks es.reverse :=
  ⟨by rw [List.map_reverse]; exact (List.reverse_perm _).trans h.pm, fun p hp => h.ok p (List.mem_reverse.mp hp)⟩
theorem _root_.FL.LineOk.rev {ks : List (Str × Int)} (h : LineOk ks) : LineOk ks.reverse :=
  ⟨by rw [List.length_reverse]; exact h.len1, by rw [List.length_reverse]; exact h.len2, fun p hp => h.nm p (List.mem_reverse.mp hp), fun p hp => h.ps p (List.mem_reverse.mp hp), by rw [List.map_reverse]; exact (List.reverse_perm _).nodup_iff.mpr h.ndn, by rw [List.map_reverse]; exact (List.reverse_perm _).nodup_iff.mpr h.ndp⟩
theorem kvL_rev (ks : List (Str × Int)) : (kvL ks).reverse = kvL ks.reverse := by unfold kvL; rw [List.map_reverse]
theorem kvS_rev (es : List (Str × Span)) : (kvS es).reverse = kvS es.reverse := by unfold kvS; rw [List.map_reverse]
theorem posOf_rev {ks : List (Str × Int)} (hk : LineOk ks) {z : Str} (hz : z ∈ ks.map (·.1)) : posOf ks.reverse z = posOf ks z :=
  posOf_of (List.mem_reverse.mpr (posOf_in hz)) hk.rev.ndn
theorem spOf_rev {ks : List (Str × Int)} {es : List (Str × Span)} (hk : LineOk ks) (h : StOk ks es) {z : Str} (hz : z ∈ ks.map (·.1)) : spOf es.reverse z = spOf es z := by
  have hm := (spOf_look hk h hz).2
  exact spOf_in (f := (z, spOf es z)) (h.rev.nd hk) (List.mem_reverse.mpr hm)
theorem spanOk_rev {ks : List (Str × Int)} {b : Int} {s : Span} (h : spanOk ks b s) : spanOk ks.reverse b s := by
  rcases s with _ | ⟨l, u⟩
  · exact True.intro
  · exact ⟨fun i e => ⟨by rw [List.map_reverse]; exact List.mem_reverse.mpr (h.1 i e).1, (h.1 i e).2⟩, fun i e => ⟨by rw [List.map_reverse]; exact List.mem_reverse.mpr (h.2 i e).1, (h.2 i e).2⟩⟩
theorem StOk.revL {ks : List (Str × Int)} {es : List (Str × Span)} (hk : LineOk ks) (h : StOk ks es) : StOk ks.reverse es := by
  refine ⟨by rw [List.map_reverse]; exact h.pm.trans (List.reverse_perm _).symm, fun p hp => ?_⟩
  have hz : p.1 ∈ ks.map (·.1) := h.pm.mem_iff.mp (List.mem_map.mpr ⟨p, hp, rfl⟩)
  rw [posOf_rev hk hz]
  exact spanOk_rev (h.ok p hp)
theorem FrOk.revL {ks : List (Str × Int)} {fs : List (Str × Str)} (h : FrOk ks fs) : FrOk ks.reverse fs :=
  ⟨h.len, fun p hp => by rw [List.map_reverse]; exact ⟨List.mem_reverse.mpr (h.ok p hp).1, List.mem_reverse.mpr (h.ok p hp).2.1, (h.ok p hp).2.2⟩⟩
theorem setE_rev (es : List (Str × Span)) (z : Str) (s : Span) : setE es.reverse z s = (setE es z s).reverse := by unfold setE; rw [List.map_reverse]
theorem sendE_rev {ks : List (Str × Int)} {es : List (Str × Span)} (hk : LineOk ks) (h : StOk ks es) {p : Str × Str} (h1 : p.1 ∈ ks.map (·.1)) (h2 : p.2 ∈ ks.map (·.1)) : sendE ks.reverse es.reverse p = (sendE ks es p).reverse := by
  unfold sendE
  rw [setE_rev, spOf_rev hk h h1, spOf_rev hk h h2, posOf_rev hk h1, posOf_rev hk h2]
theorem runE_rev {ks : List (Str × Int)} (hk : LineOk ks) : ∀ {fs : List (Str × Str)} {es : List (Str × Span)}, StOk ks es → (∀ p ∈ fs, p.1 ∈ ks.map (·.1) ∧ p.2 ∈ ks.map (·.1) ∧ p.1 ≠ p.2) → runE ks.reverse es.reverse fs = (runE ks es fs).reverse
  | [], es, _, _ => rfl
  | q :: fs, es, h, hf => by
    obtain ⟨h1, h2, _⟩ := hf q List.mem_cons_self
    show runE ks.reverse (sendE ks.reverse es.reverse q) fs = (runE ks (sendE ks es q) fs).reverse
    rw [sendE_rev hk h h1 h2]
    exact runE_rev hk (sendE_ok hk h h1 h2) fun p hp => hf p (List.mem_cons_of_mem _ hp)
theorem runE_keys {ks : List (Str × Int)} : ∀ {fs : List (Str × Str)} {es : List (Str × Span)}, (runE ks es fs).map (·.1) = es.map (·.1)
  | [], es => rfl
  | q :: fs, es => by
    show (runE ks (sendE ks es q) fs).map (·.1) = _
    rw [runE_keys]; unfold sendE; exact setE_keys ..
theorem sortE_id {es : List (Str × Span)} {ns : List Str} (h : es.map (·.1) = srt leS ns) (nd : (es.map (·.1)).Nodup) : sortE es = es := by
  unfold sortE
  have e : srt leS (es.map (·.1)) = es.map (·.1) := (srt_is totS (List.Perm.refl _) (by rw [h]; exact srt_pw totS ns)).symm
  rw [e, List.map_map]
  conv => rhs; rw [← List.map_id es]
  refine List.map_congr_left fun p hp => ?_
  show (p.1, spOf es p.1) = p
  rw [spOf_in nd hp]
theorem sortE_mem {ks : List (Str × Int)} {es : List (Str × Span)} (hk : LineOk ks) (h : StOk ks es) {p : Str × Span} (hp : p ∈ sortE es) : p.1 ∈ ks.map (·.1) ∧ p.2 = spOf es p.1 := by
  obtain ⟨z, hz, rfl⟩ := List.mem_map.mp hp
  exact ⟨h.pm.mem_iff.mp ((srt_perm leS _).mem_iff.mp hz), rfl⟩
theorem sortE_len {ks : List (Str × Int)} {es : List (Str × Span)} (h : StOk ks es) : (sortE es).length = ks.length := by
  unfold sortE
  rw [List.length_map, (srt_perm leS _).length_eq, List.length_map]; exact h.len
/-- the same interval of each host -/
def SpEq (ks : List (Str × Int)) (A B : List (Str × Span)) : Prop := ∀ z ∈ ks.map (·.1), spOf A z = spOf B z
theorem spOf_set {ks : List (Str × Int)} {es : List (Str × Span)} (hk : LineOk ks) (h : StOk ks es) {z y : Str} {s : Span} (hz : z ∈ ks.map (·.1)) (hy : y ∈ ks.map (·.1)) : spOf (setE es y s) z = if z = y then s else spOf es z := by
  have nd : ((setE es y s).map (·.1)).Nodup := by rw [setE_keys]; exact h.nd hk
  have hm := (spOf_look hk h hz).2
  by_cases e : z = y
  · subst e
    rw [if_pos rfl]
    exact spOf_in (f := (z, s)) nd (List.mem_map.mpr ⟨_, hm, if_pos rfl⟩)
  · rw [if_neg e]
    exact spOf_in (f := (z, spOf es z)) nd (List.mem_map.mpr ⟨_, hm, if_neg e⟩)
theorem SpEq.send {ks : List (Str × Int)} {A B : List (Str × Span)} (hk : LineOk ks) (ha : StOk ks A) (hb : StOk ks B) (h : SpEq ks A B) {p : Str × Str} (h1 : p.1 ∈ ks.map (·.1)) (h2 : p.2 ∈ ks.map (·.1)) : SpEq ks (sendE ks A p) (sendE ks B p) := by
  intro z hz
  unfold sendE
  rw [spOf_set hk ha hz h1, spOf_set hk hb hz h1, h _ h1, h _ h2, h _ hz]
theorem SpEq.run {ks : List (Str × Int)} (hk : LineOk ks) : ∀ {fs : List (Str × Str)} {A B : List (Str × Span)}, StOk ks A → StOk ks B → SpEq ks A B → (∀ p ∈ fs, p.1 ∈ ks.map (·.1) ∧ p.2 ∈ ks.map (·.1) ∧ p.1 ≠ p.2) → SpEq ks (runE ks A fs) (runE ks B fs) ∧ sentE ks A fs = sentE ks B fs
  | [], _, _, _, _, h, _ => ⟨h, rfl⟩
  | q :: fs, A, B, ha, hb, h, hf => by
    obtain ⟨h1, h2, _⟩ := hf q List.mem_cons_self
    obtain ⟨r1, r2⟩ := SpEq.run hk (fs := fs) (sendE_ok hk ha h1 h2) (sendE_ok hk hb h1 h2) (SpEq.send hk ha hb h h1 h2) fun p hp => hf p (List.mem_cons_of_mem _ hp)
    refine ⟨r1, ?_⟩
    show (kindE ks A q, reachE ks A q) :: sentE ks (sendE ks A q) fs = (kindE ks B q, reachE ks B q) :: sentE ks (sendE ks B q) fs
    rw [r2]
    unfold kindE reachE
    rw [h _ h2]
theorem SpEq.sort {ks : List (Str × Int)} {A B : List (Str × Span)} (hk : LineOk ks) (ha : StOk ks A) (hb : StOk ks B) (h : SpEq ks A B) : sortE A = sortE B := by
  unfold sortE
  have e : srt leS (A.map (·.1)) = srt leS (B.map (·.1)) := srt_is totS ((srt_perm leS _).trans (ha.pm.trans hb.pm.symm)) (srt_pw totS _)
  rw [e]
  refine List.map_congr_left fun z hz => ?_
  rw [h z (hb.pm.mem_iff.mp ((srt_perm leS _).mem_iff.mp hz))]
/-- the state of the turned dicts is the same state -/
theorem known_turned {ks : List (Str × Int)} {es es0 : List (Str × Span)} {fs : List (Str × Str)} (hk : LineOk ks) (h : StOk ks es) (h0 : StOk ks es0) (q : SpEq ks es0 es) (hf : FrOk ks fs) :
    oNeX (.dct (kvS (sortE (runE ks.reverse es0.reverse fs)))) (.dct (kvS (runE ks es fs))) = some (.bl false) := by
  have ok := runE_ok hk (fs := fs) h hf.ok
  have ok0 := runE_ok hk (fs := fs) h0 hf.ok
  have qr := (SpEq.run hk h0 h q hf.ok).1
  rw [runE_rev hk h0 hf.ok]
  refine ne_st ?_ fun p hp => ?_
  · rw [sortE_len ok0.rev, ok.len]
  · obtain ⟨h1, h2⟩ := sortE_mem hk ok0.rev hp
    rw [h2, spOf_rev hk ok0 h1, qr _ h1]
    exact (spOf_look hk ok h1).1
theorem silE_rev (ks : List (Str × Int)) : silE ks.reverse = (silE ks).reverse := by unfold silE; rw [List.map_reverse]
theorem spOf_sil {ks : List (Str × Int)} (hk : LineOk ks) {z : Str} (hz : z ∈ ks.map (·.1)) : spOf (silE ks) z = none := by
  obtain ⟨p, hp, rfl⟩ := List.mem_map.mp hz
  exact spOf_in (f := (p.1, none)) (silE_ok.nd hk) (List.mem_map.mpr ⟨p, hp, rfl⟩)
theorem key_look {k : Key} : ∀ {ds : List (Key × Dv)}, k ∈ ds.map (·.1) → ∃ d, lookK ds k = some d
  | (k', d) :: ds, h => by
    rw [lookK_cons]
    by_cases e : k' = k
    · exact ⟨d, if_pos e⟩
    · rw [if_neg e]
      rcases List.mem_cons.mp h with h | h
      · exact absurd h.symm e
      · exact key_look h
theorem put_keys {ds : List (Key × Dv)} {k j : Key} {e : Dv} (h : k ∈ ds.map (·.1)) : k ∈ (putD ds j e).map (·.1) := by
  unfold putD
  split
  · obtain ⟨p, hp, rfl⟩ := List.mem_map.mp h
    refine List.mem_map.mpr ⟨_, List.mem_map.mpr ⟨p, hp, rfl⟩, ?_⟩
    split
    · rename_i q; exact q.symm
    · rfl
  · rw [List.map_append]
    exact List.mem_append_left _ h
theorem sil_none {ks : List (Str × Int)} (hk : LineOk ks) : SpEq ks (silE ks) (noneE ks) := fun z hz => by
  rw [spOf_sil hk hz]
  refine (spOf_in (f := (z, none)) (noneE_ok.nd hk) (List.mem_map.mpr ⟨z, (srt_perm leS _).mem_iff.mpr hz, rfl⟩)).symm
theorem SpEq.refl {ks : List (Str × Int)} (A : List (Str × Span)) : SpEq ks A A := fun _ _ => rfl
theorem _root_.FL.DOkV.more {ds : List (PyData × PyData)} {W W' k k' : Nat} (h : DOkV ds W k) (hw : W ≤ W') (hk : k ≤ k') : DOkV ds W' k' := ⟨h.ls, h.sh, Nat.le_trans h.wt hw, Nat.le_trans h.dp hk⟩
/-! ### what repr writes -/
theorem dok_int {ks : List (Str × Int)} (hk : LineOk ks) {i : Int} (h : i ∈ ks.map (·.2)) : DOk (.int i) 130 0 := by
  obtain ⟨p, hp, rfl⟩ := List.mem_map.mp h
  have := hk.ps p hp
  exact DOk.int (by omega) (by omega)
theorem dok_end {ks : List (Str × Int)} (hk : LineOk ks) {o : Option Int} (h : ∀ i, o = some i → i ∈ ks.map (·.2)) : DOk (toPD (encO o)) 130 0 := by
  rcases o with _ | i
  · exact DOk.non.more (by omega) (Nat.le_refl _)
  · exact dok_int hk (h i rfl)
theorem dok_span {ks : List (Str × Int)} (hk : LineOk ks) {b : Int} {s : Span} (h : spanOk ks b s) : DOk (toPD (encS s)) 262 1 := by
  rcases s with _ | ⟨l, u⟩
  · exact DOk.non.more (by omega) (by omega)
  · exact (DOk.tuple (DOkA.cons (dok_end hk fun i e => (h.1 i e).1) (DOkA.cons (dok_end hk fun i e => (h.2 i e).1) (DOkA.nil (k := 0))))).more (by omega) (Nat.le_refl _)
theorem dok_line {ks : List (Str × Int)} (hk : LineOk ks) : DOk (toPD (.dct (kvL ks))) 5600 1 := by
  have : ∀ ls : List (Str × Int), (∀ p ∈ ls, p ∈ ks) → DOkV (toPDk (kvL ls)) (ls.length * 140) 0 := by
    intro ls
    induction ls with
    | nil => exact fun _ => DOkV.nil.more (by omega) (Nat.le_refl _)
    | cons p ls ih =>
      intro h
      have h1 := ih fun q hq => h q (List.mem_cons_of_mem _ hq)
      have h2 := hk.nm p (h p List.mem_cons_self)
      exact (DOkV.cons (DOk.nm h2) (dok_int hk (List.mem_map.mpr ⟨p, h p List.mem_cons_self, rfl⟩)) h1).more (by rw [List.length_cons, Nat.succ_mul]; omega) (Nat.le_refl _)
  have l2 := hk.len2
  exact (DOk.dict (this ks fun p hp => hp)).more (by omega) (Nat.le_refl _)
theorem dok_st {ks : List (Str × Int)} {es : List (Str × Span)} (hk : LineOk ks) (h : StOk ks es) : DOk (toPD (.dct (kvS es))) 10880 2 := by
  have : ∀ ls : List (Str × Span), (∀ p ∈ ls, p ∈ es) → DOkV (toPDk (kvS ls)) (ls.length * 272) 1 := by
    intro ls
    induction ls with
    | nil => exact fun _ => DOkV.nil.more (by omega) (Nat.le_refl _)
    | cons p ls ih =>
      intro hl
      have h1 := ih fun q hq => hl q (List.mem_cons_of_mem _ hq)
      have hp := hl p List.mem_cons_self
      obtain ⟨r, hr, e⟩ := List.mem_map.mp (h.pm.mem_iff.mp (List.mem_map.mpr ⟨p, hp, rfl⟩))
      have h2 : nmStr p.1 = true := by rw [← e]; exact hk.nm r hr
      exact (DOkV.cons ((DOk.nm h2).more (Nat.le_refl _) (by omega)) (dok_span hk (h.ok p hp)) h1).more (by rw [List.length_cons, Nat.succ_mul]; omega) (Nat.le_refl _)
  have l2 := hk.len2
  have le := h.len
  exact (DOk.dict (this es fun p hp => hp)).more (by omega) (Nat.le_refl _)
theorem fr_nm {ks : List (Str × Int)} {fs : List (Str × Str)} (hk : LineOk ks) (h : FrOk ks fs) {p : Str × Str} (hp : p ∈ fs) : nmStr p.1 = true ∧ nmStr p.2 = true := by
  obtain ⟨q1, q2, _⟩ := h.ok p hp
  obtain ⟨r1, hr1, e1⟩ := List.mem_map.mp q1
  obtain ⟨r2, hr2, e2⟩ := List.mem_map.mp q2
  rw [← e1, ← e2]
  exact ⟨hk.nm _ hr1, hk.nm _ hr2⟩
theorem dok_frs {ks : List (Str × Int)} {fs : List (Str × Str)} (hk : LineOk ks) (h : FrOk ks fs) : DOk (toPD (encB fs)) 6000 2 := by
  have e : toPD (encB fs) = .list (fs.map tS) := by unfold encB; rw [toPD, toPDs_frs]
  rw [e]
  have := h.len
  refine (DOk.list (DOkA.all (w := 18) (k := 1) fun d hd => ?_)).more (by rw [List.length_map]; omega) (Nat.le_refl _)
  obtain ⟨p, hp, rfl⟩ := List.mem_map.mp hd
  obtain ⟨n1, n2⟩ := fr_nm hk h hp
  exact (DOk.tuple (DOkA.cons (DOk.nm n1) (DOkA.cons (DOk.nm n2) (DOkA.nil (k := 0))))).more (by omega) (Nat.le_refl _)
theorem plain_line (ks : List (Str × Int)) : plainD (.dct (kvL ks)) = true := by
  show plainK (kvL ks) = true
  induction ks with
  | nil => rfl
  | cons p ks ih => show (plainD (.int p.2) && plainK (kvL ks)) = true; rw [ih]; rfl
theorem plain_enc (s : Span) : plainD (encS s) = true := by rcases s with _ | ⟨_ | l, _ | h⟩ <;> rfl
theorem plain_st (es : List (Str × Span)) : plainD (.dct (kvS es)) = true := by
  show plainK (kvS es) = true
  induction es with
  | nil => rfl
  | cons p ks ih => show (plainD (encS p.2) && plainK (kvS ks)) = true; rw [ih, plain_enc]; rfl
theorem plain_frs (fs : List (Str × Str)) : plainD (encB fs) = true := by
  show plainA (fs.map encF) = true
  induction fs with
  | nil => rfl
  | cons p ks ih => show (plainD (encF p) && plainA (ks.map encF)) = true; rw [ih]; rfl
theorem shOk_of {d : Dv} {W k : Nat} (hp : plainD d = true) (h : DOk (toPD d) W k) (hw : W ≤ 399000) (hk : k ≤ 60) : shOk d = true := by
  have h1 := h.fits hw
  rw [sizeLine_eq] at h1
  unfold shOk
  rw [hp, h.sh, decide_eq_true (Nat.le_trans h.dp hk), decide_eq_true h1]; rfl
theorem repr_st {ks : List (Str × Int)} {es : List (Str × Span)} (hk : LineOk ks) (h : StOk ks es) : ∃ r, bReprX [.dct (kvS es)] = some (.str r) :=
  ⟨_, by unfold bReprX; simp only []; rw [if_pos (shOk_of (plain_st es) (dok_st hk h) (by decide) (by decide))]⟩
theorem repr_all {ks : List (Str × Int)} {es : List (Str × Span)} {fs : List (Str × Str)} (hk : LineOk ks) (h : StOk ks es) (hf : FrOk ks fs) : ∃ r, bReprX [.lst [.dct (kvL ks), encB fs, .dct (kvS es)]] = some (.str r) := by
  have hp : plainD (.lst [.dct (kvL ks), encB fs, .dct (kvS es)]) = true := by
    show (plainD (.dct (kvL ks)) && (plainD (encB fs) && (plainD (.dct (kvS es)) && true))) = true
    rw [plain_line, plain_frs, plain_st]; rfl
  have hd : DOk (toPD (.lst [.dct (kvL ks), encB fs, .dct (kvS es)])) 30000 3 := by
    rw [toPD, toPDs, toPDs, toPDs, toPDs]
    exact (DOk.list (DOkA.cons ((dok_line hk).more (Nat.le_refl _) (by omega)) (DOkA.cons (dok_frs hk hf) (DOkA.cons (dok_st hk h) (DOkA.nil (k := 2)))))).more (by omega) (Nat.le_refl _)
  exact ⟨_, by unfold bReprX; simp only []; rw [if_pos (shOk_of hp hd (by decide) (by decide))]⟩
theorem sentE_kinds {ks : List (Str × Int)} : ∀ {fs : List (Str × Str)} {es : List (Str × Span)}, ∀ z ∈ (sentE ks es fs).map (·.1), nmStr z = true
  | [], _, z, hz => by cases hz
  | q :: fs, es, z, hz => by
    have hz : z ∈ kindE ks es q :: (sentE ks (sendE ks es q) fs).map (·.1) := hz
    rcases List.mem_cons.mp hz with e | h
    · rw [e]; exact nm_kind _ _
    · exact sentE_kinds z h
theorem ne_kinds {ks : List (Str × Int)} {fs : List (Str × Str)} {es : List (Str × Span)} : oNeX (.lst ((sentE ks es fs).map fun x => .str x.1)) (.lst ((sentE ks es fs).map fun x => .str x.1)) = some (.bl false) := by
  have e : ((sentE ks es fs).map fun x => Dv.str x.1) = ((sentE ks es fs).map (·.1)).map Dv.str := by rw [List.map_map]; rfl
  rw [e]
  exact neL_refl (shp_strs sentE_kinds)
end FD
namespace FD
open PySem PySem.Spec PyProof.Rows L2 FL
/-! ### one interval within another -/
/-- the low end a does not stand behind the low end b -/
def loB : Option Int → Option Int → Bool
  | none, _ => true
  | some _, none => false
  | some a, some b => decide (a ≤ b)
/-- the high end a does not stand before the high end b -/
def hiB : Option Int → Option Int → Bool
  | none, _ => true
  | some _, none => false
  | some a, some b => decide (b ≤ a)
/-- s lies within u -/
def wi : Span → Span → Bool
  | none, _ => true
  | some _, none => false
  | some (l, h), some (l', h') => loB l' l && hiB h' h
theorem wi_refl (s : Span) : wi s s = true := by rcases s with _ | ⟨_ | l, _ | h⟩ <;> simp [wi, loB, hiB]
theorem wi_trans {s u v : Span} (h1 : wi s u = true) (h2 : wi u v = true) : wi s v = true := by
  rcases s with _ | ⟨_ | l, _ | h⟩ <;> rcases u with _ | ⟨_ | l', _ | h'⟩ <;> rcases v with _ | ⟨_ | l2, _ | h2⟩ <;> simp [wi, loB, hiB] at h1 h2 ⊢ <;> omega
theorem wi_join_l (s : Span) (r : Option Int × Option Int) : wi s (some (joinS s r)) = true := by
  obtain ⟨_ | rl, _ | rh⟩ := r <;> rcases s with _ | ⟨_ | l, _ | h⟩ <;> simp [wi, loB, hiB, joinS, joinO] <;> (repeat' constructor) <;> (try split) <;> omega
theorem wi_join_r (s : Span) (r : Option Int × Option Int) : wi (some r) (some (joinS s r)) = true := by
  obtain ⟨_ | rl, _ | rh⟩ := r <;> rcases s with _ | ⟨_ | l, _ | h⟩ <;> simp [wi, loB, hiB, joinS, joinO] <;> (repeat' constructor) <;> (try split) <;> omega
theorem join_id {s : Span} {r : Option Int × Option Int} (h : wi (some r) s = true) : some (joinS s r) = s := by
  obtain ⟨_ | rl, _ | rh⟩ := r <;> rcases s with _ | ⟨_ | l, _ | u⟩ <;> simp [wi, loB, hiB, joinS, joinO] at h ⊢ <;> omega
theorem wi_in {s u : Span} (h : wi s u = true) {p : Int} (hp : inSpan s p = true) : inSpan u p = true := by
  rcases s with _ | ⟨_ | l, _ | v⟩ <;> rcases u with _ | ⟨_ | l', _ | v'⟩ <;> simp [wi, loB, hiB, inSpan, lowOk, highOk] at h hp ⊢ <;> omega
theorem in_reach (s : Span) (b t : Int) : inSpan (some (reachS s b t)) b = true ∧ inSpan (some (reachS s b t)) t = true := by
  rcases s with _ | s
  · exact ⟨rfl, rfl⟩
  · unfold reachS
    by_cases q : inSpan (some s) b = true
    · simp only [if_pos q]
      constructor <;> simp [inSpan, lowOk, highOk] <;> (repeat' constructor) <;> (try split) <;> omega
    · simp only [if_neg q]
      by_cases r : b < t
      · simp only [if_pos r]
        constructor <;> simp [inSpan, lowOk, highOk] <;> omega
      · simp only [if_neg r]
        constructor <;> simp [inSpan, lowOk, highOk] <;> omega
/-- the more is known of the target, the less is reached -/
theorem reach_anti {s u : Span} (h : wi s u = true) (b t : Int) : wi (some (reachS u b t)) (some (reachS s b t)) = true := by
  rcases s with _ | s
  · show wi _ (some (none, none)) = true
    rcases reachS u b t with ⟨_ | l, _ | v⟩ <;> rfl
  · rcases u with _ | u
    · cases h
    · unfold reachS
      by_cases q : inSpan (some s) b = true
      · have q2 := wi_in h q
        simp only [if_pos q, if_pos q2]
        exact wi_refl _
      · by_cases q2 : inSpan (some u) b = true
        · simp only [if_neg q, if_pos q2]
          by_cases r : b < t
          · simp only [if_pos r]
            first | (simp [wi, loB, hiB]; done) | (simp [wi, loB, hiB]; split <;> omega)
          · simp only [if_neg r]
            first | (simp [wi, loB, hiB]; done) | (simp [wi, loB, hiB]; split <;> omega)
        · simp only [if_neg q, if_neg q2]
          by_cases r : b < t
          · simp only [if_pos r]; exact wi_refl _
          · simp only [if_neg r]; exact wi_refl _
theorem kind_anti {s u : Span} (h : wi s u = true) {b : Int} (hd : inSpan s b = true) : kindS u b = "direct" ∧ kindS s b = "direct" := by
  have h2 := wi_in h hd
  rcases s with _ | s
  · cases hd
  · rcases u with _ | u
    · cases h
    · unfold kindS
      simp only [if_pos hd, if_pos h2]
      exact ⟨trivial, trivial⟩
/-! ### states: one within another -/
def SpLe (ks : List (Str × Int)) (A B : List (Str × Span)) : Prop := ∀ z ∈ ks.map (·.1), wi (spOf A z) (spOf B z) = true
theorem SpLe.trans {ks : List (Str × Int)} {A B C : List (Str × Span)} (h1 : SpLe ks A B) (h2 : SpLe ks B C) : SpLe ks A C := fun z hz => wi_trans (h1 z hz) (h2 z hz)
theorem SpLe.send {ks : List (Str × Int)} {A : List (Str × Span)} (hk : LineOk ks) (ha : StOk ks A) {p : Str × Str} (h1 : p.1 ∈ ks.map (·.1)) : SpLe ks A (sendE ks A p) := by
  intro z hz
  unfold sendE
  rw [spOf_set hk ha hz h1]
  by_cases e : z = p.1
  · rw [if_pos e, e]; exact wi_join_l _ _
  · rw [if_neg e]; exact wi_refl _
abbrev FrIn (ks : List (Str × Int)) (fs : List (Str × Str)) : Prop := ∀ p ∈ fs, p.1 ∈ ks.map (·.1) ∧ p.2 ∈ ks.map (·.1) ∧ p.1 ≠ p.2
theorem SpLe.run {ks : List (Str × Int)} (hk : LineOk ks) : ∀ {fs : List (Str × Str)} {A : List (Str × Span)}, StOk ks A → FrIn ks fs → SpLe ks A (runE ks A fs)
  | [], A, _, _ => fun z _ => wi_refl _
  | q :: fs, A, ha, hf => by
    obtain ⟨h1, h2, _⟩ := hf q List.mem_cons_self
    exact (SpLe.send hk ha h1).trans (SpLe.run hk (sendE_ok hk ha h1 h2) fun p hp => hf p (List.mem_cons_of_mem _ hp))
/-- after the frames, the interval of each sender contains what its frame would reach now -/
theorem run_fix {ks : List (Str × Int)} (hk : LineOk ks) : ∀ {fs : List (Str × Str)} {A : List (Str × Span)}, StOk ks A → FrIn ks fs → ∀ p ∈ fs, wi (some (reachE ks (runE ks A fs) p)) (spOf (runE ks A fs) p.1) = true
  | q :: fs, A, ha, hf, p, hp => by
    obtain ⟨h1, h2, _⟩ := hf q List.mem_cons_self
    have hf' : FrIn ks fs := fun p hp => hf p (List.mem_cons_of_mem _ hp)
    have ok1 := sendE_ok hk ha h1 h2
    rcases List.mem_cons.mp hp with e | hp
    · subst e
      have g1 := SpLe.run hk ok1 hf'
      have g2 := (SpLe.send hk ha h1).trans g1
      have a1 : wi (some (reachE ks (runE ks A (p :: fs)) p)) (some (reachE ks A p)) = true := reach_anti (g2 p.2 h2) _ _
      have a2 : wi (some (reachE ks A p)) (spOf (sendE ks A p) p.1) = true := by
        unfold sendE
        rw [spOf_set hk ha h1 h1, if_pos rfl]
        exact wi_join_r _ _
      exact wi_trans a1 (wi_trans a2 (g1 p.1 h1))
    · exact run_fix hk ok1 hf' p hp
theorem setE_id {es : List (Str × Span)} {z : Str} (nd : (es.map (·.1)).Nodup) : setE es z (spOf es z) = es := by
  unfold setE
  conv => rhs; rw [← List.map_id es]
  refine List.map_congr_left fun p hp => ?_
  by_cases e : p.1 = z
  · rw [if_pos e]
    show (z, spOf es z) = p
    rw [← e, spOf_in nd hp]
  · rw [if_neg e]; rfl
theorem sendE_id {ks : List (Str × Int)} {A : List (Str × Span)} (hk : LineOk ks) (ha : StOk ks A) {p : Str × Str} (h : wi (some (reachE ks A p)) (spOf A p.1) = true) : sendE ks A p = A := by
  unfold sendE
  have := join_id h
  unfold reachE at this
  rw [this]
  exact setE_id (ha.nd hk)
theorem runE_id {ks : List (Str × Int)} {A : List (Str × Span)} (hk : LineOk ks) (ha : StOk ks A) : ∀ {fs : List (Str × Str)}, (∀ p ∈ fs, wi (some (reachE ks A p)) (spOf A p.1) = true) → runE ks A fs = A
  | [], _ => rfl
  | q :: fs, h => by
    show runE ks (sendE ks A q) fs = A
    rw [sendE_id hk ha (h q List.mem_cons_self)]
    exact runE_id hk ha fun p hp => h p (List.mem_cons_of_mem _ hp)
theorem sortE_keys (es : List (Str × Span)) : (sortE es).map (·.1) = srt leS (es.map (·.1)) := by unfold sortE; rw [List.map_map]; exact List.map_id _
theorem sortE_sp {ks : List (Str × Int)} {es : List (Str × Span)} (hk : LineOk ks) (h : StOk ks es) : SpEq ks (sortE es) es := fun z hz => by
  have nd : ((sortE es).map (·.1)).Nodup := by rw [sortE_keys]; exact (srt_perm leS _).nodup_iff.mpr (h.nd hk)
  exact spOf_in (f := (z, spOf es z)) nd (List.mem_map.mpr ⟨z, (srt_perm leS _).mem_iff.mpr (h.pm.mem_iff.mpr hz), rfl⟩)
theorem sortE_ok {ks : List (Str × Int)} {es : List (Str × Span)} (hk : LineOk ks) (h : StOk ks es) : StOk ks (sortE es) := by
  refine ⟨by rw [sortE_keys]; exact (srt_perm leS _).trans h.pm, fun p hp => ?_⟩
  obtain ⟨h1, h2⟩ := sortE_mem hk h hp
  rw [h2]
  exact h.ok _ (spOf_look hk h h1).2
/-- sent again, the frames change no interval -/
theorem again {ks : List (Str × Int)} {es : List (Str × Span)} {fs : List (Str × Str)} (hk : LineOk ks) (h : StOk ks es) (hf : FrIn ks fs) : runE ks (sortE (runE ks es fs)) fs = sortE (runE ks es fs) := by
  have ok := runE_ok hk h hf
  have sp := sortE_sp hk ok
  refine runE_id hk (sortE_ok hk ok) fun p hp => ?_
  obtain ⟨h1, h2, _⟩ := hf p hp
  have := run_fix hk h hf p hp
  unfold reachE at this ⊢
  rw [sp _ h1, sp _ h2]
  exact this
theorem sentE_app {ks : List (Str × Int)} : ∀ {fs gs : List (Str × Str)} {es : List (Str × Span)}, sentE ks es (fs ++ gs) = sentE ks es fs ++ sentE ks (runE ks es fs) gs
  | [], _, _ => rfl
  | q :: fs, gs, es => by
    show _ :: sentE ks (sendE ks es q) (fs ++ gs) = _
    rw [sentE_app]; rfl
end FD
namespace FD
open PySem PySem.Spec PyProof.Rows L2 FL
/-! ### lines with the same hosts in the same order, or in the opposite one -/
structure Mor (up : Bool) (ks ks' : List (Str × Int)) : Prop where
  hs : ∀ z ∈ ks.map (·.1), z ∈ ks'.map (·.1)
  le : ∀ x ∈ ks.map (·.1), ∀ y ∈ ks.map (·.1), decide (posOf ks x ≤ posOf ks y) = if up then decide (posOf ks' x ≤ posOf ks' y) else decide (posOf ks' y ≤ posOf ks' x)
/-- ends of intervals: both without limit, or at one host's positions -/
def ER (ks ks' : List (Str × Int)) (a b : Option Int) : Prop := (a = none ∧ b = none) ∨ ∃ z ∈ ks.map (·.1), a = some (posOf ks z) ∧ b = some (posOf ks' z)
def SR (up : Bool) (ks ks' : List (Str × Int)) : Span → Span → Prop
  | none, none => True
  | some (l, h), some (l', h') => if up then ER ks ks' l l' ∧ ER ks ks' h h' else ER ks ks' l h' ∧ ER ks ks' h l'
  | _, _ => False
section
variable {up : Bool} {ks ks' : List (Str × Int)}
theorem Mor.lt (M : Mor up ks ks') {x y : Str} (hx : x ∈ ks.map (·.1)) (hy : y ∈ ks.map (·.1)) : decide (posOf ks x < posOf ks y) = if up then decide (posOf ks' x < posOf ks' y) else decide (posOf ks' y < posOf ks' x) := by
  have h := M.le y hy x hx
  cases up with
  | true =>
    have h : decide (posOf ks y ≤ posOf ks x) = decide (posOf ks' y ≤ posOf ks' x) := h
    have h := decide_eq_decide.mp h
    exact decide_eq_decide.mpr (by omega)
  | false =>
    have h : decide (posOf ks y ≤ posOf ks x) = decide (posOf ks' x ≤ posOf ks' y) := h
    have h := decide_eq_decide.mp h
    exact decide_eq_decide.mpr (by omega)
theorem SR.inS (M : Mor up ks ks') {s s' : Span} (h : SR up ks ks' s s') {z : Str} (hz : z ∈ ks.map (·.1)) : inSpan s (posOf ks z) = inSpan s' (posOf ks' z) := by
  rcases s with _ | ⟨l, u⟩ <;> rcases s' with _ | ⟨l', u'⟩ <;> first | rfl | exact h.elim | skip
  cases up with
  | true =>
    obtain ⟨h1, h2⟩ : ER ks ks' l l' ∧ ER ks ks' u u' := h
    show (lowOk l _ && highOk u _) = (lowOk l' _ && highOk u' _)
    congr 1
    · rcases h1 with ⟨rfl, rfl⟩ | ⟨y, hy, rfl, rfl⟩
      · rfl
      · exact M.le y hy z hz
    · rcases h2 with ⟨rfl, rfl⟩ | ⟨y, hy, rfl, rfl⟩
      · rfl
      · exact M.le z hz y hy
  | false =>
    obtain ⟨h1, h2⟩ : ER ks ks' l u' ∧ ER ks ks' u l' := h
    show (lowOk l _ && highOk u _) = (lowOk l' _ && highOk u' _)
    rw [Bool.and_comm]
    congr 1
    · rcases h2 with ⟨rfl, rfl⟩ | ⟨y, hy, rfl, rfl⟩
      · rfl
      · exact M.le z hz y hy
    · rcases h1 with ⟨rfl, rfl⟩ | ⟨y, hy, rfl, rfl⟩
      · rfl
      · exact M.le y hy z hz
theorem SR.kind (M : Mor up ks ks') {s s' : Span} (h : SR up ks ks' s s') {z : Str} (hz : z ∈ ks.map (·.1)) : kindS s (posOf ks z) = kindS s' (posOf ks' z) := by
  have := h.inS M hz
  rcases s with _ | s <;> rcases s' with _ | s' <;> first | rfl | exact h.elim | skip
  unfold kindS
  simp only []
  rw [this]
theorem SR.reach (M : Mor up ks ks') {s s' : Span} (h : SR up ks ks' s s') {y z : Str} (hy : y ∈ ks.map (·.1)) (hz : z ∈ ks.map (·.1)) (ne : posOf ks y ≠ posOf ks z) (ne' : posOf ks' y ≠ posOf ks' z) :
    SR up ks ks' (some (reachS s (posOf ks y) (posOf ks z))) (some (reachS s' (posOf ks' y) (posOf ks' z))) := by
  have e := h.inS M hy
  have Ez : ER ks ks' (some (posOf ks z)) (some (posOf ks' z)) := .inr ⟨z, hz, rfl, rfl⟩
  have Ey : ER ks ks' (some (posOf ks y)) (some (posOf ks' y)) := .inr ⟨y, hy, rfl, rfl⟩
  have En : ER ks ks' none none := .inl ⟨rfl, rfl⟩
  have lt1 := M.lt hy hz
  rcases s with _ | s <;> rcases s' with _ | s' <;> first | exact h.elim | skip
  · cases up <;> exact ⟨En, En⟩
  · unfold reachS
    rw [e]
    by_cases q : inSpan (some s') (posOf ks' y) = true
    · simp only [if_pos q]
      cases up with
      | true =>
        have lt1 := decide_eq_decide.mp (show decide (posOf ks y < posOf ks z) = decide (posOf ks' y < posOf ks' z) from lt1)
        by_cases r : posOf ks y < posOf ks z
        · have r' := lt1.mp r
          rw [if_neg (show ¬ posOf ks z < posOf ks y by omega), if_neg (show ¬ posOf ks' z < posOf ks' y by omega), if_pos (show posOf ks z > posOf ks y from r), if_pos (show posOf ks' z > posOf ks' y from r')]
          exact ⟨Ey, Ez⟩
        · have r' := fun x => r (lt1.mpr x)
          rw [if_pos (show posOf ks z < posOf ks y by omega), if_pos (show posOf ks' z < posOf ks' y by omega), if_neg (show ¬ posOf ks z > posOf ks y by omega), if_neg (show ¬ posOf ks' z > posOf ks' y by omega)]
          exact ⟨Ez, Ey⟩
      | false =>
        have lt1 := decide_eq_decide.mp (show decide (posOf ks y < posOf ks z) = decide (posOf ks' z < posOf ks' y) from lt1)
        by_cases r : posOf ks y < posOf ks z
        · have r' := lt1.mp r
          rw [if_neg (show ¬ posOf ks z < posOf ks y by omega), if_pos (show posOf ks' z < posOf ks' y from r'), if_pos (show posOf ks z > posOf ks y from r), if_neg (show ¬ posOf ks' z > posOf ks' y by omega)]
          exact ⟨Ey, Ez⟩
        · have r' := fun x => r (lt1.mpr x)
          rw [if_pos (show posOf ks z < posOf ks y by omega), if_neg (show ¬ posOf ks' z < posOf ks' y by omega), if_neg (show ¬ posOf ks z > posOf ks y by omega), if_pos (show posOf ks' z > posOf ks' y by omega)]
          exact ⟨Ez, Ey⟩
    · simp only [if_neg q]
      cases up with
      | true =>
        have lt1 := decide_eq_decide.mp (show decide (posOf ks y < posOf ks z) = decide (posOf ks' y < posOf ks' z) from lt1)
        by_cases r : posOf ks y < posOf ks z
        · rw [if_pos r, if_pos (lt1.mp r)]; exact ⟨En, Ez⟩
        · rw [if_neg r, if_neg fun x => r (lt1.mpr x)]; exact ⟨Ez, En⟩
      | false =>
        have lt1 := decide_eq_decide.mp (show decide (posOf ks y < posOf ks z) = decide (posOf ks' z < posOf ks' y) from lt1)
        by_cases r : posOf ks y < posOf ks z
        · have r' := lt1.mp r
          rw [if_pos r, if_neg (show ¬ posOf ks' y < posOf ks' z by omega)]; exact ⟨En, Ez⟩
        · have r' := fun x => r (lt1.mpr x)
          rw [if_neg r, if_pos (show posOf ks' y < posOf ks' z by omega)]; exact ⟨Ez, En⟩
theorem ER.min (M : Mor true ks ks') {a b a' b' : Option Int} (h : ER ks ks' a a') (g : ER ks ks' b b') : ER ks ks' (joinO (fun a b => if b < a then b else a) a b) (joinO (fun a b => if b < a then b else a) a' b') := by
  rcases h with ⟨rfl, rfl⟩ | ⟨x, hx, rfl, rfl⟩
  · exact .inl ⟨rfl, rfl⟩
  · rcases g with ⟨rfl, rfl⟩ | ⟨y, hy, rfl, rfl⟩
    · exact .inl ⟨rfl, rfl⟩
    · have lt1 := decide_eq_decide.mp (show decide (posOf ks y < posOf ks x) = decide (posOf ks' y < posOf ks' x) from M.lt hy hx)
      show ER ks ks' (some (if _ then _ else _)) (some (if _ then _ else _))
      by_cases r : posOf ks y < posOf ks x
      · rw [if_pos r, if_pos (lt1.mp r)]; exact .inr ⟨y, hy, rfl, rfl⟩
      · rw [if_neg r, if_neg fun q => r (lt1.mpr q)]; exact .inr ⟨x, hx, rfl, rfl⟩
theorem ER.max (M : Mor true ks ks') {a b a' b' : Option Int} (h : ER ks ks' a a') (g : ER ks ks' b b') : ER ks ks' (joinO (fun a b => if b > a then b else a) a b) (joinO (fun a b => if b > a then b else a) a' b') := by
  rcases h with ⟨rfl, rfl⟩ | ⟨x, hx, rfl, rfl⟩
  · exact .inl ⟨rfl, rfl⟩
  · rcases g with ⟨rfl, rfl⟩ | ⟨y, hy, rfl, rfl⟩
    · exact .inl ⟨rfl, rfl⟩
    · have lt1 := decide_eq_decide.mp (show decide (posOf ks x < posOf ks y) = decide (posOf ks' x < posOf ks' y) from M.lt hx hy)
      show ER ks ks' (some (if _ then _ else _)) (some (if _ then _ else _))
      by_cases r : posOf ks y > posOf ks x
      · rw [if_pos r, if_pos (lt1.mp r)]; exact .inr ⟨y, hy, rfl, rfl⟩
      · rw [if_neg r, if_neg fun q => r (lt1.mpr q)]; exact .inr ⟨x, hx, rfl, rfl⟩
theorem ER.minD (M : Mor false ks ks') {a b a' b' : Option Int} (h : ER ks ks' a a') (g : ER ks ks' b b') : ER ks ks' (joinO (fun a b => if b < a then b else a) a b) (joinO (fun a b => if b > a then b else a) a' b') := by
  rcases h with ⟨rfl, rfl⟩ | ⟨x, hx, rfl, rfl⟩
  · exact .inl ⟨rfl, rfl⟩
  · rcases g with ⟨rfl, rfl⟩ | ⟨y, hy, rfl, rfl⟩
    · exact .inl ⟨rfl, rfl⟩
    · have lt1 := decide_eq_decide.mp (show decide (posOf ks y < posOf ks x) = decide (posOf ks' x < posOf ks' y) from M.lt hy hx)
      show ER ks ks' (some (if _ then _ else _)) (some (if _ then _ else _))
      by_cases r : posOf ks y < posOf ks x
      · rw [if_pos r, if_pos (show posOf ks' y > posOf ks' x from lt1.mp r)]; exact .inr ⟨y, hy, rfl, rfl⟩
      · rw [if_neg r, if_neg fun q : posOf ks' y > posOf ks' x => r (lt1.mpr q)]; exact .inr ⟨x, hx, rfl, rfl⟩
theorem ER.maxD (M : Mor false ks ks') {a b a' b' : Option Int} (h : ER ks ks' a a') (g : ER ks ks' b b') : ER ks ks' (joinO (fun a b => if b > a then b else a) a b) (joinO (fun a b => if b < a then b else a) a' b') := by
  rcases h with ⟨rfl, rfl⟩ | ⟨x, hx, rfl, rfl⟩
  · exact .inl ⟨rfl, rfl⟩
  · rcases g with ⟨rfl, rfl⟩ | ⟨y, hy, rfl, rfl⟩
    · exact .inl ⟨rfl, rfl⟩
    · have lt1 := decide_eq_decide.mp (show decide (posOf ks x < posOf ks y) = decide (posOf ks' y < posOf ks' x) from M.lt hx hy)
      show ER ks ks' (some (if _ then _ else _)) (some (if _ then _ else _))
      by_cases r : posOf ks y > posOf ks x
      · rw [if_pos r, if_pos (lt1.mp r)]; exact .inr ⟨y, hy, rfl, rfl⟩
      · rw [if_neg r, if_neg fun q => r (lt1.mpr q)]; exact .inr ⟨x, hx, rfl, rfl⟩
theorem SR.join (M : Mor up ks ks') {s s' : Span} {r r' : Option Int × Option Int} (h : SR up ks ks' s s') (g : SR up ks ks' (some r) (some r')) : SR up ks ks' (some (joinS s r)) (some (joinS s' r')) := by
  rcases s with _ | ⟨l, u⟩ <;> rcases s' with _ | ⟨l', u'⟩ <;> first | exact h.elim | skip
  · exact g
  · obtain ⟨rl, rh⟩ := r
    obtain ⟨rl', rh'⟩ := r'
    cases up with
    | true => exact ⟨ER.min M h.1 g.1, ER.max M h.2 g.2⟩
    | false => exact ⟨ER.minD M h.1 g.1, ER.maxD M h.2 g.2⟩
/-- states that are the same but for the positions -/
def StR (up : Bool) (ks ks' : List (Str × Int)) (A B : List (Str × Span)) : Prop := ∀ z ∈ ks.map (·.1), SR up ks ks' (spOf A z) (spOf B z)
theorem StR.run (M : Mor up ks ks') (hk : LineOk ks) (hk' : LineOk ks') : ∀ {fs : List (Str × Str)} {A B : List (Str × Span)}, StOk ks A → StOk ks' B → StR up ks ks' A B → FrIn ks fs →
    StR up ks ks' (runE ks A fs) (runE ks' B fs) ∧ (sentE ks A fs).map (·.1) = (sentE ks' B fs).map (·.1)
  | [], _, _, _, _, h, _ => ⟨h, rfl⟩
  | q :: fs, A, B, ha, hb, h, hf => by
    obtain ⟨h1, h2, h3⟩ := hf q List.mem_cons_self
    have g1 := M.hs _ h1
    have g2 := M.hs _ h2
    have ne : posOf ks q.1 ≠ posOf ks q.2 := fun e => h3 (by
      have a1 := posOf_in h1
      have a2 := posOf_in h2
      rw [e] at a1
      exact (by
        have nd := hk.ndp
        have : ∀ {l : List (Str × Int)}, (l.map (·.2)).Nodup → ∀ {x y : Str} {n : Int}, (x, n) ∈ l → (y, n) ∈ l → x = y := by
          intro l
          induction l with
          | nil => intro _ _ _ _ hx; cases hx
          | cons p l ih =>
            intro nd x y n hx hy
            have nd := List.nodup_cons.mp nd
            rcases List.mem_cons.mp hx with ex | hx
            · rcases List.mem_cons.mp hy with ey | hy
              · rw [← ey] at ex; exact (Prod.mk.inj ex).1
              · exact absurd (List.mem_map.mpr ⟨_, hy, by rw [← ex]⟩) nd.1
            · rcases List.mem_cons.mp hy with ey | hy
              · exact absurd (List.mem_map.mpr ⟨_, hx, by rw [← ey]⟩) nd.1
              · exact ih nd.2 hx hy
        exact this nd a1 a2))
    have ne' : posOf ks' q.1 ≠ posOf ks' q.2 := by
      have l1 := M.le _ h1 _ h2
      have l2 := M.le _ h2 _ h1
      intro e
      cases up with
      | true =>
        have l1 := decide_eq_decide.mp (show decide (posOf ks q.1 ≤ posOf ks q.2) = decide (posOf ks' q.1 ≤ posOf ks' q.2) from l1)
        have l2 := decide_eq_decide.mp (show decide (posOf ks q.2 ≤ posOf ks q.1) = decide (posOf ks' q.2 ≤ posOf ks' q.1) from l2)
        omega
      | false =>
        have l1 := decide_eq_decide.mp (show decide (posOf ks q.1 ≤ posOf ks q.2) = decide (posOf ks' q.2 ≤ posOf ks' q.1) from l1)
        have l2 := decide_eq_decide.mp (show decide (posOf ks q.2 ≤ posOf ks q.1) = decide (posOf ks' q.1 ≤ posOf ks' q.2) from l2)
        omega
    have step : StR up ks ks' (sendE ks A q) (sendE ks' B q) := fun z hz => by
      unfold sendE
      rw [spOf_set hk ha hz h1, spOf_set hk' hb (M.hs _ hz) g1]
      by_cases e : z = q.1
      · rw [if_pos e, if_pos e]
        exact SR.join M (h _ h1) (SR.reach M (h _ h2) h1 h2 ne ne')
      · rw [if_neg e, if_neg e]; exact h _ hz
    obtain ⟨r1, r2⟩ := StR.run M hk hk' (fs := fs) (sendE_ok hk ha h1 h2) (sendE_ok hk' hb g1 g2) step fun p hp => hf p (List.mem_cons_of_mem _ hp)
    refine ⟨r1, ?_⟩
    show kindE ks A q :: (sentE ks (sendE ks A q) fs).map (·.1) = kindE ks' B q :: (sentE ks' (sendE ks' B q) fs).map (·.1)
    rw [r2]
    unfold kindE
    rw [SR.kind M (h _ h2) h1]
end
end FD
namespace FD
open PySem PySem.Spec PyProof.Rows L2 FL
/-! ### sorted of pairs of an int and a text, no int twice -/
def encI (p : Int × Str) : Dv := .tup [.int p.1, .str p.2]
def pairsIS : List Dv → Option (List (Int × Str))
  | [] => some []
  | .tup [.int i, .str z] :: ds => match pairsIS ds with
    | some ps => some ((i, z) :: ps)
    | none => none
  | _ => none
theorem pairsIS_eq : ∀ {ds : List Dv} {ps : List (Int × Str)}, pairsIS ds = some ps → ds = ps.map encI
  | [], ps, e => by cases e; rfl
  | d :: ds, ps, e => by
    unfold pairsIS at e
    split at e
    · rename_i h; cases h
    · rename_i i z ds' h
      cases h
      split at e
      · rename_i qs e1
        cases e
        rw [List.map_cons, ← pairsIS_eq e1]; rfl
      · cases e
    · cases e
theorem pairsIS_map : ∀ ps : List (Int × Str), pairsIS (ps.map encI) = some ps
  | [] => rfl
  | p :: ps => by
    show (match pairsIS (ps.map encI) with | some qs => some ((p.1, p.2) :: qs) | none => none) = _
    rw [pairsIS_map ps]
def leP (a b : Int × Str) : Bool := decide (a.1 < b.1) || (decide (a.1 = b.1) && leS a.2 b.2)
theorem totP : Tot leP := by
  refine ⟨fun a b => ?_, fun a b c h1 h2 => ?_, fun a b h1 h2 => ?_⟩
  · unfold leP
    simp only [Bool.or_eq_true, Bool.and_eq_true, decide_eq_true_eq]
    have := totS.tot a.2 b.2
    by_cases e : a.1 = b.1
    · rcases this with h | h
      · exact .inl (.inr ⟨e, h⟩)
      · exact .inr (.inr ⟨e.symm, h⟩)
    · rcases Int.lt_or_gt_of_ne e with h | h
      · exact .inl (.inl h)
      · exact .inr (.inl h)
  · unfold leP at *
    simp only [Bool.or_eq_true, Bool.and_eq_true, decide_eq_true_eq] at *
    rcases h1 with h1 | ⟨h1, g1⟩ <;> rcases h2 with h2 | ⟨h2, g2⟩
    · exact .inl (by omega)
    · exact .inl (by omega)
    · exact .inl (by omega)
    · exact .inr ⟨by omega, totS.tr _ _ _ g1 g2⟩
  · unfold leP at *
    simp only [Bool.or_eq_true, Bool.and_eq_true, decide_eq_true_eq] at *
    rcases h1 with h1 | ⟨h1, g1⟩ <;> rcases h2 with h2 | ⟨h2, g2⟩
    · omega
    · omega
    · omega
    · exact Prod.ext h1 (totS.as _ _ g1 g2)
def bSortP : List Dv → Option Dv
  | [.lst ds] => match pairsIS ds with
    | some ps => if (ps.map (·.1)).Nodup then some (.lst ((srt leP ps).map encI)) else none
    | none => none
  | _ => none
section
variable {K : PySem.W.Frag} {F : Hp}
def kfP (F : Hp) (x : V) : Int × Str := match x with
  | .ref t => match F t with
    | some (.tup [.int i, .str z]) => (i, z)
    | _ => (0, "")
  | _ => (0, "")
theorem ddA_pairs : ∀ {ys : List V} {ps : List (Int × Str)}, DdA K F ys (ps.map encI) → ys.map (kfP F) = ps ∧ ∀ x ∈ ys, ∃ t, x = .ref t ∧ F t = some (.tup [.int (kfP F x).1, .str (kfP F x).2])
  | [], [], _ => ⟨rfl, fun _ h => nomatch h⟩
  | y :: ys, p :: ps, h => by
    cases h with
    | cons h t =>
      obtain ⟨e, hh⟩ := ddA_pairs t
      cases h with
      | tup h hs =>
        cases hs with
        | cons h1 t1 =>
          cases t1 with
          | cons h2 t2 =>
            cases t2
            cases h1
            cases h2
            have ek : ∀ a, F a = some (.tup [.int p.1, .str p.2]) → kfP F (.ref a) = p := fun a q => by unfold kfP; simp only [q]
            refine ⟨by rw [List.map_cons, e, ek _ h], fun x hx => ?_⟩
            rcases List.mem_cons.mp hx with q | hx
            · rw [q]; exact ⟨_, rfl, by rw [ek _ h]; exact h⟩
            · exact hh x hx
  | [], _ :: _, h => by cases h
  | _ :: _, [], h => by cases h
theorem ddA_back : ∀ {zs : List V}, (∀ x ∈ zs, ∃ t, x = .ref t ∧ F t = some (.tup [.int (kfP F x).1, .str (kfP F x).2])) → DdA K F zs ((zs.map (kfP F)).map encI)
  | [], _ => .nil
  | z :: zs, h => by
    obtain ⟨t, e, q⟩ := h z List.mem_cons_self
    refine .cons ?_ (ddA_back fun x hx => h x (List.mem_cons_of_mem _ hx))
    have : Dd K F (.ref t) (encI (kfP F z)) := .tup q (.cons (.int _) (.cons (.str _) .nil))
    rw [e] at this ⊢
    exact this
theorem fst_one : ∀ {ps : List (Int × Str)}, (ps.map (·.1)).Nodup → ∀ {x y : Int × Str}, x ∈ ps → y ∈ ps → x.1 = y.1 → x = y
  | p :: ps, nd, x, y, hx, hy, e => by
    have nd := List.nodup_cons.mp nd
    rcases List.mem_cons.mp hx with ex | hx
    · rcases List.mem_cons.mp hy with ey | hy
      · rw [ex, ey]
      · exact absurd (List.mem_map.mpr ⟨_, hy, by show y.1 = p.1; rw [← ex]; exact e.symm⟩) nd.1
    · rcases List.mem_cons.mp hy with ey | hy
      · exact absurd (List.mem_map.mpr ⟨_, hx, by show x.1 = p.1; rw [← ey]; exact e⟩) nd.1
      · exact fst_one nd.2 hx hy e
theorem co_sortP : CRO K (rSortedF K) bSortP := by
  intro H F L vs ds d Q D h e q
  unfold bSortP at e
  split at e
  · split at e
    · rename_i ps ex
      split at e
      · rename_i nd
        cases e
        obtain ⟨v, rfl, dr⟩ := pr1 h
        obtain ⟨a, ys, rfl, h1, d1⟩ := dr.lst D
        rw [pairsIS_eq ex] at d1
        obtain ⟨ek, hx⟩ := ddA_pairs d1
        have inP : ∀ x ∈ ys, kfP F x ∈ ps := fun x hx => by rw [← ek]; exact List.mem_map.mpr ⟨x, hx, rfl⟩
        refine ⟨a, ys, kfP F, rfl, SqL.of h1, fun x hm => ?_, fun x hm y hn e => ?_, fun zs p pm st np => ?_⟩
        · obtain ⟨t, e, r⟩ := hx x hm
          exact ⟨t, e, D.frz r⟩
        · rw [fst_one nd (inP x hm) (inP y hn) e]
        · have e2 : zs.map (kfP F) = srt leP ps := by
            refine srt_is totP (by rw [← ek]; exact pm.map _) (List.pairwise_map.mpr (List.Pairwise.imp_of_mem ?_ st))
            intro x y hm hn hle
            unfold leP
            simp only [Bool.or_eq_true, Bool.and_eq_true, decide_eq_true_eq]
            by_cases e : (kfP F x).1 = (kfP F y).1
            · refine .inr ⟨e, ?_⟩
              rw [fst_one nd (inP x (pm.mem_iff.mp hm)) (inP y (pm.mem_iff.mp hn)) e]
              exact (totS.tot _ _).elim id id
            · exact .inl (by omega)
          refine q p _ _ np rfl (.lst ?_)
          rw [← e2]
          exact ddA_back fun x hm => hx x (pm.mem_iff.mp hm)
      · cases e
    · cases e
  · cases e
end
end FD
namespace FD
open PySem PySem.Spec PyProof.Rows L2 FL
theorem neS_refl (s : Span) : oNeX (encS s) (encS s) = some (.bl false) := by
  rcases s with _ | ⟨l, h⟩
  · rfl
  · have hs := shp_enc (some (l, h))
    have e : eqBX (encS (some (l, h))) (encS (some (l, h))) = some (PyData.eqv (toPD (encS (some (l, h)))) (toPD (encS (some (l, h))))) := by
      show (if shp (encS (some (l, h))) && shp (encS (some (l, h))) then some _ else none) = _
      rw [hs]; rfl
    unfold oNeX
    rw [e, eqD_refl hs]; rfl
end FD
namespace FD
open PySem PySem.Spec PyProof.Rows L2 FL
/-! ### a line by the ranks of its hosts; moved, with a host more -/
def rankL : Nat → List (Int × Str) → List (Str × Int)
  | _, [] => []
  | i, p :: ps => (p.2, p.1 % 1000000 + (i : Int) * 10000000) :: rankL (i + 1) ps
theorem rankL_keys : ∀ {i : Nat} {ps : List (Int × Str)}, (rankL i ps).map (·.1) = ps.map (·.2)
  | _, [] => rfl
  | i, p :: ps => by show p.2 :: (rankL (i + 1) ps).map (·.1) = _; rw [rankL_keys]; rfl
theorem rankL_mem : ∀ {i : Nat} {ps : List (Int × Str)} {q : Str × Int}, q ∈ rankL i ps → ∃ (j : Nat) (p : Int × Str), ps[j]? = some p ∧ q = (p.2, p.1 % 1000000 + ((i + j : Nat) : Int) * 10000000)
  | i, p :: ps, q, h => by
    rcases List.mem_cons.mp h with e | h
    · exact ⟨0, p, rfl, e⟩
    · obtain ⟨j, p', e1, e2⟩ := rankL_mem h
      exact ⟨j + 1, p', e1, by rw [e2]; congr 3; omega⟩
theorem rankL_at : ∀ {i : Nat} {ps : List (Int × Str)} {j : Nat} {p : Int × Str}, ps[j]? = some p → (p.2, p.1 % 1000000 + ((i + j : Nat) : Int) * 10000000) ∈ rankL i ps
  | i, q :: ps, 0, p, h => by cases h; exact List.mem_cons_self
  | i, q :: ps, j + 1, p, h => by
    have := rankL_at (i := i + 1) (ps := ps) (j := j) h
    rw [show i + 1 + j = i + (j + 1) by omega] at this
    exact List.mem_cons_of_mem _ this
def rk (ks : List (Str × Int)) : List (Int × Str) := srt leP (ks.map fun p => (p.2, p.1))
def smL (ks : List (Str × Int)) : List (Str × Int) := rankL 0 (rk ks)
section
variable {ks : List (Str × Int)} (hk : LineOk ks)
theorem rk_perm : (rk ks).Perm (ks.map fun p => (p.2, p.1)) := srt_perm leP _
theorem rk_len : (rk ks).length = ks.length := by rw [rk_perm.length_eq, List.length_map]
include hk
theorem rk_lt : (rk ks).Pairwise fun a b => a.1 < b.1 := by
  have h1 := srt_pw totP (ks.map fun p => (p.2, p.1))
  have nd : ((rk ks).map (·.1)).Nodup := (rk_perm.map _).nodup_iff.mpr (by rw [List.map_map]; exact hk.ndp)
  have h2 : (rk ks).Pairwise fun a b => a.1 ≠ b.1 := List.pairwise_map.mp nd
  refine (h1.and h2).imp fun {a b} h => ?_
  have := h.1
  unfold leP at this
  simp only [Bool.or_eq_true, Bool.and_eq_true, decide_eq_true_eq] at this
  rcases this with h3 | ⟨h3, _⟩
  · exact h3
  · exact absurd h3 h.2
theorem rk_at {z : Str} (hz : z ∈ ks.map (·.1)) : ∃ j : Nat, (rk ks)[j]? = some (posOf ks z, z) := by
  have : (posOf ks z, z) ∈ rk ks := rk_perm.mem_iff.mpr (List.mem_map.mpr ⟨_, posOf_in hz, rfl⟩)
  obtain ⟨j, hj, e⟩ := List.mem_iff_getElem.mp this
  exact ⟨j, by rw [List.getElem?_eq_getElem hj, e]⟩
theorem sm_keys : (smL ks).map (·.1) = (rk ks).map (·.2) := rankL_keys
theorem sm_keysP : ((smL ks).map (·.1)).Perm (ks.map (·.1)) := by
  rw [sm_keys hk]
  have := rk_perm (ks := ks).map (·.2)
  rwa [List.map_map] at this
theorem sm_pos {z : Str} {j : Nat} (h : (rk ks)[j]? = some (posOf ks z, z)) : posOf (smL ks) z = posOf ks z % 1000000 + (j : Int) * 10000000 := by
  have := rankL_at (i := 0) h
  rw [Nat.zero_add] at this
  exact posOf_of this ((sm_keysP hk).nodup_iff.mpr hk.ndn)
theorem sm_le : Mor true ks (smL ks) := by
  refine ⟨fun z hz => (sm_keysP hk).mem_iff.mpr hz, fun x hx y hy => ?_⟩
  obtain ⟨i, hi⟩ := rk_at hk hx
  obtain ⟨j, hj⟩ := rk_at hk hy
  show decide _ = decide (posOf (smL ks) x ≤ posOf (smL ks) y)
  rw [sm_pos hk hi, sm_pos hk hj]
  have p1 := Int.emod_nonneg (posOf ks x) (b := 1000000) (by decide)
  have p2 := Int.emod_lt_of_pos (posOf ks x) (b := 1000000) (by decide)
  have p3 := Int.emod_nonneg (posOf ks y) (b := 1000000) (by decide)
  have p4 := Int.emod_lt_of_pos (posOf ks y) (b := 1000000) (by decide)
  obtain ⟨hi1, hi2⟩ := List.getElem?_eq_some_iff.mp hi
  obtain ⟨hj1, hj2⟩ := List.getElem?_eq_some_iff.mp hj
  have pw := List.pairwise_iff_getElem.mp (rk_lt hk)
  refine decide_eq_decide.mpr ?_
  rcases Nat.lt_trichotomy i j with q | q | q
  · have := pw i j hi1 hj1 q
    rw [hi2, hj2] at this
    constructor <;> intro <;> omega
  · subst q
    rw [hi] at hj
    have e := Option.some.inj hj
    have e1 := (Prod.mk.inj e).1
    rw [e1]
    constructor <;> intro <;> omega
  · have := pw j i hj1 hi1 q
    rw [hi2, hj2] at this
    constructor <;> intro <;> omega
theorem sm_val {q : Str × Int} (hq : q ∈ smL ks) : ∃ (r : Int) (j : Nat), q.2 = r + (j : Int) * 10000000 ∧ 0 ≤ r ∧ r < 1000000 ∧ j < ks.length := by
  obtain ⟨j, p, e1, e2⟩ := rankL_mem hq
  refine ⟨p.1 % 1000000, j, by rw [e2, Nat.zero_add], Int.emod_nonneg _ (by decide), Int.emod_lt_of_pos _ (by decide), ?_⟩
  rw [← rk_len]
  exact (List.getElem?_eq_some_iff.mp e1).1
theorem sm_ok : LineOk (smL ks) := by
  have kp := sm_keysP hk
  have len : (smL ks).length = ks.length := by have := kp.length_eq; rwa [List.length_map, List.length_map] at this
  have l2 := hk.len2
  have ndn := kp.nodup_iff.mpr hk.ndn
  refine ⟨by rw [len]; exact hk.len1, by rw [len]; exact l2, fun p hp => ?_, fun p hp => ?_, ndn, ?_⟩
  · obtain ⟨q, hq, e⟩ := List.mem_map.mp (kp.mem_iff.mp (List.mem_map.mpr ⟨p, hp, rfl⟩))
    rw [← e]; exact hk.nm q hq
  · obtain ⟨r, j, e, h1, h2, h3⟩ := sm_val hk hp
    rw [e]; omega
  · have pw : ∀ (i : Nat) (ps : List (Int × Str)), ((rankL i ps).map (·.2)).Pairwise (· < ·) := by
      intro i ps
      induction ps generalizing i with
      | nil => exact .nil
      | cons p ps ih =>
        refine List.pairwise_cons.mpr ⟨fun v hv => ?_, ih (i + 1)⟩
        obtain ⟨q, hq, rfl⟩ := List.mem_map.mp hv
        obtain ⟨j, p', e1, e2⟩ := rankL_mem hq
        rw [e2]
        have a1 := Int.emod_lt_of_pos p.1 (b := 1000000) (by decide)
        have a2 := Int.emod_nonneg p'.1 (b := 1000000) (by decide)
        show p.1 % 1000000 + (i : Int) * 10000000 < p'.1 % 1000000 + ((i + 1 + j : Nat) : Int) * 10000000
        omega
    exact (pw 0 (rk ks)).imp fun h => Int.ne_of_lt h
theorem FrOk.sm {fs : List (Str × Str)} (hf : FrOk ks fs) : FrOk (smL ks) fs := ⟨hf.len, fun p hp => ⟨(sm_keysP hk).mem_iff.mpr (hf.ok p hp).1, (sm_keysP hk).mem_iff.mpr (hf.ok p hp).2.1, (hf.ok p hp).2.2⟩⟩
end
/-! moved -/
def mvL (f m : Int) (ks : List (Str × Int)) : List (Str × Int) := ks.map fun p => (p.1, p.2 * f + m)
section
variable {ks : List (Str × Int)} (hk : LineOk ks) {f m : Int} (hf : f = 1 ∨ f = 2 ∨ f = -1 ∨ f = 3) (hm : -60 ≤ m ∧ m ≤ 60) (hb : ∀ p ∈ ks, 0 ≤ p.2 ∧ p.2 < 1000000000)
theorem mv_keys : (mvL f m ks).map (·.1) = ks.map (·.1) := by unfold mvL; rw [List.map_map]; rfl
include hk
theorem mv_pos {z : Str} (hz : z ∈ ks.map (·.1)) : posOf (mvL f m ks) z = posOf ks z * f + m :=
  posOf_of (List.mem_map.mpr ⟨_, posOf_in hz, rfl⟩) (by rw [mv_keys]; exact hk.ndn)
include hf
theorem mv_le : Mor (decide (f > 0)) ks (mvL f m ks) := by
  refine ⟨fun z hz => by rw [mv_keys]; exact hz, fun x hx y hy => ?_⟩
  rw [mv_pos hk hx, mv_pos hk hy]
  rcases hf with rfl | rfl | rfl | rfl
  · show decide _ = decide _
    exact decide_eq_decide.mpr (by omega)
  · show decide _ = decide _
    exact decide_eq_decide.mpr (by omega)
  · show decide _ = decide _
    exact decide_eq_decide.mpr (by omega)
  · show decide _ = decide _
    exact decide_eq_decide.mpr (by omega)
include hm hb
theorem mv_ok : LineOk (mvL f m ks) := by
  refine ⟨by unfold mvL; rw [List.length_map]; exact hk.len1, by unfold mvL; rw [List.length_map]; exact hk.len2, fun p hp => ?_, fun p hp => ?_, by rw [mv_keys]; exact hk.ndn, ?_⟩
  · obtain ⟨q, hq, rfl⟩ := List.mem_map.mp hp
    exact hk.nm q hq
  · obtain ⟨q, hq, rfl⟩ := List.mem_map.mp hp
    have := hb q hq
    show -(10 ^ 30) ≤ q.2 * f + m ∧ q.2 * f + m ≤ 10 ^ 30
    rcases hf with rfl | rfl | rfl | rfl <;> omega
  · unfold mvL
    rw [List.map_map]
    have := hk.ndp
    have e : ((fun p : Str × Int => p.2) ∘ fun p : Str × Int => (p.1, p.2 * f + m)) = (fun n : Int => n * f + m) ∘ fun p : Str × Int => p.2 := rfl
    rw [e, ← List.map_map]
    refine List.Pairwise.map _ (fun a b h q => ?_) this
    have q : a * f + m = b * f + m := q
    rcases hf with rfl | rfl | rfl | rfl <;> omega
end
def movO (f m : Int) (o : Option Int) : Option Int := o.map fun i => i * f + m
def movS (f m : Int) : Span → Span
  | none => none
  | some (l, h) => if f > 0 then some (movO f m l, movO f m h) else some (movO f m h, movO f m l)
theorem SR.mov {ks : List (Str × Int)} (hk : LineOk ks) {f m : Int} {s s' : Span} (h : SR (decide (f > 0)) ks (mvL f m ks) s s') : s' = movS f m s := by
  have er : ∀ {a b : Option Int}, ER ks (mvL f m ks) a b → b = movO f m a := by
    rintro a b (⟨rfl, rfl⟩ | ⟨z, hz, rfl, rfl⟩)
    · rfl
    · rw [mv_pos hk hz]; rfl
  rcases s with _ | ⟨l, u⟩ <;> rcases s' with _ | ⟨l', u'⟩ <;> first | rfl | exact h.elim | skip
  show some (l', u') = if f > 0 then some (movO f m l, movO f m u) else some (movO f m u, movO f m l)
  by_cases q : f > 0
  · rw [decide_eq_true q] at h
    rw [if_pos q, er h.1, er h.2]
  · rw [decide_eq_false q] at h
    rw [if_neg q, er h.1, er h.2]
/-! with a host more -/
def wdL (ks : List (Str × Int)) (z : Str) (n : Int) : List (Str × Int) := ks ++ [(z, n)]
section
variable {ks : List (Str × Int)} (hk : LineOk ks) {z : Str} {n : Int} (hz : z ∉ ks.map (·.1)) (hn : n ∉ ks.map (·.2))
include hk hz
theorem wd_ndn : ((wdL ks z n).map (·.1)).Nodup := by
  unfold wdL
  rw [List.map_append, List.nodup_append]
  refine ⟨hk.ndn, by simp, fun a ha b hb e => ?_⟩
  have hb : b = z := by simpa using hb
  rw [e, hb] at ha
  exact hz ha
theorem wd_pos {y : Str} (hy : y ∈ ks.map (·.1)) : posOf (wdL ks z n) y = posOf ks y := posOf_of (List.mem_append_left _ (posOf_in hy)) (wd_ndn hk hz)
theorem wd_le : Mor true ks (wdL ks z n) := by
  refine ⟨fun y hy => by unfold wdL; rw [List.map_append]; exact List.mem_append_left _ hy, fun x hx y hy => ?_⟩
  rw [wd_pos hk hz hx, wd_pos hk hz hy]; rfl
include hn
theorem wd_ok (h39 : ks.length ≤ 39) (nm : nmStr z = true) (hb : -(10 ^ 30) ≤ n ∧ n ≤ 10 ^ 30) : LineOk (wdL ks z n) := by
  refine ⟨by unfold wdL; rw [List.length_append]; show 1 ≤ _ + 1; omega, by unfold wdL; rw [List.length_append]; show _ + 1 ≤ 40; omega, fun p hp => ?_, fun p hp => ?_, wd_ndn hk hz, ?_⟩
  · rcases List.mem_append.mp hp with h | h
    · exact hk.nm p h
    · rw [List.mem_singleton.mp h]; exact nm
  · rcases List.mem_append.mp hp with h | h
    · exact hk.ps p h
    · rw [List.mem_singleton.mp h]; exact hb
  · unfold wdL
    rw [List.map_append, List.nodup_append]
    refine ⟨hk.ndp, by simp, fun a ha b hb e => ?_⟩
    have hb : b = n := by simpa using hb
    rw [e, hb] at ha
    exact hn ha
end
def rankG (d : Dv) : Dv := match d with | .tup [.int i, .tup [.int place, .str z]] => .tup [.str z, .int (place % 1000000 + i * 10000000)] | _ => .non
theorem enum_rank : ∀ (i : Nat) (ps : List (Int × Str)), (((ps.map encI).zipIdx i).map fun p => Dv.tup [.int (p.2 : Nat), p.1]).map rankG = (rankL i ps).map fun p => .tup [.str p.1, .int p.2]
  | _, [] => rfl
  | i, p :: ps => by
    show rankG (.tup [.int (i : Nat), encI p]) :: _ = _
    rw [enum_rank (i + 1) ps]; rfl
theorem enum_mem : ∀ {i : Nat} {ps : List (Int × Str)} {d : Dv}, d ∈ (((ps.map encI).zipIdx i).map fun p => Dv.tup [.int (p.2 : Nat), p.1]) → ∃ (k : Nat) (p : Int × Str), d = .tup [.int (k : Int), .tup [.int p.1, .str p.2]] ∧ k < i + ps.length
  | i, p :: ps, d, h => by
    have h : d ∈ Dv.tup [.int (i : Nat), encI p] :: (((ps.map encI).zipIdx (i + 1)).map fun p => Dv.tup [.int (p.2 : Nat), p.1]) := h
    rcases List.mem_cons.mp h with e | h
    · exact ⟨i, p, e, by rw [List.length_cons]; omega⟩
    · obtain ⟨k, q, e, hk⟩ := enum_mem h
      exact ⟨k, q, e, by rw [List.length_cons]; omega⟩
theorem sil_sr {up : Bool} {ks ks' : List (Str × Int)} (M : Mor up ks ks') (hk : LineOk ks) (hk' : LineOk ks') : StR up ks ks' (silE ks) (silE ks') := fun z hz => by
  rw [spOf_sil hk hz, spOf_sil hk' (M.hs z hz)]; exact True.intro
end FD
namespace FD
open PySem PySem.Spec PyProof.Rows L2 FL
/-! ### sorted(d.values()), the values ints -/
def oSV (fe : Env → Option (Rv × Env)) (δ : Env) : Option (Dv × Env) := match got fe δ with
  | some (.dct ds, δ') => match intsOf (ds.map (·.2)) with
    | some ns => if ns.length < 64 then some (.lst ((srt leI ns).map Dv.int), δ') else none
    | none => none
  | _ => none
section
variable {K : PySem.W.Frag}
theorem do_sortVals {te : TE} {fe : Env → Option (Rv × Env)} (he : DE K te fe) : DEO K (tSortVals te) (oSV fe) := by
  intro α σ H F L R δ δ' d Q D S e q
  unfold oSV at e
  split at e
  · rename_i ds δ1 e1
    split at e
    · rename_i ns ex
      split at e
      · rename_i hl
        cases e
        refine he.rd D S e1 fun v H' F' L' s D' S' dr => ?_
        obtain ⟨a, kvs, rfl, h, hs⟩ := dr.dct D'
        have hv := hs.vals
        rw [intsOf_eq ex] at hv
        refine ⟨a, kvs, ns, rfl, h, hv.ints, hl, fun ns' p pm pw np => ?_⟩
        rw [srt_is totI pm (pw.imp fun h => decide_eq_true h)]
        exact q p _ _ F' L' s (D'.new np) S' (.lst (ddA_ints _))
      · cases e
    · cases e
  · cases e
end
end FD
namespace FD
open PySem PySem.Spec PyProof.Rows L2 FL
theorem ne_strs {xs ys : List Str} (hx : ∀ z ∈ xs, nmStr z = true) (hy : ∀ z ∈ ys, nmStr z = true) : oNeX (.lst (xs.map Dv.str)) (.lst (ys.map Dv.str)) = some (.bl (!decide (xs = ys))) := by
  have e : eqBX (.lst (xs.map Dv.str)) (.lst (ys.map Dv.str)) = some (PyData.eqv (toPD (.lst (xs.map Dv.str))) (toPD (.lst (ys.map Dv.str)))) := by
    show (if shp (.lst (xs.map Dv.str)) && shp (.lst (ys.map Dv.str)) then some _ else none) = _
    rw [shp_strs hx, shp_strs hy]; rfl
  unfold oNeX
  rw [e]
  show some (Dv.bl (!PyData.eqv _ _)) = _
  rw [toPD, toPDs_strs, toPD, toPDs_strs, eqv_texts]
theorem eq_strs {xs ys : List Str} (hx : ∀ z ∈ xs, nmStr z = true) (hy : ∀ z ∈ ys, nmStr z = true) : oEqX (.lst (xs.map Dv.str)) (.lst (ys.map Dv.str)) = some (.bl (decide (xs = ys))) := by
  have e : eqBX (.lst (xs.map Dv.str)) (.lst (ys.map Dv.str)) = some (PyData.eqv (toPD (.lst (xs.map Dv.str))) (toPD (.lst (ys.map Dv.str)))) := by
    show (if shp (.lst (xs.map Dv.str)) && shp (.lst (ys.map Dv.str)) then some _ else none) = _
    rw [shp_strs hx, shp_strs hy]; rfl
  unfold oEqX
  rw [e]
  show some (Dv.bl (PyData.eqv _ _)) = _
  rw [toPD, toPDs_strs, toPD, toPDs_strs, eqv_texts]
/-- a word many times -/
theorem rep_str (s : Str) (n : Nat) (hn : n ≤ 1000) : oRep (.lst [.str s]) (.int (n : Int)) = some (.lst ((List.replicate n s).map Dv.str)) := by
  unfold oRep
  have e1 : (List.replicate n [Dv.str s]).flatten = (List.replicate n s).map Dv.str := by
    clear hn
    induction n with
    | zero => rfl
    | succ n ih => rw [List.replicate_succ, List.replicate_succ, List.flatten_cons, ih]; rfl
  have e2 : ((n : Int)).toNat = n := Int.toNat_natCast n
  simp only [e2, e1, List.length_cons, List.length_nil]
  rw [if_pos ⟨by omega, by omega⟩]
theorem rep_all {s : Str} {l : List Str} : l = List.replicate l.length s ↔ ∀ z ∈ l, z = s := by
  rw [List.eq_replicate_iff]; simp
/-- the ends of a line, by its ranks -/
def endsL (ks : List (Str × Int)) : Int × Int := (((rk ks).head?.map (·.1)).getD 0, ((rk ks).getLast?.map (·.1)).getD 0)
def lackE (ks : List (Str × Int)) (es : List (Str × Span)) : List Str := if ks.length = 1 then [] else ((rk ks).map (·.2)).filter fun z => !(inSpan (spOf es z) (endsL ks).1 && inSpan (spOf es z) (endsL ks).2)
theorem rk_host {ks : List (Str × Int)} (hk : LineOk ks) {p : Int × Str} (h : p ∈ rk ks) : p.2 ∈ ks.map (·.1) ∧ posOf ks p.2 = p.1 := by
  obtain ⟨q, hq, rfl⟩ := List.mem_map.mp (rk_perm.mem_iff.mp h)
  exact ⟨List.mem_map.mpr ⟨q, hq, rfl⟩, posOf_eq hk.ndn hq⟩

/-- the targets to which some frame would not be direct, by their ranks -/
def dueE (ks : List (Str × Int)) (es : List (Str × Span)) : List Str := ((rk ks).map (·.2)).filter fun t => !(((ks.map (·.1)).filter fun z => !decide (z = t)).all fun z => decide (kindE ks es (z, t) = Str.ofString "direct"))
theorem kinds_rep {ks : List (Str × Int)} {es : List (Str × Span)} {t : Str} : (((ks.map (·.1)).filter fun z => !decide (z = t)).all fun z => decide (kindE ks es (z, t) = Str.ofString "direct")) = decide ((((ks.map (·.1)).filter fun z => !decide (z = t)).map fun z => kindE ks es (z, t)) = List.replicate (((ks.map (·.1)).filter fun z => !decide (z = t)).map fun z => kindE ks es (z, t)).length (Str.ofString "direct")) := by
  rw [Bool.eq_iff_iff, List.all_eq_true, decide_eq_true_iff, rep_all]
  simp only [decide_eq_true_eq, List.forall_mem_map]

/-- the ends of a line: every host stands between them -/
theorem endsL_in {ks : List (Str × Int)} (hk : LineOk ks) : ∃ a b : Int × Str, a ∈ rk ks ∧ b ∈ rk ks ∧ endsL ks = (a.1, b.1) ∧ (∀ p ∈ rk ks, a.1 ≤ p.1 ∧ p.1 ≤ b.1) ∧ (ks.length ≠ 1 → a.1 < b.1) := by
  have lr : (rk ks).length = ks.length := rk_len
  have l1 := hk.len1
  have lt := rk_lt (ks := ks) hk
  obtain ⟨a, ha⟩ : ∃ a, (rk ks)[0]? = some a := ⟨_, List.getElem?_eq_getElem (by omega)⟩
  obtain ⟨rs, b, hb⟩ : ∃ rs b, rk ks = rs ++ [b] := by
    rcases List.eq_nil_or_concat (rk ks) with e | ⟨rs, b, e⟩
    · rw [e] at lr; simp at lr; omega
    · exact ⟨rs, b, by rw [e, List.concat_eq_append]⟩
  have ee : endsL ks = (a.1, b.1) := by
    unfold endsL
    rw [List.head?_eq_getElem?, ha]
    have : (rk ks).getLast? = some b := by rw [hb]; simp
    rw [this]; rfl
  have hup : ∀ p ∈ rk ks, p.1 ≤ b.1 := fun p hp => by
    rw [hb] at hp lt
    rcases List.mem_append.mp hp with h | h
    · have := (List.pairwise_append.mp lt).2.2 p h b (List.mem_singleton.mpr rfl); omega
    · rw [List.mem_singleton.mp h]; exact Int.le_refl _
  have hlo : ∀ p ∈ rk ks, a.1 ≤ p.1 := fun p hp => by
    cases hr : rk ks with
    | nil => rw [hr] at hp; cases hp
    | cons c cs =>
      rw [hr] at ha hp lt
      cases ha
      rcases List.mem_cons.mp hp with e | h
      · rw [e]; exact Int.le_refl _
      · have := (List.pairwise_cons.mp lt).1 p h; omega
  refine ⟨a, b, List.mem_of_getElem? ha, by rw [hb]; simp, ee, fun p hp => ⟨hlo p hp, hup p hp⟩, fun ne => ?_⟩
  rcases rs with _ | ⟨c, cs⟩
  · rw [hb] at lr; simp at lr; omega
  · rw [hb] at ha lt
    cases ha
    exact (List.pairwise_append.mp lt).2.2 a List.mem_cons_self b (List.mem_singleton.mpr rfl)
theorem inSpan_conv {s : Span} {x y z : Int} (h1 : inSpan s x = true) (h2 : inSpan s z = true) (a : x ≤ y) (b : y ≤ z) : inSpan s y = true := by
  rcases s with _ | ⟨_ | l, _ | h⟩
  · cases h1
  · rfl
  · simp [inSpan, lowOk, highOk] at *; omega
  · simp [inSpan, lowOk, highOk] at *; omega
  · simp [inSpan, lowOk, highOk] at *; omega
theorem inSpan_own {ks : List (Str × Int)} {o : Int} {s : Span} (h : spanOk ks o s) (n : s ≠ none) : inSpan s o = true := by
  rcases s with _ | ⟨l, u⟩
  · exact absurd rfl n
  · have h1 := h.1
    have h2 := h.2
    rcases l with _ | l <;> rcases u with _ | u
    · rfl
    · have := (h2 u rfl).2; simp [inSpan, lowOk, highOk, this]
    · have := (h1 l rfl).2; simp [inSpan, lowOk, highOk, this]
    · have q1 := (h1 l rfl).2
      have q2 := (h2 u rfl).2
      simp [inSpan, lowOk, highOk, q1, q2]
theorem kind_direct {s : Span} {b : Int} : kindS s b = Str.ofString "direct" ↔ inSpan s b = true := by
  rcases s with _ | s
  · exact ⟨fun h => absurd (show Str.ofString "all" = Str.ofString "direct" from h) (by decide +kernel), fun h => (by cases h)⟩
  · unfold kindS
    simp only
    split
    · rename_i h; exact ⟨fun _ => h, fun _ => rfl⟩
    · rename_i h; exact ⟨fun q => absurd (show Str.ofString "flood" = Str.ofString "direct" from q) (by decide +kernel), fun q => absurd q h⟩
/-- a host lacks exactly if some frame to it would not be direct -/
theorem due_lack {ks : List (Str × Int)} {es : List (Str × Span)} (hk : LineOk ks) (h : StOk ks es) : dueE ks es = lackE ks es := by
  obtain ⟨a, b, ma, mb, ee, hab, hlt⟩ := endsL_in hk
  have lr : (rk ks).length = ks.length := rk_len
  unfold dueE lackE
  split
  · rename_i q
    rw [List.filter_eq_nil_iff]
    intro t ht
    have : ∀ z ∈ (ks.map (·.1)).filter fun z => !decide (z = t), False := by
      intro z hz
      rw [List.mem_filter] at hz
      obtain ⟨p, hp, rfl⟩ := List.mem_map.mp ht
      have m1 := (rk_host hk hp).1
      rcases ks with _ | ⟨k1, _ | ⟨k2, ks⟩⟩
      · simp at q
      · have e1 := List.mem_singleton.mp hz.1
        have e2 := List.mem_singleton.mp m1
        have := hz.2
        rw [e1, e2] at this
        simp at this
      · simp at q
    have : ((ks.map (·.1)).filter fun z => !decide (z = t)) = [] := List.eq_nil_iff_forall_not_mem.mpr this
    rw [this]; simp
  · rename_i q
    refine List.filter_congr fun t ht => ?_
    obtain ⟨p, hp, rfl⟩ := List.mem_map.mp ht
    obtain ⟨m, pos⟩ := rk_host hk hp
    rw [ee]
    refine congrArg (fun b => !b) ?_
    rw [Bool.eq_iff_iff, List.all_eq_true, Bool.and_eq_true]
    have own := h.ok _ (spOf_look hk h m).2
    simp only at own
    constructor
    · intro hall
      have key : ∀ c ∈ rk ks, c.2 ≠ p.2 → inSpan (spOf es p.2) c.1 = true := fun c hc ne => by
        obtain ⟨mc, pc⟩ := rk_host hk hc
        have := hall c.2 (List.mem_filter.mpr ⟨mc, by simp [ne]⟩)
        have := kind_direct.mp (of_decide_eq_true this)
        rwa [show posOf ks (c.2, p.2).1 = c.1 from pc] at this
      have ne : spOf es p.2 ≠ none := by
        intro e
        by_cases c : a.2 = p.2
        · have : b.2 ≠ p.2 := fun z => by
            have h1 := (rk_host hk ma).2
            have h2 := (rk_host hk mb).2
            rw [c] at h1; rw [z] at h2
            have := hlt q; omega
          have := key b mb this
          rw [e] at this; cases this
        · have := key a ma c
          rw [e] at this; cases this
      have o := inSpan_own own ne
      constructor
      · by_cases c : a.2 = p.2
        · have h1 := (rk_host hk ma).2
          rw [c] at h1; rwa [h1] at o
        · exact key a ma c
      · by_cases c : b.2 = p.2
        · have h1 := (rk_host hk mb).2
          rw [c] at h1; rwa [h1] at o
        · exact key b mb c
    · rintro ⟨i1, i2⟩ z hz
      rw [List.mem_filter] at hz
      obtain ⟨j, hj⟩ := rk_at hk hz.1
      have hb := hab _ (List.mem_of_getElem? hj)
      exact decide_eq_true (kind_direct.mpr (inSpan_conv i1 i2 hb.1 hb.2))
theorem repr_ns {ks : List (Str × Int)} {es : List (Str × Span)} (hk : LineOk ks) (h : StOk ks es) : ∃ r, bReprX [.lst [.dct (kvL ks), .dct (kvS es)]] = some (.str r) := by
  have hp : plainD (.lst [.dct (kvL ks), .dct (kvS es)]) = true := by
    show (plainD (.dct (kvL ks)) && (plainD (.dct (kvS es)) && true)) = true
    rw [plain_line, plain_st]; rfl
  have hd : DOk (toPD (.lst [.dct (kvL ks), .dct (kvS es)])) 30000 3 := by
    rw [toPD, toPDs, toPDs, toPDs]
    exact (DOk.list (DOkA.cons ((dok_line hk).more (Nat.le_refl _) (by omega)) (DOkA.cons (dok_st hk h) (DOkA.nil (k := 2))))).more (by omega) (Nat.le_refl _)
  exact ⟨_, by unfold bReprX; simp only []; rw [if_pos (shOk_of hp hd (by decide) (by decide))]⟩
theorem lack_nm {ks : List (Str × Int)} {es : List (Str × Span)} (hk : LineOk ks) : (∀ z ∈ lackE ks es, nmStr z = true) ∧ (lackE ks es).length ≤ 40 := by
  have l2 := hk.len2
  unfold lackE
  split
  · exact ⟨by simp, by simp⟩
  · refine ⟨fun z hz => ?_, ?_⟩
    · obtain ⟨p, hp, rfl⟩ := List.mem_map.mp (List.mem_filter.mp hz).1
      obtain ⟨q, hq, e⟩ := List.mem_map.mp (rk_host hk hp).1
      rw [← e]; exact hk.nm q hq
    · refine Nat.le_trans (List.length_filter_le _ _) ?_
      rw [List.length_map, rk_len]; exact l2
end FD
/-! Trees of one's own: calls that write some of their arguments, take others, and hand back trees. -/
namespace FD
open PySem PySem.Spec PyProof.Rows L2 FL
section
variable {K : PySem.W.Frag} {α α' : Nat → Addr} {F F' H : Hp}
/-- no places are named -/
def noLb : Sh → Bool
  | .lk _ => false | .ho _ => false | .ls s => noLb s | .dc s => noLb s | .tp s => noLb s | .io _ s => noLb s
  | .cn s t => noLb s && noLb t | .fc _ s t => noLb s && noLb t | .fr => true | .fl => true | .nl => true
/-- may be left as it is -/
def frzS : Sh → Bool
  | .lk _ => false | .ho _ => false | .ls s => frzS s | .dc s => frzS s | .tp s => frzS s | .io _ _ => false
  | .cn s t => frzS s && frzS t | .fc _ _ _ => false | .fr => true | .fl => true | .nl => true
mutual
theorem DN.al : ∀ {s : Sh} {L : List (Addr × HO)} {v : V} {d : Dv}, DN K F α s L v d → noLb s = true → DN K F α' s L v d
  | _, _, _, _, .fr h, _ => .fr h
  | _, _, _, _, .fl h, _ => .fl h
  | _, _, _, _, .lk h, e => by cases e
  | _, _, _, _, .ho, e => by cases e
  | _, _, _, _, .ls h, e => .ls (DNU.al h e)
  | _, _, _, _, .dc h, e => .dc (DNK.al h e)
  | _, _, _, _, .tp h hs, e => .tp h (DNA.al hs e)
  | _, _, _, _, .io hc h, e => .io hc (DNF.al h e)
theorem DNU.al : ∀ {s : Sh} {L : List (Addr × HO)} {v : List V} {d : List Dv}, DNU K F α s L v d → noLb s = true → DNU K F α' s L v d
  | _, _, _, _, .nil, _ => .nil
  | _, _, _, _, .cons h t, e => .cons (DN.al h e) (DNU.al t e)
theorem DNK.al : ∀ {s : Sh} {L : List (Addr × HO)} {v : List (Key × V)} {d : List (Key × Dv)}, DNK K F α s L v d → noLb s = true → DNK K F α' s L v d
  | _, _, _, _, .nil, _ => .nil
  | _, _, _, _, .cons h t, e => .cons (DN.al h e) (DNK.al t e)
theorem DNA.al : ∀ {s : Sh} {L : List (Addr × HO)} {v : List V} {d : List Dv}, DNA K F α s L v d → noLb s = true → DNA K F α' s L v d
  | _, _, _, _, .nil, _ => .nil
  | _, _, _, _, .cons h t, e => by
    have e : (noLb _ && noLb _) = true := e
    rw [Bool.and_eq_true] at e
    exact .cons (DN.al h e.1) (DNA.al t e.2)
theorem DNF.al : ∀ {s : Sh} {L : List (Addr × HO)} {v : List (Str × V)} {d : List (Key × Dv)}, DNF K F α s L v d → noLb s = true → DNF K F α' s L v d
  | _, _, _, _, .nil, _ => .nil
  | _, _, _, _, .cons h t, e => by
    have e : (noLb _ && noLb _) = true := e
    rw [Bool.and_eq_true] at e
    exact .cons (DN.al h e.1) (DNF.al t e.2)
end
mutual
theorem DN.freeze : ∀ {s : Sh} {M : List (Addr × HO)} {v : V} {d : Dv}, DN K F α s M v d → frzS s = true → ∀ {F1 H : Hp} {L : List (Addr × HO)}, Same F F1 → Led H F1 (M ++ L) → ∃ F2, Same F1 F2 ∧ Led H F2 L ∧ Dd K F2 v d
  | _, _, _, _, .fr h, _, F1, H, L, s, D => ⟨F1, Same.refl _, D, h.mono (Le.of s)⟩
  | _, _, _, _, @DN.fl _ _ _ a o d h, _, F1, H, L, s, D => by
    have D : Led H F1 ((a, o) :: L) := D
    exact ⟨upd F1 a o, D.grow, D.freeze, ((h.mono (Le.of s)).mono (Le.of D.grow)).dd upd_same⟩
  | _, _, _, _, .lk h, e, _, _, _, _, _ => by cases e
  | _, _, _, _, .ho, e, _, _, _, _, _ => by cases e
  | _, _, _, _, @DN.ls _ _ _ a xs ds s0 L0 h, e, F1, H, L, s, D => by
    have D1 : Led H F1 (L0 ++ ((a, .lst xs) :: L)) := FL.Led.perm D List.perm_middle
    obtain ⟨F2, s2, D2, hd⟩ := DNU.freeze h e s D1
    exact ⟨upd F2 a (.lst xs), s2.trans D2.grow, D2.freeze, .lst upd_same (hd.mono (Le.of D2.grow))⟩
  | _, _, _, _, @DN.dc _ _ _ a kvs ds s0 L0 h, e, F1, H, L, s, D => by
    have D1 : Led H F1 (L0 ++ ((a, .dK kvs) :: L)) := FL.Led.perm D List.perm_middle
    obtain ⟨F2, s2, D2, hd⟩ := DNK.freeze h e s D1
    exact ⟨upd F2 a (.dK kvs), s2.trans D2.grow, D2.freeze, .dct (.inl upd_same) (hd.mono (Le.of D2.grow))⟩
  | _, _, _, _, .tp h hs, e, F1, H, L, s, D => by
    obtain ⟨F2, s2, D2, hd⟩ := DNA.freeze hs e s D
    exact ⟨F2, s2, D2, .tup (s2 _ _ (s _ _ h)) hd⟩
  | _, _, _, _, .io hc h, e, _, _, _, _, _ => by cases e
theorem DNU.freeze : ∀ {s : Sh} {M : List (Addr × HO)} {v : List V} {d : List Dv}, DNU K F α s M v d → frzS s = true → ∀ {F1 H : Hp} {L : List (Addr × HO)}, Same F F1 → Led H F1 (M ++ L) → ∃ F2, Same F1 F2 ∧ Led H F2 L ∧ DdA K F2 v d
  | _, _, _, _, .nil, _, F1, H, L, s, D => ⟨F1, Same.refl _, D, .nil⟩
  | _, _, _, _, .cons h t, e, F1, H, L, s, D => by
    rw [List.append_assoc] at D
    obtain ⟨F2, s2, D2, hd⟩ := DN.freeze h e s D
    obtain ⟨F3, s3, D3, ht⟩ := DNU.freeze t e (s.trans s2) D2
    exact ⟨F3, s2.trans s3, D3, .cons (hd.mono (Le.of s3)) ht⟩
theorem DNK.freeze : ∀ {s : Sh} {M : List (Addr × HO)} {v : List (Key × V)} {d : List (Key × Dv)}, DNK K F α s M v d → frzS s = true → ∀ {F1 H : Hp} {L : List (Addr × HO)}, Same F F1 → Led H F1 (M ++ L) → ∃ F2, Same F1 F2 ∧ Led H F2 L ∧ DdK K F2 v d
  | _, _, _, _, .nil, _, F1, H, L, s, D => ⟨F1, Same.refl _, D, .nil⟩
  | _, _, _, _, .cons h t, e, F1, H, L, s, D => by
    rw [List.append_assoc] at D
    obtain ⟨F2, s2, D2, hd⟩ := DN.freeze h e s D
    obtain ⟨F3, s3, D3, ht⟩ := DNK.freeze t e (s.trans s2) D2
    exact ⟨F3, s2.trans s3, D3, .cons (hd.mono (Le.of s3)) ht⟩
theorem DNA.freeze : ∀ {s : Sh} {M : List (Addr × HO)} {v : List V} {d : List Dv}, DNA K F α s M v d → frzS s = true → ∀ {F1 H : Hp} {L : List (Addr × HO)}, Same F F1 → Led H F1 (M ++ L) → ∃ F2, Same F1 F2 ∧ Led H F2 L ∧ DdA K F2 v d
  | _, _, _, _, .nil, _, F1, H, L, s, D => ⟨F1, Same.refl _, D, .nil⟩
  | _, _, _, _, .cons h t, e, F1, H, L, s, D => by
    have e : (frzS _ && frzS _) = true := e
    rw [Bool.and_eq_true] at e
    rw [List.append_assoc] at D
    obtain ⟨F2, s2, D2, hd⟩ := DN.freeze h e.1 s D
    obtain ⟨F3, s3, D3, ht⟩ := DNA.freeze t e.2 (s.trans s2) D2
    exact ⟨F3, s2.trans s3, D3, .cons (hd.mono (Le.of s3)) ht⟩
end
theorem DN.ref {s : Sh} {M : List (Addr × HO)} {v : V} {d : Dv} (h : DN K F α s M v d) (n : s ≠ .fr) : ∃ a, v = .ref a := by
  cases h <;> first | exact ⟨_, rfl⟩ | exact absurd rfl n
def nthS : Sh → Nat → Option Sh
  | .cn s _, 0 => some s
  | .cn _ t, n + 1 => nthS t n
  | _, _ => none
theorem DNA.pick : ∀ {ss s : Sh} {j : Nat} {L : List (Addr × HO)} {xs : List V} {ds : List Dv}, DNA K F α ss L xs ds → nthS ss j = some s → ∃ v d M, xs[j]? = some v ∧ ds[j]? = some d ∧ M.Sublist L ∧ DN K F α s M v d
  | _, _, 0, _, _, _, .cons h r, e => by cases e; exact ⟨_, _, _, rfl, rfl, List.sublist_append_left _ _, h⟩
  | _, _, j + 1, _, _, _, .cons h r, e => by
    obtain ⟨v, d, M, e1, e2, s, q⟩ := DNA.pick r (j := j) e
    exact ⟨v, d, M, e1, e2, s.trans (List.sublist_append_right _ _), q⟩
  | _, _, _, _, _, _, .nil, e => by cases e
theorem DNA.len : ∀ {ss : Sh} {L : List (Addr × HO)} {xs : List V} {ds : List Dv}, DNA K F α ss L xs ds → xs.length = ds.length
  | _, _, _, _, .nil => rfl
  | _, _, _, _, .cons _ r => congrArg (· + 1) (DNA.len r)

/-! ### slots of trees -/
def slS (t : Option Nat) (s : Sh) (d : Dv) : Sl := match s with
  | .fr => .sh d
  | .fl => .ow t d
  | s => .on t s d
def getS (s : Sh) (δ : Env) (i : Nat) : Option (Option Nat × Dv) := match δ[i]? with
  | some (.ow t d) => if s = .fl then some (t, d) else none
  | some (.on t s' d) => if s = s' then some (t, d) else none
  | _ => none
variable {σ : L2.St} {δ : Env} {L R : List (Addr × HO)}
theorem RelS.at_S (h : RelS K F α σ δ L) {s : Sh} {i : Nat} {t : Option Nat} {d : Dv} (e : getS s δ i = some (t, d)) : ∃ v M L1 L2, L = L1 ++ (M ++ L2) ∧ σ[i]? = some (some v) ∧ DN K F α s M v d ∧ (∀ k, t = some k → v = .ref (α k)) ∧ RelS K F α σ (δ.set i .no) (L1 ++ L2) := by
  unfold getS at e
  split at e
  · rename_i t' d' q
    split at e
    · rename_i es
      cases e; subst es
      obtain ⟨a, o, L1, L2, e1, e2, h1, h2, -, -, k3⟩ := h.ow_at q
      exact ⟨.ref a, [(a, o)], L1, L2, by rw [e1]; rfl, e2, .fl h1, fun k ek => by rw [h2 k ek], k3 _ (Le.refl _)⟩
    · cases e
  · rename_i t' s' d' q
    split at e
    · rename_i es
      cases e; subst es
      obtain ⟨v, M, L1, L2, e1, e2, h1, h2, -, -, k3, -⟩ := h.on_at q
      exact ⟨v, M, L1, L2, e1, e2, h1, h2, k3 _ (Le.refl _)⟩
    · cases e
  · cases e
theorem put_self {β : Type} : ∀ {l : List β} {i : Nat} {x : β}, l[i]? = some x → l.set i x = l
  | _ :: _, 0, _, h => by cases h; rfl
  | y :: l, i + 1, x, h => congrArg (y :: ·) (put_self (l := l) h)
theorem RelS.put_lb (h : RelS K F α σ δ L) {i : Nat} {v : V} {M : List (Addr × HO)} {s : Sh} {d : Dv} {t : Option Nat} (e : δ[i]? = some .no) (r : DN K F α s M v d) (ht : ∀ k, t = some k → v = .ref (α k)) : ∃ L', L'.Perm (M ++ L) ∧ RelS K F α (σ.set i (some v)) (δ.set i (.on t s d)) L' := by
  induction h generalizing i with
  | nil => cases e
  | no q ih => cases i with
    | zero => exact ⟨_, List.Perm.refl _, .on r ht q⟩
    | succ i => obtain ⟨L', p, q⟩ := ih (i := i) e; exact ⟨L', p, .no q⟩
  | sh h q ih => cases i with
    | zero => cases e
    | succ i => obtain ⟨L', p, q⟩ := ih (i := i) e; exact ⟨L', p, .sh h q⟩
  | ow h hl q ih => cases i with
    | zero => cases e
    | succ i =>
      obtain ⟨L', p, q⟩ := ih (i := i) e
      exact ⟨_, (p.cons _).trans List.perm_middle.symm, .ow h hl q⟩
  | @on w s0 d0 t0 σ δ M0 L h hl q ih => cases i with
    | zero => cases e
    | succ i =>
      obtain ⟨L', p, q⟩ := ih (i := i) e
      refine ⟨_, ?_, .on h hl q⟩
      refine (List.Perm.append (List.Perm.refl M0) p).trans ?_
      rw [← List.append_assoc, ← List.append_assoc]
      exact List.Perm.append List.perm_append_comm (List.Perm.refl _)
theorem RelS.lower (h : RelS K F α σ δ L) {i : Nat} {t : Option Nat} {d : Dv} {s : Sh} (e : δ[i]? = some (.on t s d)) : ∃ L', L'.Perm L ∧ RelS K F α σ (δ.set i (slS t s d)) L' := by
  obtain ⟨v, M, L1, L2, e1, e2, h1, h2, k1, k2, k3, k4⟩ := h.on_at e
  cases s with
  | fr =>
    cases h1 with
    | fr h1 => exact ⟨_, by rw [e1]; exact List.Perm.refl _, k2 _ _ (Le.refl _) h1⟩
  | fl =>
    cases h1 with
    | fl h1 => exact ⟨_, by rw [e1]; exact List.Perm.refl _, k4 _ _ _ _ (Le.refl _) rfl h1⟩
  | _ => exact ⟨L, List.Perm.refl _, by show RelS K F α σ (δ.set i (.on t _ d)) L; rw [put_self e]; exact h⟩
/-- a tree is put into a slot that holds its value -/
theorem RelS.back (h : RelS K F α σ δ L) {i : Nat} {v : V} {M : List (Addr × HO)} {s : Sh} {d : Dv} {t : Option Nat} (hi : i < δ.length) (hσ : σ[i]? = some (some v)) (r : DN K F α s M v d) (ht : ∀ k, t = some k → v = .ref (α k)) :
    ∃ L', RelS K F α σ (δ.set i (slS t s d)) L' ∧ ∀ {H : Hp} {R : List (Addr × HO)}, Led H F (M ++ (L ++ R)) → Led H F (L' ++ R) := by
  obtain ⟨L1, sl, q⟩ := h.kill i
  obtain ⟨L2, p, w⟩ := q.put_lb (i := i) (v := v) (M := M) (s := s) (d := d) (t := t) (by simp [hi]) r ht
  rw [set_set, put_self hσ] at w
  obtain ⟨L3, p3, w3⟩ := w.lower (i := i) (t := t) (d := d) (s := s) (by simp [hi])
  rw [set_set] at w3
  refine ⟨L3, w3, fun {H R} D => ?_⟩
  have D1 : Led H F ((M ++ L1) ++ R) := by
    rw [List.append_assoc]
    exact FL.Led.sub D ((List.Sublist.refl M).append (sl.append (List.Sublist.refl R)))
  exact FL.Led.perm D1 ((p3.trans p).append (List.Perm.refl R))
theorem RelS.new_S (h : RelS K F α σ δ L) {i : Nat} {v : V} {M : List (Addr × HO)} {s : Sh} {d : Dv} (hi : i < δ.length) (r : DN K F α s M v d) :
    ∃ L', RelS K F α (σ.set i (some v)) (δ.set i (slS none s d)) L' ∧ ∀ {H : Hp} {R : List (Addr × HO)}, Led H F (M ++ (L ++ R)) → Led H F (L' ++ R) := by
  obtain ⟨L1, sl, q⟩ := h.kill i
  obtain ⟨L2, p, w⟩ := q.put_on (i := i) (v := v) (M := M) (s := s) (d := d) (by simp [hi]) r
  rw [set_set] at w
  obtain ⟨L3, p3, w3⟩ := w.lower (i := i) (t := none) (d := d) (s := s) (by simp [hi])
  rw [set_set] at w3
  refine ⟨L3, w3, fun {H R} D => ?_⟩
  have D1 : Led H F ((M ++ L1) ++ R) := by
    rw [List.append_assoc]
    exact FL.Led.sub D ((List.Sublist.refl M).append (sl.append (List.Sublist.refl R)))
  exact FL.Led.perm D1 ((p3.trans p).append (List.Perm.refl R))

/-! ### expressions that make a tree -/
def DEN (K : PySem.W.Frag) (s : Sh) (te : TE) (fo : Env → Option (Dv × Env)) : Prop :=
  ∀ (α : Nat → Addr) (σ : L2.St) (H F : Hp) (L R : List (Addr × HO)) (δ δ' : Env) (d : Dv) (Q : VK), Led H F (L ++ R) → RelS K F α σ δ L → fo δ = some (d, δ') →
    (∀ v M H' F' L', Same F F' → Led H' F' (M ++ (L' ++ R)) → RelS K F' α σ δ' L' → DN K F' α s M v d → Q v H') → te σ H Q
theorem den_o {te : TE} {fo : Env → Option (Dv × Env)} (h : DEO K te fo) : DEN K .fl te fo := fun α σ H F L R δ δ' d Q D S e q =>
  h α σ H F L R δ δ' d Q D S e fun a o H' F' L' s D' S' r => q (.ref a) [(a, o)] H' F' L' s D' S' (.fl r)
theorem do_n {te : TE} {fo : Env → Option (Dv × Env)} (h : DEN K .fl te fo) : DEO K te fo := fun α σ H F L R δ δ' d Q D S e q =>
  h α σ H F L R δ δ' d Q D S e fun v M H' F' L' s D' S' r => by
    cases r with
    | fl r => exact q _ _ H' F' L' s D' S' r
def oDv (fe : Env → Option (Rv × Env)) (δ : Env) : Option (Dv × Env) := match fe δ with
  | some (.dv d, δ') => some (d, δ')
  | _ => none
theorem den_e {te : TE} {fe : Env → Option (Rv × Env)} (h : DE K te fe) : DEN K .fr te (oDv fe) := fun α σ H F L R δ δ' d Q D S e q => by
  unfold oDv at e
  split at e
  · rename_i d' δ1 e1
    cases e
    exact h α σ H F L R δ _ _ _ D S e1 fun v H' F' L' s D' S' r => q v [] H' F' L' s D' S' (.fr r)
  · cases e
theorem de_n {s : Sh} {te : TE} {fo : Env → Option (Dv × Env)} (hs : frzS s = true) (h : DEN K s te fo) : DE K te (fZ fo) := fun α σ H F L R δ δ' r Q D S e q => by
  unfold fZ at e
  split at e
  · rename_i d δ1 e1
    cases e
    refine h α σ H F L R δ _ _ _ D S e1 fun v M H' F' L' s1 D' S' r => ?_
    obtain ⟨F2, s2, D2, hd⟩ := r.freeze hs (Same.refl _) D'
    exact q v H' F2 L' (s1.trans s2) D2 (S'.mono (Le.of s2)) hd
  · cases e
/-- an item of a tuple of trees; the rest is dropped -/
def oAtN (j : Nat) (fo : Env → Option (Dv × Env)) (δ : Env) : Option (Dv × Env) := match fo δ with
  | some (.tup ds, δ') => match ds[j]? with
    | some d => some (d, δ')
    | none => none
  | _ => none
theorem den_at {ss s : Sh} (j : Nat) {te : TE} {fo : Env → Option (Dv × Env)} (hj : nthS ss j = some s) (h : DEN K (.tp ss) te fo) : DEN K s (tOp (rIx K) te (tC (.int (j : Int)))) (oAtN j fo) := by
  intro α σ H F L R δ δ' d Q D S e q
  unfold oAtN at e
  split at e
  · rename_i ds δ1 e1
    split at e
    · rename_i d' e2
      cases e
      refine h α σ H F L R δ _ _ _ D S e1 fun v M H' F' L' s1 D' S' r => ?_
      cases r with
      | tp ht hs =>
        obtain ⟨w, d2, M2, q1, q2, sl, r2⟩ := hs.pick hj
        rw [e2] at q2
        cases q2
        refine .inr (.inl ⟨_, _, _, w, rfl, rfl, SqT.of (D'.ext _ _ ht), at_nat (k := j) q1, ?_⟩)
        exact q w M2 H' F' L' s1 (FL.Led.sub D' (sl.append (List.Sublist.refl _))) S' r2
    · cases e
  · cases e

/-! ### arguments -/
inductive Uv where
  | dv (d : Dv) | al (i : Nat) | nw (s : Sh) (d : Dv)
inductive UvR (K : PySem.W.Frag) (F : Hp) (α : Nat → Addr) (σ : L2.St) : List V → List Uv → List (Addr × HO) → Prop
  | nil : UvR K F α σ [] [] []
  | dv {v : V} {d : Dv} {vs : List V} {us : List Uv} {E : List (Addr × HO)} (h : Dd K F v d) (t : UvR K F α σ vs us E) : UvR K F α σ (v :: vs) (.dv d :: us) E
  | al {v : V} {i : Nat} {vs : List V} {us : List Uv} {E : List (Addr × HO)} (h : σ[i]? = some (some v)) (t : UvR K F α σ vs us E) : UvR K F α σ (v :: vs) (.al i :: us) E
  | nw {v : V} {s : Sh} {d : Dv} {M : List (Addr × HO)} {vs : List V} {us : List Uv} {E : List (Addr × HO)} (h : DN K F α s M v d) (t : UvR K F α σ vs us E) : UvR K F α σ (v :: vs) (.nw s d :: us) (M ++ E)
def DUA (K : PySem.W.Frag) (ta : TA) (fa : Env → Option (List Uv × Env)) : Prop :=
  ∀ (α : Nat → Addr) (σ : L2.St) (H F : Hp) (L R : List (Addr × HO)) (δ δ' : Env) (us : List Uv) (Q : List V → Hp → Prop), Led H F (L ++ R) → RelS K F α σ δ L → fa δ = some (us, δ') →
    (∀ vs H' F' L' E, Same F F' → Led H' F' (E ++ (L' ++ R)) → RelS K F' α σ δ' L' → UvR K F' α σ vs us E → Q vs H') → ta σ H Q
def uaNil (δ : Env) : Option (List Uv × Env) := some ([], δ)
def uaE (fe : Env → Option (Rv × Env)) (fa : Env → Option (List Uv × Env)) (δ : Env) : Option (List Uv × Env) := match fe δ with
  | some (r, δ1) => match fa δ1 with
    | some (us, δ2) => some ((match r with | .dv d => .dv d | .al i => .al i) :: us, δ2)
    | none => none
  | none => none
def uaN (s : Sh) (fo : Env → Option (Dv × Env)) (fa : Env → Option (List Uv × Env)) (δ : Env) : Option (List Uv × Env) := match fo δ with
  | some (d, δ1) => match fa δ1 with
    | some (us, δ2) => some (.nw s d :: us, δ2)
    | none => none
  | none => none
theorem du_nil : DUA K tNil uaNil := by
  intro α σ H F L R δ δ' us Q D S e q
  cases e
  exact q [] H F L [] (Same.refl _) D S .nil
theorem du_e {te : TE} {ta : TA} {fe : Env → Option (Rv × Env)} {fa : Env → Option (List Uv × Env)} (he : DE K te fe) (ha : DUA K ta fa) : DUA K (tCons te ta) (uaE fe fa) := by
  intro α σ H F L R δ δ' us Q D S e q
  unfold uaE at e
  split at e
  · rename_i r δ1 e1
    split at e
    · rename_i us' δ2 e2
      cases e
      refine he α σ H F L R δ δ1 _ _ D S e1 fun v H1 F1 L1 s1 D1 S1 r1 => ?_
      refine ha α σ H1 F1 L1 R δ1 _ us' _ D1 S1 e2 fun vs H2 F2 M2 E2 s2 D2 S2 r2 => ?_
      cases r with
      | dv d => exact q _ H2 F2 M2 E2 (s1.trans s2) D2 S2 (.dv (Dd.mono (Le.of s2) r1) r2)
      | al i => exact q _ H2 F2 M2 E2 (s1.trans s2) D2 S2 (.al r1 r2)
    · cases e
  · cases e
theorem du_n {s : Sh} {te : TE} {ta : TA} {fo : Env → Option (Dv × Env)} {fa : Env → Option (List Uv × Env)} (he : DEN K s te fo) (ha : DUA K ta fa) : DUA K (tCons te ta) (uaN s fo fa) := by
  intro α σ H F L R δ δ' us Q D S e q
  unfold uaN at e
  split at e
  · rename_i d δ1 e1
    split at e
    · rename_i us' δ2 e2
      cases e
      refine he α σ H F L R δ δ1 _ _ D S e1 fun v M H1 F1 L1 s1 D1 S1 h1 => ?_
      have D1' : Led H1 F1 (L1 ++ (M ++ R)) := FL.Led.perm D1 (by
        rw [← List.append_assoc, ← List.append_assoc]
        exact List.Perm.append List.perm_append_comm (List.Perm.refl _))
      refine ha α σ H1 F1 L1 (M ++ R) δ1 _ us' _ D1' S1 e2 fun vs H2 F2 M2 E2 s2 D2 S2 r2 => ?_
      refine q _ H2 F2 M2 (M ++ E2) (s1.trans s2) (FL.Led.perm D2 ?_) S2 (.nw (h1.mono (Le.of s2)) r2)
      rw [List.append_assoc]
      refine List.Perm.trans ?_ (List.Perm.append_left E2 (List.perm_append_comm_assoc M M2 R))
      exact List.perm_append_comm_assoc M E2 (M2 ++ R)
    · cases e
  · cases e
/-- what becomes of an argument: f: read; i: written, its shape before and after; m: taken -/
inductive Pk where
  | f | i (s s' : Sh) | m (s : Sh)
def takeU : List Pk → List Uv → Env → Option (List Dv × List (Option (Nat × Option Nat × Sh)) × Env)
  | [], [], δ => some ([], [], δ)
  | .f :: ps, .dv d :: us, δ => match takeU ps us δ with
    | some (ds, bs, δ') => some (d :: ds, bs, δ')
    | none => none
  | .i s s' :: ps, .al i :: us, δ => match getS s δ i with
    | some (t, d) => match takeU ps us (δ.set i .no) with
      | some (ds, bs, δ') => some (d :: ds, some (i, t, s') :: bs, δ')
      | none => none
    | none => none
  | .i s _ :: ps, .nw s2 d :: us, δ => if s = s2 then (match takeU ps us δ with
    | some (ds, bs, δ') => some (d :: ds, none :: bs, δ')
    | none => none) else none
  | .m s :: ps, .al i :: us, δ => match getS s δ i with
    | some (none, d) => match takeU ps us (δ.set i .no) with
      | some (ds, bs, δ') => some (d :: ds, bs, δ')
      | none => none
    | _ => none
  | .m s :: ps, .nw s2 d :: us, δ => if s = s2 then (match takeU ps us δ with
    | some (ds, bs, δ') => some (d :: ds, bs, δ')
    | none => none) else none
  | _, _, _ => none
def backU : List (Option (Nat × Option Nat × Sh)) → List Dv → Env → Option Env
  | [], [], δ => some δ
  | none :: bs, _ :: os, δ => backU bs os δ
  | some (i, t, s) :: bs, d :: os, δ => if i < δ.length then backU bs os (δ.set i (slS t s d)) else none
  | _, _, _ => none
inductive ArgU (K : PySem.W.Frag) (F : Hp) (α : Nat → Addr) : List Pk → List (Addr × HO) → List V → List Dv → Prop
  | nil : ArgU K F α [] [] [] []
  | f {v : V} {d : Dv} {ps : List Pk} {L : List (Addr × HO)} {vs : List V} {ds : List Dv} (h : Dd K F v d) (t : ArgU K F α ps L vs ds) : ArgU K F α (.f :: ps) L (v :: vs) (d :: ds)
  | i {s s' : Sh} {M : List (Addr × HO)} {v : V} {d : Dv} {ps : List Pk} {L : List (Addr × HO)} {vs : List V} {ds : List Dv} (h : DN K F α s M v d) (t : ArgU K F α ps L vs ds) : ArgU K F α (.i s s' :: ps) (M ++ L) (v :: vs) (d :: ds)
  | m {s : Sh} {M : List (Addr × HO)} {v : V} {d : Dv} {ps : List Pk} {L : List (Addr × HO)} {vs : List V} {ds : List Dv} (h : DN K F α s M v d) (t : ArgU K F α ps L vs ds) : ArgU K F α (.m s :: ps) (M ++ L) (v :: vs) (d :: ds)
inductive OutU (K : PySem.W.Frag) (F : Hp) (α : Nat → Addr) : List Pk → List (Addr × HO) → List V → List Dv → Prop
  | nil : OutU K F α [] [] [] []
  | f {v : V} {ps : List Pk} {L : List (Addr × HO)} {vs : List V} {ds : List Dv} (t : OutU K F α ps L vs ds) : OutU K F α (.f :: ps) L (v :: vs) ds
  | i {s s' : Sh} {M : List (Addr × HO)} {v : V} {d : Dv} {ps : List Pk} {L : List (Addr × HO)} {vs : List V} {ds : List Dv} (h : DN K F α s' M v d) (t : OutU K F α ps L vs ds) : OutU K F α (.i s s' :: ps) (M ++ L) (v :: vs) (d :: ds)
  | m {s : Sh} {v : V} {ps : List Pk} {L : List (Addr × HO)} {vs : List V} {ds : List Dv} (t : OutU K F α ps L vs ds) : OutU K F α (.m s :: ps) L (v :: vs) ds
inductive BackR (σ : L2.St) (α : Nat → Addr) : List Pk → List V → List (Option (Nat × Option Nat × Sh)) → Prop
  | nil : BackR σ α [] [] []
  | f {v : V} {ps : List Pk} {vs : List V} {bs : List (Option (Nat × Option Nat × Sh))} (t : BackR σ α ps vs bs) : BackR σ α (.f :: ps) (v :: vs) bs
  | m {s : Sh} {v : V} {ps : List Pk} {vs : List V} {bs : List (Option (Nat × Option Nat × Sh))} (t : BackR σ α ps vs bs) : BackR σ α (.m s :: ps) (v :: vs) bs
  | n {s s' : Sh} {v : V} {ps : List Pk} {vs : List V} {bs : List (Option (Nat × Option Nat × Sh))} (t : BackR σ α ps vs bs) : BackR σ α (.i s s' :: ps) (v :: vs) (none :: bs)
  | i {s s' : Sh} {v : V} {i : Nat} {k : Option Nat} {ps : List Pk} {vs : List V} {bs : List (Option (Nat × Option Nat × Sh))} (h : σ[i]? = some (some v)) (hk : ∀ n, k = some n → v = .ref (α n)) (t : BackR σ α ps vs bs) : BackR σ α (.i s s' :: ps) (v :: vs) (some (i, k, s') :: bs)
theorem perm3 {β : Type} (A B C D : List β) : (A ++ (B ++ (C ++ D))).Perm (C ++ (A ++ (B ++ D))) := by
  refine List.Perm.trans (List.Perm.append_left A (List.perm_append_comm_assoc B C D)) ?_
  exact List.perm_append_comm_assoc A C (B ++ D)
theorem take_ok : ∀ {ps : List Pk} {us : List Uv} {vs : List V} {E L : List (Addr × HO)} {δ δ' : Env} {ds : List Dv} {bs : List (Option (Nat × Option Nat × Sh))}, RelS K F α σ δ L → UvR K F α σ vs us E → takeU ps us δ = some (ds, bs, δ') →
    ∃ M L2, (E ++ L).Perm (M ++ L2) ∧ ArgU K F α ps M vs ds ∧ RelS K F α σ δ' L2 ∧ BackR σ α ps vs bs
  | [], _, _, _, L, δ, _, _, _, S, .nil, e => by cases e; exact ⟨[], L, List.Perm.refl _, .nil, S, .nil⟩
  | .f :: ps, _, _, E, L, δ, δ', ds, bs, S, .dv (us := us) h t, e => by
    unfold takeU at e
    split at e
    · rename_i ds' bs' δ2 e2
      cases e
      obtain ⟨M, L2, p, a, S2, b⟩ := take_ok (ps := ps) S t e2
      exact ⟨M, L2, p, .f h a, S2, .f b⟩
    · cases e
  | .i s s' :: ps, _, _, E, L, δ, δ', ds, bs, S, .al (i := i) (us := us) h t, e => by
    unfold takeU at e
    split at e
    · rename_i tt d e1
      split at e
      · rename_i ds' bs' δ2 e2
        cases e
        obtain ⟨v, M1, L1, L1', el, hσ, dn, hl, S1⟩ := S.at_S e1
        obtain ⟨M, L2, p, a, S2, b⟩ := take_ok (ps := ps) S1 t e2
        rw [hσ] at h
        cases h
        refine ⟨M1 ++ M, L2, ?_, .i dn a, S2, .i hσ hl b⟩
        rw [el, List.append_assoc]
        exact (perm3 E L1 M1 L1').trans (List.Perm.append_left M1 p)
      · cases e
    · cases e
  | .i s s' :: ps, _, _, _, L, δ, δ', ds, bs, S, .nw (s := s2) (M := M0) (us := us) (E := E) h t, e => by
    unfold takeU at e
    split at e
    · rename_i es
      subst es
      split at e
      · rename_i ds' bs' δ2 e2
        cases e
        obtain ⟨M, L2, p, a, S2, b⟩ := take_ok (ps := ps) S t e2
        refine ⟨M0 ++ M, L2, ?_, .i h a, S2, .n b⟩
        rw [List.append_assoc, List.append_assoc]
        exact List.Perm.append_left M0 p
      · cases e
    · cases e
  | .m s :: ps, _, _, E, L, δ, δ', ds, bs, S, .al (i := i) (us := us) h t, e => by
    unfold takeU at e
    split at e
    · rename_i d e1
      split at e
      · rename_i ds' bs' δ2 e2
        cases e
        obtain ⟨v, M1, L1, L1', el, hσ, dn, hl, S1⟩ := S.at_S e1
        obtain ⟨M, L2, p, a, S2, b⟩ := take_ok (ps := ps) S1 t e2
        rw [hσ] at h
        cases h
        refine ⟨M1 ++ M, L2, ?_, .m dn a, S2, .m b⟩
        rw [el, List.append_assoc]
        exact (perm3 E L1 M1 L1').trans (List.Perm.append_left M1 p)
      · cases e
    · cases e
  | .m s :: ps, _, _, _, L, δ, δ', ds, bs, S, .nw (s := s2) (M := M0) (us := us) (E := E) h t, e => by
    unfold takeU at e
    split at e
    · rename_i es
      subst es
      split at e
      · rename_i ds' bs' δ2 e2
        cases e
        obtain ⟨M, L2, p, a, S2, b⟩ := take_ok (ps := ps) S t e2
        refine ⟨M0 ++ M, L2, ?_, .m h a, S2, .m b⟩
        rw [List.append_assoc, List.append_assoc]
        exact List.Perm.append_left M0 p
      · cases e
    · cases e
  | [], _, _, _, _, _, _, _, _, _, .dv _ _, e => by cases e
  | [], _, _, _, _, _, _, _, _, _, .al _ _, e => by cases e
  | [], _, _, _, _, _, _, _, _, _, .nw _ _, e => by cases e
  | .f :: _, _, _, _, _, _, _, _, _, _, .nil, e => by cases e
  | .f :: _, _, _, _, _, _, _, _, _, _, .al _ _, e => by cases e
  | .f :: _, _, _, _, _, _, _, _, _, _, .nw _ _, e => by cases e
  | .i _ _ :: _, _, _, _, _, _, _, _, _, _, .nil, e => by cases e
  | .i _ _ :: _, _, _, _, _, _, _, _, _, _, .dv _ _, e => by cases e
  | .m _ :: _, _, _, _, _, _, _, _, _, _, .nil, e => by cases e
  | .m _ :: _, _, _, _, _, _, _, _, _, _, .dv _ _, e => by cases e
theorem back_ok : ∀ {ps : List Pk} {vs : List V} {M L : List (Addr × HO)} {δ δ' : Env} {os : List Dv} {bs : List (Option (Nat × Option Nat × Sh))}, RelS K F α σ δ L → OutU K F α ps M vs os → BackR σ α ps vs bs → backU bs os δ = some δ' →
    ∃ L', RelS K F α σ δ' L' ∧ ∀ {H : Hp} {R : List (Addr × HO)}, Led H F (M ++ (L ++ R)) → Led H F (L' ++ R)
  | _, _, _, L, δ, _, _, _, S, .nil, .nil, e => by cases e; exact ⟨L, S, fun D => D⟩
  | _, _, _, L, δ, _, _, _, S, .f t, .f b, e => back_ok S t b e
  | _, _, _, L, δ, _, _, _, S, .m t, .m b, e => back_ok S t b e
  | _, _, _, L, δ, _, _, _, S, .i (M := M0) h t, .n b, e => by
    obtain ⟨L', S', w⟩ := back_ok S t b e
    exact ⟨L', S', fun D => w (FL.Led.sub D (by rw [List.append_assoc]; exact List.sublist_append_right _ _))⟩
  | _, _, _, L, δ, _, _, _, S, .i (M := M0) (L := M1) h t, .i hσ hk b, e => by
    unfold backU at e
    split at e
    · rename_i hi
      obtain ⟨L1, S1, w1⟩ := S.back hi hσ h hk
      obtain ⟨L', S', w⟩ := back_ok S1 t b e
      refine ⟨L', S', fun {H R} D => w ?_⟩
      have D1 : Led H F (M0 ++ (L ++ (M1 ++ R))) := FL.Led.perm D (by
        rw [List.append_assoc]
        exact List.Perm.append_left M0 (List.perm_append_comm_assoc L M1 R))
      exact FL.Led.perm (w1 D1) (List.perm_append_comm_assoc M1 L1 R)
    · cases e

/-! ### the contract -/
def okPk : List Pk → Bool
  | [] => true
  | .f :: ps => okPk ps
  | .i s s' :: ps => noLb s && noLb s' && !decide (s = .fr) && okPk ps
  | .m s :: ps => noLb s && okPk ps
def spU (K : PySem.W.Frag) (ps : List Pk) (r : Sh) (sem : List Dv → Option (Dv × List Dv)) : Sp := fun vs H Q _ => ∃ (α : Nat → Addr) (F : Hp) (M L : List (Addr × HO)) (ds : List Dv) (d : Dv) (outs : List Dv), ArgU K F α ps M vs ds ∧ Led H F (M ++ L) ∧ sem ds = some (d, outs) ∧
  ∀ v H' F' α' Mr M', Same F F' → Led H' F' (Mr ++ (M' ++ L)) → DN K F' α' r Mr v d → OutU K F' α' ps M' vs outs → Q v H'
def envU : List Pk → Nat → List Dv → Env
  | .f :: ps, j, d :: ds => .sh d :: envU ps (j + 1) ds
  | .i s _ :: ps, j, d :: ds => slS (some j) s d :: envU ps (j + 1) ds
  | .m s :: ps, j, d :: ds => slS none s d :: envU ps (j + 1) ds
  | _, _, _ => []
def resU (r : Sh) : Ctl → Option Dv
  | .rt d => if r = .fr then some d else none
  | .nx => if r = .fr then some .non else none
  | .ro d => if r = .fl then some d else none
  | .rn s d => if s = r then some d else none
  | _ => none
def outU : List Pk → Nat → Env → Option (List Dv)
  | [], _, _ => some []
  | .i _ s' :: ps, j, δ => match getS s' δ j with
    | some (some k, d) => if k = j then (match outU ps (j + 1) δ with
      | some ds => some (d :: ds)
      | none => none) else none
    | _ => none
  | .f :: ps, j, δ => outU ps (j + 1) δ
  | .m _ :: ps, j, δ => outU ps (j + 1) δ
def semU (ps : List Pk) (r : Sh) (m : Nat) (fs : Fs) (ds : List Dv) : Option (Dv × List Dv) := match fs (envU ps 0 ds ++ List.replicate m .no) with
  | some (c, δ') => match resU r c, outU ps 0 δ' with
    | some d, some os => some (d, os)
    | _, _ => none
  | none => none
theorem ArgU.len : ∀ {ps : List Pk} {M : List (Addr × HO)} {vs : List V} {ds : List Dv}, ArgU K F α ps M vs ds → vs.length = ps.length
  | _, _, _, _, .nil => rfl
  | _, _, _, _, .f _ t => congrArg (· + 1) (ArgU.len t)
  | _, _, _, _, .i _ t => congrArg (· + 1) (ArgU.len t)
  | _, _, _, _, .m _ t => congrArg (· + 1) (ArgU.len t)
def addrV : V → Addr
  | .ref a => a
  | _ => 0
theorem slS_rel {s : Sh} {t : Option Nat} {v : V} {d : Dv} {M : List (Addr × HO)} {τ : List (Option V)} (h : DN K F α s M v d) (ht : ∀ k, t = some k → v = .ref (α k)) (r : RelS K F α τ δ L) : RelS K F α (some v :: τ) (slS t s d :: δ) (M ++ L) := by
  cases s with
  | fr =>
    cases h with
    | fr h => exact .sh h r
  | fl =>
    cases h with
    | fl h => exact .ow h (fun k e => by have := ht k e; injection this) r
  | _ => exact .on h ht r
theorem start_U : ∀ {ps : List Pk} {M : List (Addr × HO)} {vs : List V} {ds : List Dv} {j : Nat} {β : Nat → Addr} {τ : List (Option V)} {δ : Env}, ArgU K F α ps M vs ds → okPk ps = true → (∀ k v, vs[k]? = some v → β (j + k) = addrV v) → RelS K F β τ δ [] → RelS K F β (vs.map some ++ τ) (envU ps j ds ++ δ) M
  | _, _, _, _, j, β, τ, δ, .nil, _, _, S => S
  | _, _, _, _, j, β, τ, δ, .f h t, e, hb, S => .sh h (start_U t e (fun k v hk => by rw [show j + 1 + k = j + (k + 1) by omega]; exact hb (k + 1) v hk) S)
  | _, _, _, _, j, β, τ, δ, .i (s := s) h t, e, hb, S => by
    have e : (noLb _ && noLb _ && !decide _ && okPk _) = true := e
    simp only [Bool.and_eq_true] at e
    refine slS_rel (h.al e.1.1.1) (fun k ek => ?_) (start_U t e.2 (fun k v hk => by rw [show j + 1 + k = j + (k + 1) by omega]; exact hb (k + 1) v hk) S)
    cases ek
    obtain ⟨a, ea⟩ := h.ref (by have := e.1.2; simpa using this)
    have := hb 0 _ rfl
    rw [ea] at this ⊢
    rw [show j + 0 = j from rfl] at this
    rw [this]; rfl
  | _, _, _, _, j, β, τ, δ, .m h t, e, hb, S => by
    have e : (noLb _ && okPk _) = true := e
    simp only [Bool.and_eq_true] at e
    exact slS_rel (h.al e.1) (fun k ek => by cases ek) (start_U t e.2 (fun k v hk => by rw [show j + 1 + k = j + (k + 1) by omega]; exact hb (k + 1) v hk) S)
theorem getS_set {s : Sh} {i j : Nat} {x : Sl} (n : i ≠ j) : getS s (δ.set i x) j = getS s δ j := by
  unfold getS
  rw [List.getElem?_set_ne n]
theorem outU_set {x : Sl} : ∀ {ps : List Pk} {i j : Nat} {δ : Env}, i < j → outU ps j (δ.set i x) = outU ps j δ
  | [], _, _, _, _ => rfl
  | .f :: ps, i, j, δ, h => outU_set (ps := ps) (by omega)
  | .m _ :: ps, i, j, δ, h => outU_set (ps := ps) (by omega)
  | .i _ s' :: ps, i, j, δ, h => by
    unfold outU
    rw [getS_set (by omega), outU_set (ps := ps) (by omega)]
theorem out_ok : ∀ {ps : List Pk} {M0 : List (Addr × HO)} {vs : List V} {ds os : List Dv} {j : Nat} {F0 : Hp} {β : Nat → Addr} {σ : L2.St} {δ : Env} {L : List (Addr × HO)}, ArgU K F0 α ps M0 vs ds → okPk ps = true → (∀ k v, vs[k]? = some v → β (j + k) = addrV v) → RelS K F β σ δ L → outU ps j δ = some os →
    ∃ M Z, L.Perm (M ++ Z) ∧ OutU K F β ps M vs os
  | _, _, _, _, _, j, F0, β, σ, δ, L, .nil, _, _, S, e => by cases e; exact ⟨[], L, List.Perm.refl _, .nil⟩
  | _, _, _, _, _, j, F0, β, σ, δ, L, .f h t, ok, hb, S, e => by
    obtain ⟨M, Z, p, o⟩ := out_ok t ok (fun k v hk => by rw [show j + 1 + k = j + (k + 1) by omega]; exact hb (k + 1) v hk) S e
    exact ⟨M, Z, p, .f o⟩
  | _, _, _, _, _, j, F0, β, σ, δ, L, .m h t, ok, hb, S, e => by
    have ok : (noLb _ && okPk _) = true := ok
    simp only [Bool.and_eq_true] at ok
    obtain ⟨M, Z, p, o⟩ := out_ok t ok.2 (fun k v hk => by rw [show j + 1 + k = j + (k + 1) by omega]; exact hb (k + 1) v hk) S e
    exact ⟨M, Z, p, .m o⟩
  | _, _, _, _, _, j, F0, β, σ, δ, L, .i h t, ok, hb, S, e => by
    have ok : (noLb _ && noLb _ && !decide _ && okPk _) = true := ok
    simp only [Bool.and_eq_true] at ok
    unfold outU at e
    split at e
    · rename_i k d e1
      split at e
      · rename_i ek
        subst ek
        split at e
        · rename_i ds' e2
          cases e
          obtain ⟨v, M1, L1, L2, el, hσ, dn, hl, S1⟩ := S.at_S e1
          rw [← outU_set (x := .no) (i := k) (by omega)] at e2
          obtain ⟨M, Z, p, o⟩ := out_ok t ok.2 (fun n v hn => by rw [show k + 1 + n = k + (n + 1) by omega]; exact hb (n + 1) v hn) S1 e2
          obtain ⟨a, ea⟩ := h.ref (by have := ok.1.2; simpa using this)
          have hv := hl k rfl
          have := hb 0 _ rfl
          rw [show k + 0 = k from rfl, ea] at this
          have hv : v = .ref a := by rw [hv, this]; rfl
          subst hv; subst ea
          refine ⟨M1 ++ M, Z, ?_, .i dn o⟩
          rw [el, List.append_assoc]
          exact (List.perm_append_comm_assoc L1 M1 L2).trans (List.Perm.append_left M1 p)
        · cases e
      · cases e
    · cases e
theorem run_U {ps : List Pk} {r : Sh} {t : TS} {fs : Fs} {N : List Str} {m : Nat} {vs : List V} {H : Hp} {Q : VK} {E : XK} (ok : okPk ps = true) (ht : DS K t fs) (hN : N.length - ps.length = m) (h : spU K ps r (semU ps r m fs) vs H Q E) : t { nx := fun _ H' => Q .non H', rt := Q } (L2.start N vs) H := by
  obtain ⟨α, F, M, L, ds, d, outs, ha, D, e, q⟩ := h
  have hb : ∀ (k : Nat) (v : V), vs[k]? = some v → (fun (k : Nat) => match vs[k]? with | some v => addrV v | none => 0) (0 + k) = addrV v := fun k v hk => by
    show (match vs[0 + k]? with | some v => addrV v | none => 0) = _
    rw [Nat.zero_add, hk]
  have S : RelS K F (fun (k : Nat) => match vs[k]? with | some v => addrV v | none => 0) (L2.start N vs) (envU ps 0 ds ++ List.replicate m .no) M := by
    unfold L2.start
    rw [ha.len, hN]
    exact start_U ha ok hb (relS_no m _ (by simp))
  generalize hβ : (fun (k : Nat) => match vs[k]? with | some v => addrV v | none => 0) = β at S hb
  unfold semU at e
  split at e
  · rename_i c δ' e1
    split at e
    · rename_i d' os e2 e3
      cases e
      have fin : ∀ {σ' : L2.St} {H' F' : Hp} {L' Mr : List (Addr × HO)} {v : V}, Same F F' → Led H' F' (Mr ++ (L' ++ L)) → RelS K F' β σ' δ' L' → DN K F' β r Mr v d → Q v H' := fun s D' S' dn => by
        obtain ⟨M', Z, p, o⟩ := out_ok ha ok hb S' e3
        refine q _ _ _ β _ M' s (FL.Led.sub (FL.Led.perm D' (List.Perm.append_left _ ((p.symm).append (List.Perm.refl L)))) ?_) dn o
        rw [List.append_assoc]
        exact (List.Sublist.refl _).append ((List.Sublist.refl _).append (List.sublist_append_right _ _))
      unfold resU at e2
      split at e2
      · split at e2
        · rename_i er
          cases e2; subst er
          exact ht _ _ H F M L _ _ _ _ D S e1 fun v H' F' L' σ' s D' S' r => fin (Mr := []) s D' S' (.fr r)
        · cases e2
      · split at e2
        · rename_i er
          cases e2; subst er
          exact ht _ _ H F M L _ _ _ _ D S e1 fun σ' H' F' L' s D' S' => fin (Mr := []) s D' S' (.fr .non)
        · cases e2
      · split at e2
        · rename_i er
          cases e2; subst er
          exact ht _ _ H F M L _ _ _ _ D S e1 fun a o H' F' L' σ' s D' S' r => fin (Mr := [(a, o)]) s D' S' (.fl r)
        · cases e2
      · split at e2
        · rename_i er
          cases e2; subst er
          exact ht _ _ H F M L _ _ _ _ D S e1 fun v M2 H' F' L' σ' s D' S' r => fin (Mr := M2) s D' S' r
        · cases e2
      · cases e2
    · cases e
  · cases e
theorem len_U {ps : List Pk} {r : Sh} {sem : List Dv → Option (Dv × List Dv)} {xs : List Str} (h : xs.length = ps.length) : ∀ vs H Q E, spU K ps r sem vs H Q E → vs.length = xs.length := by
  rintro vs H Q E ⟨α, F, M, L, ds, d, outs, ha, -⟩
  rw [ha.len, h]
def oCallU (ps : List Pk) (sem : List Dv → Option (Dv × List Dv)) (fa : Env → Option (List Uv × Env)) (δ : Env) : Option (Dv × Env) := match fa δ with
  | some (us, δ1) => match takeU ps us δ1 with
    | some (ds, bs, δ2) => match sem ds with
      | some (d, os) => match backU bs os δ2 with
        | some δ3 => some (d, δ3)
        | none => none
      | none => none
    | none => none
  | none => none
theorem OutU.al : ∀ {ps : List Pk} {M : List (Addr × HO)} {vs : List V} {os : List Dv}, OutU K F α ps M vs os → okPk ps = true → OutU K F α' ps M vs os
  | _, _, _, _, .nil, _ => .nil
  | _, _, _, _, .f t, e => .f (OutU.al t e)
  | _, _, _, _, .m t, e => by
    have e : (noLb _ && okPk _) = true := e
    simp only [Bool.and_eq_true] at e
    exact .m (OutU.al t e.2)
  | _, _, _, _, .i h t, e => by
    have e : (noLb _ && noLb _ && !decide _ && okPk _) = true := e
    simp only [Bool.and_eq_true] at e
    exact .i (h.al e.1.1.2) (OutU.al t e.2)
theorem den_callU {ps : List Pk} {r : Sh} {sem : List Dv → Option (Dv × List Dv)} {ta : TA} {fa : Env → Option (List Uv × Env)} {E : XK} (ok : okPk ps = true) (or : noLb r = true) (ha : DUA K ta fa) : DEN K r (tCall (spU K ps r sem) [] E ta) (oCallU ps sem fa) := by
  intro α σ H F L R δ δ' d Q D S e q
  unfold oCallU at e
  split at e
  · rename_i us δ1 e1
    split at e
    · rename_i ds bs δ2 e2
      split at e
      · rename_i d' os e3
        split at e
        · rename_i δ3 e4
          cases e
          refine ha α σ H F L R δ δ1 us _ D S e1 fun vs H' F' L' E s D' S' r1 => ?_
          rw [List.append_nil]
          obtain ⟨M, L2, p, a, S2, b⟩ := take_ok S' r1 e2
          have D2 : Led H' F' (M ++ (L2 ++ R)) := FL.Led.perm D' (by
            rw [← List.append_assoc, ← List.append_assoc]
            exact (p.symm).append (List.Perm.refl R))
          refine ⟨α, F', M, _, ds, _, os, a, D2, e3, fun v H2 F2 α' Mr M' s2 D3 dn o => ?_⟩
          obtain ⟨L3, S3, w⟩ := back_ok (S2.mono (Le.of s2)) (o.al (α' := α) ok) b e4
          have D4 : Led H2 F2 (M' ++ (L2 ++ (Mr ++ R))) := FL.Led.perm D3 (perm3 M' L2 Mr R)
          exact q v Mr H2 F2 L3 (s.trans s2) (FL.Led.perm (w D4) (List.perm_append_comm_assoc Mr L3 R)) S3 (dn.al or)
        · cases e
      · cases e
    · cases e
  · cases e
/-! ### statements -/
def sAsgN (i : Nat) (s : Sh) (fo : Env → Option (Dv × Env)) (δ : Env) : Option (Ctl × Env) := match fo δ with
  | some (d, δ1) => if i < δ1.length then some (.nx, δ1.set i (slS none s d)) else none
  | none => none
theorem ds_asgN {i : Nat} {s : Sh} {te : TE} {fo : Env → Option (Dv × Env)} (he : DEN K s te fo) : DS K (tAsg te (gName i)) (sAsgN i s fo) := by
  intro α σ H F L R δ δ' c D hD S e q
  unfold sAsgN at e
  split at e
  · rename_i d δ1 e1
    split at e
    · rename_i hi
      cases e
      refine he α σ H F L R δ δ1 _ _ hD S e1 fun v M H' F' L' s1 D' S' r => ?_
      obtain ⟨L2, S2, w⟩ := S'.new_S hi r
      exact q _ H' F' L2 s1 (w D') S2
    · cases e
  · cases e
def sRetT (s : Sh) (fo : Env → Option (Dv × Env)) (δ : Env) : Option (Ctl × Env) := match fo δ with
  | some (d, δ') => some (.rn s d, δ')
  | none => none
theorem ds_retT {s : Sh} {te : TE} {fo : Env → Option (Dv × Env)} (he : DEN K s te fo) : DS K (tRet te) (sRetT s fo) := by
  intro α σ H F L R δ δ' c D hD S e q
  unfold sRetT at e
  split at e
  · rename_i d δ1 e1
    cases e
    exact he α σ H F L R δ _ _ _ hD S e1 fun v M H' F' L' s1 D' S' r => q v M H' F' L' σ s1 D' S' r
  · cases e
/-- a slot's own tree, taken -/
def oMov (s : Sh) (i : Nat) (δ : Env) : Option (Dv × Env) := match getS s δ i with
  | some (none, d) => some (d, δ.set i .no)
  | _ => none
theorem den_mov (s : Sh) (i : Nat) : DEN K s (tVar i) (oMov s i) := by
  intro α σ H F L R δ δ' d Q D S e q
  unfold oMov at e
  split at e
  · rename_i d' e1
    cases e
    obtain ⟨v, M, L1, L2, el, hσ, dn, hl, S1⟩ := S.at_S e1
    refine ⟨v, hσ, q v M H F (L1 ++ L2) (Same.refl _) ?_ S1 dn⟩
    rw [el] at D
    exact FL.Led.perm D (by
      rw [List.append_assoc, List.append_assoc, List.append_assoc]
      exact List.perm_append_comm_assoc M L1 (L2 ++ R))
  · cases e
/-- what a slot owned is left as it is from here on -/
def sFrzN (i : Nat) (fs : Fs) (δ : Env) : Option (Ctl × Env) := match δ[i]? with
  | some (.on _ s d) => if frzS s = true then fs (δ.set i (.sh d)) else fs δ
  | _ => sFrz i fs δ
theorem ds_frzN {t : TS} {i : Nat} {fs : Fs} (h : DS K t fs) : DS K t (sFrzN i fs) := by
  intro α σ H F L R δ δ' c D hD S e q
  unfold sFrzN at e
  split at e
  · rename_i tt s d e2
    split at e
    · rename_i hs
      obtain ⟨v, M, L1, L2, rfl, hσ, h1, h2, k1, k2, k3, k4⟩ := S.on_at e2
      have D2 : Led H F (M ++ ((L1 ++ L2) ++ R)) := FL.Led.perm hD (by
        rw [List.append_assoc, List.append_assoc, List.append_assoc]
        exact List.perm_append_comm_assoc M L1 (L2 ++ R))
      obtain ⟨F2, s2, D3, dd⟩ := h1.freeze hs (Same.refl _) D2
      exact h α σ H F2 (L1 ++ L2) R _ δ' c D D3 (k2 _ _ (Le.of s2) dd) e (q.grow s2)
    · exact h α σ H F L R δ δ' c D hD S e q
  · exact ds_frz h α σ H F L R δ δ' c D hD S e q
/-! tuples of trees -/
def setUv (δ : Env) : List Nat → List Uv → Option Env
  | i :: is, .dv d :: os => setUv (δ.set i (.sh d)) is os
  | i :: is, .nw s d :: os => if i < δ.length then setUv (δ.set i (slS none s d)) is os else none
  | [], [] => some δ
  | _, _ => none
theorem put_uv : ∀ {vs : List V} {us : List Uv} {E : List (Addr × HO)} {is : List Nat} {σ τ : L2.St} {δ δ' : Env} {L : List (Addr × HO)}, UvR K F α τ vs us E → RelS K F α σ δ L → setUv δ is us = some δ' →
    ∃ L', RelS K F α (setV σ is vs) δ' L' ∧ ∀ {H : Hp} {R : List (Addr × HO)}, Led H F (E ++ (L ++ R)) → Led H F (L' ++ R)
  | _, _, _, is, σ, τ, δ, δ', L, .nil, S, e => by
    cases is with
    | nil => cases e; exact ⟨L, S, fun D => D⟩
    | cons i is => cases e
  | _, _, _, is, σ, τ, δ, δ', L, .dv (E := E) h t, S, e => by
    cases is with
    | nil => cases e
    | cons i is =>
      obtain ⟨L1, s1, S1⟩ := S.set_sh (i := i) h
      obtain ⟨L2, S2, w⟩ := put_uv (is := is) t S1 e
      exact ⟨L2, S2, fun {H R} D => w (FL.Led.sub D ((List.Sublist.refl _).append (s1.append (List.Sublist.refl _))))⟩
  | _, _, _, is, σ, τ, δ, δ', L, .al h t, S, e => by
    cases is with
    | nil => cases e
    | cons i is => cases e
  | _, _, _, is, σ, τ, δ, δ', L, .nw (M := M) (E := E) h t, S, e => by
    cases is with
    | nil => cases e
    | cons i is =>
      unfold setUv at e
      split at e
      · rename_i hi
        obtain ⟨L1, S1, w1⟩ := S.new_S hi h
        obtain ⟨L2, S2, w⟩ := put_uv (is := is) t S1 e
        refine ⟨L2, S2, fun {H R} D => w ?_⟩
        have D1 : Led H F (M ++ (L ++ (E ++ R))) := FL.Led.perm D (by
          rw [List.append_assoc]
          exact List.Perm.append_left M (List.perm_append_comm_assoc L E R))
        exact FL.Led.perm (w1 D1) (List.perm_append_comm_assoc E L1 R)
      · cases e
theorem UvR.len {τ : L2.St} : ∀ {vs : List V} {us : List Uv} {E : List (Addr × HO)}, UvR K F α τ vs us E → vs.length = us.length
  | _, _, _, .nil => rfl
  | _, _, _, .dv _ t => congrArg (· + 1) (UvR.len t)
  | _, _, _, .al _ t => congrArg (· + 1) (UvR.len t)
  | _, _, _, .nw _ t => congrArg (· + 1) (UvR.len t)
/-- (x, y, ..) = (e1, e2, ..), some of them trees -/
def sTupU (is : List Nat) (fa : Env → Option (List Uv × Env)) (δ : Env) : Option (Ctl × Env) := match fa δ with
  | some (us, δ1) => if us.length = is.length ∧ us.length ≤ 100 then (match setUv δ1 is us with
    | some δ2 => some (.nx, δ2)
    | none => none) else none
  | none => none
theorem ds_tupU {n : Nat} (is : List Nat) {ta : TA} {fa : Env → Option (List Uv × Env)} (hn : is.length = n) (ha : DUA K ta fa) : DS K (tAsg (tTup ta) (gTup K n (gNames is))) (sTupU is fa) := by
  intro α σ H F L R δ δ' c D hD S e q
  unfold sTupU at e
  split at e
  · rename_i us δ1 e1
    split at e
    · rename_i hl
      split at e
      · rename_i δ2 e2
        cases e
        refine ha α σ H F L R δ δ1 us _ hD S e1 fun vs H' F' L' E s D' S' r => ?_
        refine ⟨by rw [r.len]; exact le_line (by omega), fun p np => ?_⟩
        have D1 := D'.new (o := .tup vs) np
        obtain ⟨L2, S2, w⟩ := put_uv (is := is) r S' e2
        refine ⟨p, vs, rfl, SqT.of upd_same, by rw [r.len, ← hn]; exact hl.1, gNames_run (by rw [r.len]; exact hl.1.symm) ?_⟩
        exact q _ _ F' L2 s (w D1.drop) S2
      · cases e
    · cases e
  · cases e
/-- x, y = e1, e2 without a tuple -/
def sParU (is : List Nat) (fa : Env → Option (List Uv × Env)) (δ : Env) : Option (Ctl × Env) := match fa δ with
  | some (us, δ1) => if us.length = is.length then (match setUv δ1 is us with
    | some δ2 => some (.nx, δ2)
    | none => none) else none
  | none => none
theorem ds_parU {i j : Nat} {ta : TA} {fa : Env → Option (List Uv × Env)} (ha : DUA K ta fa) : DS K (tPar i j ta) (sParU [i, j] fa) := by
  intro α σ H F L R δ δ' c D hD S e q
  unfold sParU at e
  split at e
  · rename_i us δ1 e1
    split at e
    · rename_i hl
      split at e
      · rename_i δ2 e2
        cases e
        refine ha α σ H F L R δ δ1 us _ hD S e1 fun vs H' F' L' E s D' S' r => ?_
        obtain ⟨L2, S2, w⟩ := put_uv (is := [i, j]) r S' e2
        have hv := r.len
        rw [hl] at hv
        match vs, hv with
        | [v, u], _ => exact ⟨v, u, rfl, q _ H' F' L2 s (w D') S2⟩
      · cases e
    · cases e
  · cases e
theorem ds_par3U {i j k : Nat} {ta : TA} {fa : Env → Option (List Uv × Env)} (ha : DUA K ta fa) : DS K (tPar3 i j k ta) (sParU [i, j, k] fa) := by
  intro α σ H F L R δ δ' c D hD S e q
  unfold sParU at e
  split at e
  · rename_i us δ1 e1
    split at e
    · rename_i hl
      split at e
      · rename_i δ2 e2
        cases e
        refine ha α σ H F L R δ δ1 us _ hD S e1 fun vs H' F' L' E s D' S' r => ?_
        obtain ⟨L2, S2, w⟩ := put_uv (is := [i, j, k]) r S' e2
        have hv := r.len
        rw [hl] at hv
        match vs, hv with
        | [v, u, x], _ => exact ⟨v, u, x, rfl, q _ H' F' L2 s (w D') S2⟩
      · cases e
    · cases e
  · cases e
/-- a tuple made of trees -/
def shsU : List Uv → Option (Sh × List Dv)
  | [] => some (.nl, [])
  | .dv d :: us => match shsU us with
    | some (s, ds) => some (.cn .fr s, d :: ds)
    | none => none
  | .nw s d :: us => match shsU us with
    | some (t, ds) => some (.cn s t, d :: ds)
    | none => none
  | _ => none
theorem shs_ok {τ : L2.St} : ∀ {vs : List V} {us : List Uv} {E : List (Addr × HO)} {s : Sh} {ds : List Dv}, UvR K F α τ vs us E → shsU us = some (s, ds) → DNA K F α s E vs ds
  | _, _, _, _, _, .nil, e => by cases e; exact .nil
  | _, _, _, _, _, .dv h t, e => by
    unfold shsU at e
    split at e
    · rename_i s' ds' e2
      cases e
      exact .cons (M := []) (.fr h) (shs_ok t e2)
    · cases e
  | _, _, _, _, _, .al h t, e => by cases e
  | _, _, _, _, _, .nw h t, e => by
    unfold shsU at e
    split at e
    · rename_i s' ds' e2
      cases e
      exact .cons h (shs_ok t e2)
    · cases e
def oTupU (ss : Sh) (fa : Env → Option (List Uv × Env)) (δ : Env) : Option (Dv × Env) := match fa δ with
  | some (us, δ1) => if us.length ≤ 100 then (match shsU us with
    | some (s, ds) => if s = ss then some (.tup ds, δ1) else none
    | none => none) else none
  | none => none
theorem den_tup {ss : Sh} {ta : TA} {fa : Env → Option (List Uv × Env)} (ha : DUA K ta fa) : DEN K (.tp ss) (tTup ta) (oTupU ss fa) := by
  intro α σ H F L R δ δ' d Q D S e q
  unfold oTupU at e
  split at e
  · rename_i us δ1 e1
    split at e
    · rename_i hl
      split at e
      · rename_i s ds e2
        split at e
        · rename_i es
          cases e; subst es
          refine ha α σ H F L R δ _ us _ D S e1 fun vs H' F' L' E s1 D' S' r => ?_
          refine ⟨by rw [r.len]; exact le_line (by omega), fun p np => ?_⟩
          have D1 := D'.new (o := .tup vs) np
          have hd := shs_ok r e2
          exact q (.ref p) E _ (upd F' p (.tup vs)) L' (s1.trans D1.grow) D1.freeze (S'.mono (Le.of D1.grow)) (.tp upd_same (hd.mono (Le.of D1.grow)))
        · cases e
      · cases e
    · cases e
  · cases e
/-- (x, y, ..) = e, a tuple of trees -/
def setSh (δ : Env) : List Nat → Sh → List Dv → Option Env
  | i :: is, .cn s t, d :: ds => if i < δ.length then setSh (δ.set i (slS none s d)) is t ds else none
  | [], .nl, [] => some δ
  | _, _, _ => none
theorem put_sh : ∀ {ss : Sh} {vs : List V} {ds : List Dv} {E : List (Addr × HO)} {is : List Nat} {σ : L2.St} {δ δ' : Env} {L : List (Addr × HO)}, DNA K F α ss E vs ds → RelS K F α σ δ L → setSh δ is ss ds = some δ' →
    ∃ L', RelS K F α (setV σ is vs) δ' L' ∧ is.length = vs.length ∧ ∀ {H : Hp} {R : List (Addr × HO)}, Led H F (E ++ (L ++ R)) → Led H F (L' ++ R)
  | _, _, _, _, is, σ, δ, δ', L, .nil, S, e => by
    cases is with
    | nil => cases e; exact ⟨L, S, rfl, fun D => D⟩
    | cons i is => cases e
  | _, _, _, _, is, σ, δ, δ', L, .cons (M := M) (L := E) h t, S, e => by
    cases is with
    | nil => cases e
    | cons i is =>
      unfold setSh at e
      split at e
      · rename_i hi
        obtain ⟨L1, S1, w1⟩ := S.new_S hi h
        obtain ⟨L2, S2, hl, w⟩ := put_sh (is := is) t S1 e
        refine ⟨L2, S2, congrArg (· + 1) hl, fun {H R} D => w ?_⟩
        have D1 : Led H F (M ++ (L ++ (E ++ R))) := FL.Led.perm D (by
          rw [List.append_assoc]
          exact List.Perm.append_left M (List.perm_append_comm_assoc L E R))
        exact FL.Led.perm (w1 D1) (List.perm_append_comm_assoc E L1 R)
      · cases e
def sUnpN (is : List Nat) (ss : Sh) (fo : Env → Option (Dv × Env)) (δ : Env) : Option (Ctl × Env) := match fo δ with
  | some (.tup ds, δ1) => match setSh δ1 is ss ds with
    | some δ2 => some (.nx, δ2)
    | none => none
  | _ => none
theorem ds_unpN {n : Nat} {ss : Sh} (is : List Nat) {te : TE} {fo : Env → Option (Dv × Env)} (hn : is.length = n) (he : DEN K (.tp ss) te fo) : DS K (tAsg te (gTup K n (gNames is))) (sUnpN is ss fo) := by
  intro α σ H F L R δ δ' c D hD S e q
  unfold sUnpN at e
  split at e
  · rename_i ds δ1 e1
    split at e
    · rename_i δ2 e2
      cases e
      refine he α σ H F L R δ δ1 _ _ hD S e1 fun v M H' F' L' s1 D' S' r => ?_
      cases r with
      | tp ht hs =>
        obtain ⟨L2, S2, hl, w⟩ := put_sh (is := is) hs S' e2
        refine ⟨_, _, rfl, SqT.of (D'.ext _ _ ht), by rw [← hl, hn], gNames_run hl ?_⟩
        exact q _ H' F' L2 s1 (w D') S2
    · cases e
  · cases e
end
end FD
namespace FD
open PySem PySem.Spec PyProof.Rows L2 FL
section
variable {K : PySem.W.Frag}
/-! ### comprehensions with two fors -/
def lc2Loop (fb : Dv → Env → Option Env) (ft : Env → Option (Bool × Env)) (fi1 : Env → Option (List Dv × Env)) (fb1 : Dv → Env → Option Env) (ft1 : Env → Option (Bool × Env)) (fe : Env → Option (Rv × Env)) (vs vs1 : List Nat) : List Dv → Env → Option (List Dv × Env)
  | [], δ => some ([], δ)
  | d :: ds, δ => match fb d (wipeD δ vs) with
    | none => none
    | some δ1 => match ft δ1 with
      | some (true, δ2) => match fi1 δ2 with
        | some (ds1, δ3) => if ds1.length ≤ 1000 then (match lcLoop fb1 ft1 fe vs1 ds1 δ3 with
          | some (zs, δ4) => match lc2Loop fb ft fi1 fb1 ft1 fe vs vs1 ds δ4 with
            | some (ys, δ5) => some (zs ++ ys, δ5)
            | none => none
          | none => none) else none
        | none => none
      | some (false, δ2) => lc2Loop fb ft fi1 fb1 ft1 fe vs vs1 ds δ2
      | none => none
def oLc2 (fi : Env → Option (List Dv × Env)) (fb : Dv → Env → Option Env) (ft : Env → Option (Bool × Env)) (fi1 : Env → Option (List Dv × Env)) (fb1 : Dv → Env → Option Env) (ft1 : Env → Option (Bool × Env)) (fe : Env → Option (Rv × Env)) (vs vs1 : List Nat) (δ : Env) : Option (Dv × Env) := match fi δ with
  | some (ds, δ1) => if ds.length ≤ 900 then (match lc2Loop fb ft fi1 fb1 ft1 fe vs vs1 ds δ1 with
    | some (ys, δ2) => some (.lst ys, wipeD δ2 vs)
    | none => none) else none
  | none => none
theorem wipe_more {σ τ : L2.St} {vs vs1 : List Nat} (h : ∀ u ∈ vs1, u ∈ vs) (e : L2.wipe τ vs1 = L2.wipe σ vs1) : L2.wipe τ vs = L2.wipe σ vs := by
  have hl : τ.length = σ.length := by rw [← L2.wipe_length τ vs1, ← L2.wipe_length σ vs1, e]
  refine List.ext_getElem? fun j => ?_
  by_cases hj : j ∈ vs
  · have hin : ∀ {ρ : L2.St} (ws : List Nat), j ∈ ws → (L2.wipe ρ ws)[j]? = if j < ρ.length then some none else none := fun {ρ} ws => by
      induction ws with
      | nil => intro z; cases z
      | cons w ws ih =>
        intro z
        show ((L2.wipe ρ ws).set w none)[j]? = _
        by_cases ew : w = j
        · subst ew
          by_cases hlt : w < ρ.length
          · rw [if_pos hlt, List.getElem?_set_self (by rw [L2.wipe_length]; exact hlt)]
          · rw [if_neg hlt, List.getElem?_eq_none (by rw [List.length_set, L2.wipe_length]; omega)]
        · rw [List.getElem?_set_ne ew]
          exact ih ((List.mem_cons.mp z).resolve_left fun q => ew q.symm)
    rw [hin vs hj, hin vs hj, hl]
  · rw [L2.wipe_out hj, L2.wipe_out hj]
    have hj1 : j ∉ vs1 := fun z => hj (h j z)
    rw [← L2.wipe_out (σ := τ) hj1, ← L2.wipe_out (σ := σ) hj1, e]
def lc2Ask (J : It) (g : TG) (tt : TT) (wi1 : TI) (g1 : TG) (tt1 : TT) (te : TE) (vs vs1 : List Nat) (σ : L2.St) (H1 : Hp) (Q : VK) : Prop := ∀ D, H1 D = none → ∃ W : Nat → Nat → Hp → Prop, (∃ m, W 0 m (upd H1 D (.lst []))) ∧ ∀ i m H, W i m H →
  (J.stop i H ∧ Q (.ref D) H) ∨ (J.go i H ∧ ∃ Nx : Hp → Prop, (∀ H', Nx H' → ∃ m', m' < m ∧ W (i + 1) m' H') ∧ ∀ x H', J.yld i H x H' → g x (wipe σ vs) H' fun σ2 H2 => wipe σ2 vs = wipe σ vs ∧ tt σ2 H2 fun b H3 =>
    if b = true then wi1 σ2 H3 fun J1 H4 => ∃ W1 : Nat → Nat → Hp → Prop, (∃ m, W1 0 m H4) ∧ ∀ j k H, W1 j k H →
      (J1.stop j H ∧ Nx H) ∨ (J1.go j H ∧ ∃ Nx1 : Hp → Prop, (∀ H', Nx1 H' → ∃ k', k' < k ∧ W1 (j + 1) k' H') ∧ ∀ x H', J1.yld j H x H' → g1 x (wipe σ2 vs1) H' fun σ3 H5 => wipe σ3 vs1 = wipe σ2 vs1 ∧ tt1 σ3 H5 fun b H6 =>
        if b = true then te σ3 H6 fun y H7 => ∃ acc, H7 D = some (.lst acc) ∧ acc.length < sizeLine ∧ Nx1 (upd H7 D (.lst (acc ++ [y]))) else Nx1 H6)
    else Nx H3)
theorem lc2_all {J : It} {g g1 : TG} {tt tt1 : TT} {wi1 : TI} {te : TE} {fb fb1 : Dv → Env → Option Env} {ft ft1 : Env → Option (Bool × Env)} {fi1 : Env → Option (List Dv × Env)} {fe : Env → Option (Rv × Env)} {vs vs1 ws ws1 : List Nat}
    (hg : DG K g fb ws) (hw : ∀ w ∈ ws, w ∈ vs) (ht : DT K tt ft) (hi1 : DI K wi1 fi1) (hg1 : DG K g1 fb1 ws1) (hw1 : ∀ w ∈ ws1, w ∈ vs1) (hv : ∀ w ∈ vs1, w ∈ vs) (ht1 : DT K tt1 ft1) (he : DE K te fe)
    {α : Nat → Addr} {σ : L2.St} {H F : Hp} {L R : List (Addr × HO)} {δ δ' : Env} {ds ys : List Dv} {Q : VK} (D : Led H F (L ++ R)) (S : RelS K F α σ δ L) (wk : WalkD K J F ds) (hn : ds.length ≤ 900) (e : lc2Loop fb ft fi1 fb1 ft1 fe vs vs1 ds δ = some (ys, δ'))
    (q : ∀ a o H' F' L', Same F F' → Led H' F' ((a, o) :: (L' ++ R)) → RelS K F' α σ (wipeD δ' vs) L' → DO K F' o (.lst ys) → Q (.ref a) H') : lc2Ask J g tt wi1 g1 tt1 te vs vs1 σ H Q := by
  intro Dl hD
  refine ⟨fun i m H' => m = ds.length - i ∧ i ≤ ds.length ∧ ∃ acc dacc rest F' L' τ δ2, Same F F' ∧ Led H' F' (L' ++ (Dl, .lst acc) :: R) ∧ RelS K F' α τ δ2 L' ∧ L2.wipe τ vs = L2.wipe σ vs ∧ DdA K F' acc dacc ∧ acc.length ≤ i * 1000 ∧ lc2Loop fb ft fi1 fb1 ft1 fe vs vs1 (ds.drop i) δ2 = some (rest, δ') ∧ dacc ++ rest = ys,
    ⟨ds.length, by omega, by omega, [], [], ys, F, L, σ, δ, Same.refl _, Led.unmid (D.new hD), S, rfl, .nil, Nat.le_refl _, by rw [List.drop_zero]; exact e, rfl⟩, ?_⟩
  rintro i m H' ⟨rfl, hi, acc, dacc, rest, F', L', τ, δ2, s, D', S', hτ, ha, hl, e', ey⟩
  by_cases hlt : i < ds.length
  · obtain ⟨d, hd, edrop⟩ := drop_at hlt
    refine .inr ⟨wk.go i H' F' _ s D' hlt, fun H2 => i + 1 ≤ ds.length ∧ ∃ acc dacc rest F' L' τ δ2, Same F F' ∧ Led H2 F' (L' ++ (Dl, .lst acc) :: R) ∧ RelS K F' α τ δ2 L' ∧ L2.wipe τ vs = L2.wipe σ vs ∧ DdA K F' acc dacc ∧ acc.length ≤ (i + 1) * 1000 ∧ lc2Loop fb ft fi1 fb1 ft1 fe vs vs1 (ds.drop (i + 1)) δ2 = some (rest, δ') ∧ dacc ++ rest = ys,
      fun H2 ⟨_, w⟩ => ⟨ds.length - (i + 1), by omega, rfl, hlt, w⟩, fun x H2 y => ?_⟩
    obtain ⟨F2, s2, D2, rx⟩ := wk.yld i H' x H2 F' _ d s D' hd y
    rw [edrop] at e'
    unfold lc2Loop at e'
    split at e'
    · cases e'
    · rename_i δ3 e3
      obtain ⟨L3, sl3, S3⟩ := (S'.mono (Le.of s2)).wipe vs
      rw [hτ] at S3
      refine hg α _ H2 F2 L3 ((Dl, .lst acc) :: R) _ _ x d _ (Led.subA D2 sl3) S3 rx e3 fun σ4 L4 sl4 S4 w4 => ⟨?_, ?_⟩
      · rw [w4 vs hw]
        exact wipe_wipe
      have w4' : L2.wipe σ4 vs = L2.wipe σ vs := by
        rw [w4 vs hw]
        exact wipe_wipe
      have D4 := Led.subA (Led.subA D2 sl3) sl4
      split at e'
      · rename_i δ4 e4
        split at e'
        · rename_i ds1 δ5 e5
          split at e'
          · rename_i hn1
            split at e'
            · rename_i zs δ6 e6
              split at e'
              · rename_i ys' δ7 e7
                cases e'
                refine ht α σ4 H2 F2 L4 ((Dl, .lst acc) :: R) _ _ true _ D4 S4 e4 fun H5 F5 L5 s5 D5 S5 => iteT ?_
                refine hi1 α σ4 H5 F5 L5 ((Dl, .lst acc) :: R) _ _ _ _ D5 S5 e5 fun J1 H6 F6 L6 s6 D6 S6 wk1 => ?_
                refine ⟨fun j k Hj => k = ds1.length - j ∧ j ≤ ds1.length ∧ ∃ acc1 dacc1 rest1 F' L' τ δ2, Same F6 F' ∧ Led Hj F' (L' ++ (Dl, .lst acc1) :: R) ∧ RelS K F' α τ δ2 L' ∧ L2.wipe τ vs1 = L2.wipe σ4 vs1 ∧ DdA K F' acc1 dacc1 ∧ acc1.length ≤ i * 1000 + j ∧ lcLoop fb1 ft1 fe vs1 (ds1.drop j) δ2 = some (rest1, δ6) ∧ dacc1 ++ rest1 = dacc ++ zs,
                  ⟨ds1.length, by omega, by omega, acc, dacc, zs, F6, L6, σ4, δ5, Same.refl _, D6, S6, rfl, ha.mono (Le.of (s2.trans (s5.trans s6))), by omega, by rw [List.drop_zero]; exact e6, rfl⟩, ?_⟩
                rintro j k Hj ⟨rfl, hj, acc1, dacc1, rest1, F7, L7, τ7, δ8, s7, D7, S7, hτ7, ha7, hl7, e8, ey7⟩
                by_cases hlt1 : j < ds1.length
                · obtain ⟨d1, hd1, edrop1⟩ := drop_at hlt1
                  refine .inr ⟨wk1.go j Hj F7 _ s7 D7 hlt1, fun H2 => j + 1 ≤ ds1.length ∧ ∃ acc1 dacc1 rest1 F' L' τ δ2, Same F6 F' ∧ Led H2 F' (L' ++ (Dl, .lst acc1) :: R) ∧ RelS K F' α τ δ2 L' ∧ L2.wipe τ vs1 = L2.wipe σ4 vs1 ∧ DdA K F' acc1 dacc1 ∧ acc1.length ≤ i * 1000 + (j + 1) ∧ lcLoop fb1 ft1 fe vs1 (ds1.drop (j + 1)) δ2 = some (rest1, δ6) ∧ dacc1 ++ rest1 = dacc ++ zs,
                    fun H2 ⟨_, w⟩ => ⟨ds1.length - (j + 1), by omega, rfl, hlt1, w⟩, fun x1 H8 y1 => ?_⟩
                  obtain ⟨F8, s8, D8, rx1⟩ := wk1.yld j Hj x1 H8 F7 _ d1 s7 D7 hd1 y1
                  rw [edrop1] at e8
                  unfold lcLoop at e8
                  split at e8
                  · cases e8
                  · rename_i δ9 e9
                    obtain ⟨L9, sl9, S9⟩ := (S7.mono (Le.of s8)).wipe vs1
                    rw [hτ7] at S9
                    refine hg1 α _ H8 F8 L9 ((Dl, .lst acc1) :: R) _ _ x1 d1 _ (Led.subA D8 sl9) S9 rx1 e9 fun σ10 L10 sl10 S10 w10 => ⟨?_, ?_⟩
                    · rw [w10 vs1 hw1]
                      exact wipe_wipe
                    have w10' : L2.wipe σ10 vs1 = L2.wipe σ4 vs1 := by
                      rw [w10 vs1 hw1]
                      exact wipe_wipe
                    have D10 := Led.subA (Led.subA D8 sl9) sl10
                    split at e8
                    · rename_i δ10 e10
                      split at e8
                      · rename_i yv δ11 e11
                        split at e8
                        · rename_i ys1 δ12 e12
                          cases e8
                          refine ht1 α σ10 H8 F8 L10 ((Dl, .lst acc1) :: R) _ _ true _ D10 S10 e10 fun H11 F11 L11 s11 D11 S11 => iteT ?_
                          refine he α σ10 H11 F11 L11 ((Dl, .lst acc1) :: R) _ _ _ _ D11 S11 e11 fun v H12 F12 L12 s12 D12 S12 r12 => ?_
                          have r12 : Dd K F12 v yv := r12
                          have sAll := s8.trans (s11.trans s12)
                          refine ⟨acc1, Led.head (Led.mid D12), lt_line (by omega), hlt1, acc1 ++ [v], dacc1 ++ [yv], ys1, F12, L12, σ10, δ11, s7.trans sAll, Led.unmid (Led.wr (Led.mid D12)), S12, w10', (ha7.mono (Le.of sAll)).app (.cons r12 .nil), by simp; omega, e12, by rw [List.append_assoc]; exact ey7⟩
                        · cases e8
                      · cases e8
                    · rename_i δ10 e10
                      refine ht1 α σ10 H8 F8 L10 ((Dl, .lst acc1) :: R) _ _ false _ D10 S10 e10 fun H11 F11 L11 s11 D11 S11 => iteF ?_
                      have sAll := s8.trans s11
                      exact ⟨hlt1, acc1, dacc1, rest1, F11, L11, σ10, δ10, s7.trans sAll, D11, S11, w10', ha7.mono (Le.of sAll), by omega, e8, ey7⟩
                    · cases e8
                · have ej : j = ds1.length := by omega
                  subst ej
                  rw [List.drop_length] at e8
                  cases e8
                  rw [List.append_nil] at ey7
                  subst ey7
                  refine .inl ⟨wk1.stop Hj F7 _ s7 D7, hlt, acc1, dacc ++ zs, ys', F7, L7, τ7, δ6, s.trans (s2.trans (s5.trans (s6.trans s7))), D7, S7, (wipe_more hv hτ7).trans w4', ha7, by omega, e7, by rw [List.append_assoc]; exact ey⟩
              · cases e'
            · cases e'
          · cases e'
        · cases e'
      · rename_i δ4 e4
        refine ht α σ4 H2 F2 L4 ((Dl, .lst acc) :: R) _ _ false _ D4 S4 e4 fun H5 F5 L5 s5 D5 S5 => iteF ?_
        have sAll := s2.trans s5
        exact ⟨hlt, acc, dacc, rest, F5, L5, σ4, δ4, s.trans sAll, D5, S5, w4', ha.mono (Le.of sAll), by omega, e', ey⟩
      · cases e'
  · have ei : i = ds.length := by omega
    subst ei
    rw [List.drop_length] at e'
    cases e'
    obtain ⟨L2', sl2, S2⟩ := S'.unblock (σ := σ) hτ
    have D3 := Led.subA D' sl2
    rw [List.append_nil] at ey
    subst ey
    exact .inl ⟨wk.stop H' F' _ s D', q Dl _ H' F' L2' s (Led.mid D3) S2 (.lst ha)⟩
theorem do_lc2 {wi wi1 : TI} {g g1 : TG} {tt tt1 : TT} {te : TE} {fi fi1 : Env → Option (List Dv × Env)} {fb fb1 : Dv → Env → Option Env} {ft ft1 : Env → Option (Bool × Env)} {fe : Env → Option (Rv × Env)} {vs vs1 ws ws1 : List Nat}
    (hi : DI K wi fi) (hg : DG K g fb ws) (hw : ∀ w ∈ ws, w ∈ vs) (ht : DT K tt ft) (hi1 : DI K wi1 fi1) (hg1 : DG K g1 fb1 ws1) (hw1 : ∀ w ∈ ws1, w ∈ vs1) (hv : ∀ w ∈ vs1, w ∈ vs) (ht1 : DT K tt1 ft1) (he : DE K te fe) :
    DEO K (tLc2 wi g tt wi1 g1 tt1 te vs vs1) (oLc2 fi fb ft fi1 fb1 ft1 fe vs vs1) := by
  intro α σ H F L R δ δ' d Q D S e q
  unfold oLc2 at e
  split at e
  · rename_i ds δ1 e1
    split at e
    · rename_i hn
      split at e
      · rename_i ys δ2 e2
        cases e
        refine hi α σ H F L R δ δ1 ds _ D S e1 fun J H' F' L' s D' S' wk => ?_
        exact lc2_all hg hw ht hi1 hg1 hw1 hv ht1 he D' S' wk hn e2 fun a o H2 F2 M2 s2 D2 S2 h2 => q a o H2 F2 M2 (s.trans s2) D2 S2 h2
      · cases e
    · cases e
  · cases e
theorem do_lc2D (w : Way) (i : Nat) {wi1 : TI} {g g1 : TG} {tt tt1 : TT} {te : TE} {fi1 : Env → Option (List Dv × Env)} {fb fb1 : Dv → Env → Option Env} {ft ft1 : Env → Option (Bool × Env)} {fe : Env → Option (Rv × Env)} {vs vs1 ws ws1 : List Nat}
    (hg : DG K g fb ws) (hw : ∀ w ∈ ws, w ∈ vs) (ht : DT K tt ft) (hi1 : DI K wi1 fi1) (hg1 : DG K g1 fb1 ws1) (hw1 : ∀ w ∈ ws1, w ∈ vs1) (hv : ∀ w ∈ vs1, w ∈ vs) (ht1 : DT K tt1 ft1) (he : DE K te fe) :
    DEO K (fun σ H Q => tLockE (tLc2 (w.ti (tVar i)) g tt wi1 g1 tt1 te vs vs1) σ H Q ∨ tLc2 (w.ti (tVar i)) g tt wi1 g1 tt1 te vs vs1 σ H Q) (oLc2 (itD w i) fb ft fi1 fb1 ft1 fe vs vs1) := by
  intro α σ H F L R δ δ' d Q D S e q
  unfold oLc2 at e
  split at e
  · rename_i ds δ1 e1
    split at e
    · rename_i hn
      split at e
      · rename_i ys δ2 e2
        cases e
        unfold itD at e1
        split at e1
        · rename_i ks eδ
          cases e1
          obtain ⟨v, hσ, r⟩ := S.sh_at eδ
          cases r with
          | @dct a kvs _ h hs =>
            have hv1 : ∀ H1 (R : VK), R (.ref a) H1 → tVar i σ H1 R := fun H1 R r => ⟨_, hσ, r⟩
            rcases h with h | ⟨od, h⟩
            · refine .inl ⟨a, .dK kvs, D.frz h, trivial, fun od => ?_⟩
              have le := Le.lock (od := od) h True.intro dk_nt dk_nl
              have D1 := Led.relock (o := .frz od (.dK kvs)) D h
              refine w.run (F := upd F a (.frz od (.dK kvs))) hv1 upd_same upd_same (hs.mono le) fun J wk => ?_
              refine lc2_all (Q := fun v H' => H' a = some (.frz od (.dK kvs)) ∧ Q v (upd H' a (.dK kvs))) hg hw ht hi1 hg1 hw1 hv ht1 he D1 (S.mono le) wk hn e2 fun b o H' F' L' s D' S' h' => ?_
              have hF' : F' a = some (.frz od (.dK kvs)) := s _ _ upd_same
              refine ⟨D'.frz hF', ?_⟩
              have le2 := Le.unlock hF'
              exact q b o _ (upd F' a (.dK kvs)) L' (same_lock h s) (Led.relock D' hF') (S'.mono le2) (h'.mono le2)
            · refine .inr ?_
              refine w.run hv1 (D.frz h) h hs fun J wk => ?_
              exact lc2_all hg hw ht hi1 hg1 hw1 hv ht1 he D S wk hn e2 fun b o H' F' L' s D' S' h' => q b o H' F' L' s D' S' h'
        · cases e1
      · cases e
    · cases e
  · cases e
def tAllI (t : Bk TI) : TI := fun σ H0 Q => ∀ (s : Shared) (H : Hp) (C : Addr) (cl : List (Str × Addr)) (fp : List Addr), t s H C cl fp σ H0 Q
theorem di_all {t : Bk TI} {fi : Env → Option (List Dv × Env)} (h : ∀ s H C cl fp, DI K (t s H C cl fp) fi) : DI K (tAllI t) fi :=
  fun α σ H F L R δ δ' r Q D S e q s H0 C cl fp => h s H0 C cl fp α σ H F L R δ δ' r Q D S e q
theorem blk_i {X : Cx} {scope : Scope} {tg it : Expr} {t : Bk TI} (h : ∀ s H C cl fp, PI (X.blk s H scope (compEnvC scope cl C X.env) fp) tg it (t s H C cl fp)) : ∀ s H C cl fp, PI (X.blk s H scope (compEnvC scope cl C X.env) fp) tg it (tAllI t) :=
  fun s H C cl fp => ⟨fun pins sh σ H' Q I q => (h s H C cl fp).run pins sh σ H' Q I (q s H C cl fp)⟩
/-! ### abs -/
def bAbs : List Dv → Option Dv
  | [.int i] => some (.int (if i < 0 then -i else i))
  | _ => none
theorem cb_abs : CRD K (fun xs H Q => ∃ i, xs = [.int i] ∧ Q (.int (if i < 0 then -i else i)) H) bAbs := by
  intro H F L vs ds d Q D h e q
  unfold bAbs at e
  split at e
  · cases e
    obtain ⟨v, rfl, dr⟩ := pr1 h
    rw [dr.int]
    exact ⟨_, rfl, q _ _ _ (Same.refl _) D (.int _)⟩
  · cases e
end
end FD
namespace FD
open PySem PySem.Spec PyProof.Rows L2 FL
section
variable {X : Cx} {ob : Expr} {p0 p1 p2 p3 : Pos} {td : TE}
/-- the greatest of a dict's values, all ints, one at least -/
def tMaxVals (td : TE) : TE := fun σ H Q => td σ H fun x H1 => ∃ a kvs ns, x = V.ref a ∧ Rd H1 a (.dK kvs) ∧ kvs.map (·.2) = ns.map V.int ∧ ns ≠ [] ∧ ∀ m, m ∈ ns → (∀ j ∈ ns, j ≤ m) → Q (.int m) H1
theorem pe_eMaxVals (hc : X.calm = true) (hg : Gl X "max") (hm : X.mg "max" = none) (hd : PE X ob td) (hbs : attributeBase ob "values" X.env (eval ob X.env) = eval ob X.env := by rfl) (hln : (p1.endLine == p2.line) = true := by rfl)
    (hst : starEach [Expr.Call (.Attribute ob "values" p1) [] [] p2] X.env = [(false, eval (Expr.Call (.Attribute ob "values" p1) [] [] p2) X.env)] := by rfl) :
    PE X (.Call (.Name "max" p0) [.Call (.Attribute ob "values" p1) [] [] p2] [] p3) (tMaxVals td) := by
  constructor
  intro pins s σ H Q I hw
  refine wpAny_Call_Name_kw (ld_blt I hg hm (u := .builtin "max") (by first | rfl | decide +kernel) ?_ (by first | decide +kernel | decide) (by first | decide +kernel | decide))
  rw [hst]
  refine PySem.callWith_builtin1 (wpAny_Call_method0_late hbs hln (thn (hd.run pins s σ H _ I hw) ?_))
  rintro v t ⟨x, H1, I1, rx, a, kvs, ns, rfl, ha, hv, hne, q⟩
  have rx : v = Value.ref a := rx
  subst rx
  obtain ⟨-, hsy, vs, rel, dof⟩ : ObjOk X.prog X.w H1 t.heap a (.dK kvs) := ha.elim (I1.hok a _) fun ⟨_, hz⟩ => (I1.hok a _ hz).2
  obtain ⟨ep, dat⟩ := dof.dictAt
  have dat2 := dat
  obtain ⟨od, es, hod, cx, -, -, -, -⟩ := dat2
  refine ⟨"dict", "dict.values", F.plainAttrs_dict, F.slot_dict_values, F.type_dict_values, ⟨od, hod, cx.1⟩, ?_, Calls.callWith_builtin rfl (PySem.evalArgs_none ?_)⟩
  · intro b eb
    cases eb
    exact ⟨od, hod, cx.2.1⟩
  refine call_meetsIn F.slot_dict_values ⟨od, hod, cx.1⟩ F.entry_dict_values (F.args_dict_values_1 _) (meets_dict_values (mixKind X.prog X.w) a hsy) ⟨⟨vs, dof⟩, ?_⟩
  let W : Obj := { cls := .type "dict_values", data := .fields #[.ref a] }
  have grows : ∀ b u, t.heap.get? b = some u → (t.heap.push W).get? b = some u := fun b u eb => Heap.get?_push_of_some _ eb
  have datW : (t.heap.push W).DictAt (mixKind X.prog X.w) a vs ep := dat.keep grows
  have many : vs.length = ns.length := by
    have z := congrArg List.length hv
    simp only [List.length_map] at z
    have y := KV.length rel
    omega
  have some1 : 0 < vs.length := by
    have := List.length_pos_iff.mpr hne
    omega
  have isInt : ∀ (i : Nat) (w : Value), (∃ k, vs[i]? = some (k, w)) → ∃ tk, w = Value.int (ns.getD i 0) tk := by
    rintro i w ⟨k, hk⟩
    obtain ⟨y, h1, h2⟩ := KV.at' rel hk
    have z : (kvs.map (·.2))[i]? = some y := by rw [List.getElem?_map, h1]; rfl
    rw [hv, List.getElem?_map] at z
    obtain ⟨j, hj, e2⟩ := Option.map_eq_some_iff.mp z
    subst e2
    obtain ⟨tk, e3⟩ := h2
    exact ⟨tk, by rw [e3, List.getD_eq_getElem?_getD, hj]; rfl⟩
  refine call_max_walk (wpAny_pyIter_values (v := t.heap.objs.size) (d := a) ⟨_, Heap.get?_push_size _ rfl, rfl, rfl⟩ datW ?_)
  have below : a < t.heap.objs.size := Heap.lt_size hod
  have sz : (t.heap.push W).objs.size = t.heap.objs.size + 1 := Heap.size_push _ _
  refine ⟨_, _, _, _, _, _, _, rfl, Walks.dictValues (knd := mixKind X.prog X.w) (A := X.A.in1) (I.ok.hd hc) (t.heap.push W).objs.size a (fun z => by rw [sz] at z; rw [z] at below; exact absurd (Nat.lt_trans (Nat.lt_succ_self _) below) (Nat.lt_irrefl _)) vs ep, ⟨⟨_, Heap.get?_push_size _ rfl, rfl, rfl⟩, datW.keep fun b u eb => Heap.get?_push_of_some _ eb⟩, ?_, some1,
    CmpOf.ints_gt (fun i => ns.getD i 0) isInt, ?_⟩
  · intro b hb
    show b < ((t.heap.push W).push _).objs.size
    rw [Heap.size_push]
    rcases List.mem_cons.mp hb with eb | hb
    · subst eb; exact Nat.lt_succ_self _
    · have eb : b = a := List.mem_singleton.mp hb
      subst eb; rw [sz]; exact Nat.lt_succ_of_lt (Nat.lt_trans below (Nat.lt_succ_self _))
  · intro w h' tk hP hk
    obtain ⟨u, rfl⟩ := isInt _ w hP
    obtain ⟨b1, b2⟩ := argBest_gt (fun i => ns.getD i 0) (vs.length - 1)
    refine ⟨.int _, H1, I1.kept (t' := tk) ?_, ⟨u, rfl⟩, q _ ?_ ?_⟩
    · intro b o eb
      refine hk b o (fun hmem => ?_) (Heap.get?_push_of_some _ (grows b o eb))
      have z1 : b = (t.heap.push W).objs.size := List.mem_singleton.mp hmem
      have z2 : b < t.heap.objs.size := Heap.lt_size eb
      subst z1; rw [sz] at z2
      exact absurd (Nat.lt_trans (Nat.lt_succ_self _) z2) (Nat.lt_irrefl _)
    · have lt : argBest (fun i j => decide (ns.getD i 0 > ns.getD j 0)) (vs.length - 1) < ns.length := by omega
      rw [List.getD_eq_getElem?_getD, List.getElem?_eq_getElem lt]
      exact List.getElem_mem lt
    · intro j hj
      obtain ⟨i, hi, e⟩ := List.mem_iff_getElem.mp hj
      have z : ns.getD i 0 = j := by rw [List.getD_eq_getElem?_getD, List.getElem?_eq_getElem hi, ← e]; rfl
      rw [← z]
      exact b2 i (by omega)
/-- the least of a dict's values, all ints, one at least -/
def tLeastVals (td : TE) : TE := fun σ H Q => td σ H fun x H1 => ∃ a kvs ns, x = V.ref a ∧ Rd H1 a (.dK kvs) ∧ kvs.map (·.2) = ns.map V.int ∧ ns ≠ [] ∧ ∀ m, m ∈ ns → (∀ j ∈ ns, m ≤ j) → Q (.int m) H1
theorem pe_eLeastVals (hc : X.calm = true) (hg : Gl X "min") (hm : X.mg "min" = none) (hd : PE X ob td) (hbs : attributeBase ob "values" X.env (eval ob X.env) = eval ob X.env := by rfl) (hln : (p1.endLine == p2.line) = true := by rfl)
    (hst : starEach [Expr.Call (.Attribute ob "values" p1) [] [] p2] X.env = [(false, eval (Expr.Call (.Attribute ob "values" p1) [] [] p2) X.env)] := by rfl) :
    PE X (.Call (.Name "min" p0) [.Call (.Attribute ob "values" p1) [] [] p2] [] p3) (tLeastVals td) := by
  constructor
  intro pins s σ H Q I hw
  refine wpAny_Call_Name_kw (ld_blt I hg hm (u := .builtin "min") (by first | rfl | decide +kernel) ?_ (by first | decide +kernel | decide) (by first | decide +kernel | decide))
  rw [hst]
  refine PySem.callWith_builtin1 (wpAny_Call_method0_late hbs hln (thn (hd.run pins s σ H _ I hw) ?_))
  rintro v t ⟨x, H1, I1, rx, a, kvs, ns, rfl, ha, hv, hne, q⟩
  have rx : v = Value.ref a := rx
  subst rx
  obtain ⟨-, hsy, vs, rel, dof⟩ : ObjOk X.prog X.w H1 t.heap a (.dK kvs) := ha.elim (I1.hok a _) fun ⟨_, hz⟩ => (I1.hok a _ hz).2
  obtain ⟨ep, dat⟩ := dof.dictAt
  have dat2 := dat
  obtain ⟨od, es, hod, cx, -, -, -, -⟩ := dat2
  refine ⟨"dict", "dict.values", F.plainAttrs_dict, F.slot_dict_values, F.type_dict_values, ⟨od, hod, cx.1⟩, ?_, Calls.callWith_builtin rfl (PySem.evalArgs_none ?_)⟩
  · intro b eb
    cases eb
    exact ⟨od, hod, cx.2.1⟩
  refine call_meetsIn F.slot_dict_values ⟨od, hod, cx.1⟩ F.entry_dict_values (F.args_dict_values_1 _) (meets_dict_values (mixKind X.prog X.w) a hsy) ⟨⟨vs, dof⟩, ?_⟩
  let W : Obj := { cls := .type "dict_values", data := .fields #[.ref a] }
  have grows : ∀ b u, t.heap.get? b = some u → (t.heap.push W).get? b = some u := fun b u eb => Heap.get?_push_of_some _ eb
  have datW : (t.heap.push W).DictAt (mixKind X.prog X.w) a vs ep := dat.keep grows
  have many : vs.length = ns.length := by
    have z := congrArg List.length hv
    simp only [List.length_map] at z
    have y := KV.length rel
    omega
  have some1 : 0 < vs.length := by
    have := List.length_pos_iff.mpr hne
    omega
  have isInt : ∀ (i : Nat) (w : Value), (∃ k, vs[i]? = some (k, w)) → ∃ tk, w = Value.int (ns.getD i 0) tk := by
    rintro i w ⟨k, hk⟩
    obtain ⟨y, h1, h2⟩ := KV.at' rel hk
    have z : (kvs.map (·.2))[i]? = some y := by rw [List.getElem?_map, h1]; rfl
    rw [hv, List.getElem?_map] at z
    obtain ⟨j, hj, e2⟩ := Option.map_eq_some_iff.mp z
    subst e2
    obtain ⟨tk, e3⟩ := h2
    exact ⟨tk, by rw [e3, List.getD_eq_getElem?_getD, hj]; rfl⟩
  refine call_min_walk (wpAny_pyIter_values (v := t.heap.objs.size) (d := a) ⟨_, Heap.get?_push_size _ rfl, rfl, rfl⟩ datW ?_)
  have below : a < t.heap.objs.size := Heap.lt_size hod
  have sz : (t.heap.push W).objs.size = t.heap.objs.size + 1 := Heap.size_push _ _
  refine ⟨_, _, _, _, _, _, _, rfl, Walks.dictValues (knd := mixKind X.prog X.w) (A := X.A.in1) (I.ok.hd hc) (t.heap.push W).objs.size a (fun z => by rw [sz] at z; rw [z] at below; exact absurd (Nat.lt_trans (Nat.lt_succ_self _) below) (Nat.lt_irrefl _)) vs ep, ⟨⟨_, Heap.get?_push_size _ rfl, rfl, rfl⟩, datW.keep fun b u eb => Heap.get?_push_of_some _ eb⟩, ?_, some1,
    CmpOf.ints_lt (fun i => ns.getD i 0) isInt, ?_⟩
  · intro b hb
    show b < ((t.heap.push W).push _).objs.size
    rw [Heap.size_push]
    rcases List.mem_cons.mp hb with eb | hb
    · subst eb; exact Nat.lt_succ_self _
    · have eb : b = a := List.mem_singleton.mp hb
      subst eb; rw [sz]; exact Nat.lt_succ_of_lt (Nat.lt_trans below (Nat.lt_succ_self _))
  · intro w h' tk hP hk
    obtain ⟨u, rfl⟩ := isInt _ w hP
    obtain ⟨b1, b2⟩ := argBest_lt (fun i => ns.getD i 0) (vs.length - 1)
    refine ⟨.int _, H1, I1.kept (t' := tk) ?_, ⟨u, rfl⟩, q _ ?_ ?_⟩
    · intro b o eb
      refine hk b o (fun hmem => ?_) (Heap.get?_push_of_some _ (grows b o eb))
      have z1 : b = (t.heap.push W).objs.size := List.mem_singleton.mp hmem
      have z2 : b < t.heap.objs.size := Heap.lt_size eb
      subst z1; rw [sz] at z2
      exact absurd (Nat.lt_trans (Nat.lt_succ_self _) z2) (Nat.lt_irrefl _)
    · have lt : argBest (fun i j => decide (ns.getD i 0 < ns.getD j 0)) (vs.length - 1) < ns.length := by omega
      rw [List.getD_eq_getElem?_getD, List.getElem?_eq_getElem lt]
      exact List.getElem_mem lt
    · intro j hj
      obtain ⟨i, hi, e⟩ := List.mem_iff_getElem.mp hj
      have z : ns.getD i 0 = j := by rw [List.getD_eq_getElem?_getD, List.getElem?_eq_getElem hi, ← e]; rfl
      rw [← z]
      exact b2 i (by omega)
end
section
variable {K : PySem.W.Frag}
/-- the best of some ints -/
def bestI (le : Int → Int → Bool) : List Int → Option Int
  | [] => none
  | n :: ns => match bestI le ns with
    | none => some n
    | some m => some (if le n m then n else m)
theorem bestI_ok {le : Int → Int → Bool} (tot : Tot le) : ∀ {ns : List Int} {m : Int}, bestI le ns = some m → m ∈ ns ∧ ∀ j ∈ ns, le m j = true
  | [], m, e => by cases e
  | n :: ns, m, e => by
    unfold bestI at e
    split at e
    · rename_i e1
      cases e
      cases ns with
      | nil => exact ⟨List.mem_cons_self, fun j hj => by rw [List.mem_singleton.mp hj]; exact (tot.tot _ _).elim id id⟩
      | cons a as =>
        exfalso
        unfold bestI at e1
        split at e1 <;> cases e1
    · rename_i m1 e1
      obtain ⟨h1, h2⟩ := bestI_ok tot e1
      cases e
      split
      · rename_i hl
        refine ⟨List.mem_cons_self, fun j hj => ?_⟩
        rcases List.mem_cons.mp hj with rfl | hj
        · exact (tot.tot j j).elim id id
        · exact tot.tr _ _ _ hl (h2 j hj)
      · rename_i hl
        refine ⟨List.mem_cons_of_mem _ h1, fun j hj => ?_⟩
        rcases List.mem_cons.mp hj with rfl | hj
        · exact (tot.tot j m1).resolve_left hl
        · exact h2 j hj
/-- min(d.values()), max(d.values()): ints, one at least -/
def fBest (le : Int → Int → Bool) (fe : Env → Option (Rv × Env)) (δ : Env) : Option (Rv × Env) := match got fe δ with
  | some (.dct ds, δ') => match intsOf (ds.map (·.2)) with
    | some ns => match bestI le ns with
      | some m => some (.dv (.int m), δ')
      | none => none
    | none => none
  | _ => none
def geI (a b : Int) : Bool := decide (b ≤ a)
theorem totG : Tot geI := ⟨fun a b => (Int.le_total b a).imp (fun h => decide_eq_true h) (fun h => decide_eq_true h), fun a b c h1 h2 => decide_eq_true (Int.le_trans (of_decide_eq_true h2) (of_decide_eq_true h1)), fun a b h1 h2 => Int.le_antisymm (of_decide_eq_true h2) (of_decide_eq_true h1)⟩
theorem de_best {le : Int → Int → Bool} (tot : Tot le) {te : TE} {fe : Env → Option (Rv × Env)} {t2 : TE} (he : DE K te fe)
    (ht : ∀ (σ : L2.St) (H : Hp) (Q : VK), (te σ H fun x H1 => ∃ a kvs ns, x = V.ref a ∧ Rd H1 a (.dK kvs) ∧ kvs.map (·.2) = ns.map V.int ∧ ns ≠ [] ∧ ∀ m, m ∈ ns → (∀ j ∈ ns, le m j = true) → Q (.int m) H1) → t2 σ H Q) : DE K t2 (fBest le fe) := by
  intro α σ H F L R δ δ' r Q D S e q
  unfold fBest at e
  split at e
  · rename_i ds δ1 e1
    split at e
    · rename_i ns ex
      split at e
      · rename_i m em
        cases e
        refine ht σ H Q (he.rd D S e1 fun v H' F' L' s D' S' dr => ?_)
        obtain ⟨a, kvs, rfl, h, hs⟩ := dr.dct D'
        have hv := hs.vals
        rw [intsOf_eq ex] at hv
        obtain ⟨b1, b2⟩ := bestI_ok tot em
        refine ⟨a, kvs, ns, rfl, h, hv.ints, fun z => (by subst z; cases em), fun m' h1 h2 => ?_⟩
        have : m' = m := tot.as _ _ (h2 m b1) (b2 m' h1)
        subst this
        exact q _ H' F' L' s D' S' (.int _)
      · cases e
    · cases e
  · cases e
theorem de_maxV {te : TE} {fe : Env → Option (Rv × Env)} (he : DE K te fe) : DE K (tMaxVals te) (fBest geI fe) := de_best totG he fun σ H Q h => by
  simp only [geI, decide_eq_true_eq] at h
  exact h
theorem de_minV {te : TE} {fe : Env → Option (Rv × Env)} (he : DE K te fe) : DE K (tLeastVals te) (fBest leI fe) := de_best totI he fun σ H Q h => by
  simp only [leI, decide_eq_true_eq] at h
  exact h
end
end FD
/-! What the laws of the spring draw from. -/
namespace FD
open PySem PySem.Spec PyProof.Rows L2 FL
def BIG : Nat := 2 ^ 14000
theorem log_BIG {n : Nat} (h : n < BIG) : n.log2 < 15000 := PySem.Flt.log2_lt_of (k := 15000) (by decide) (Nat.lt_of_lt_of_le h (Nat.pow_le_pow_right (by decide) (by decide)))
theorem ten_BIG : ∀ i : Nat, i ≤ 63 → (10 ^ 60) ^ i ≤ BIG := fun i hi => Nat.le_trans (Nat.pow_le_pow_right (by decide) hi) (by decide +kernel)
structure Sg where
  digits : Int
  seed : Int
  n : Nat
structure SgOk (G : Sg) : Prop where
  d0 : 0 ≤ G.digits
  dl : G.digits.natAbs < BIG
  s0 : 0 ≤ G.seed
  s1 : G.seed < 2305843009213693951
def encG (G : Sg) : Dv := .lst [.int G.digits, .int G.seed, .int G.n]
def poolS1 : List Str := ["aa", "ab", "ba", "zz", "zzzzzzzz", "all", "flood", "direct"]
def poolS2 : List Str := ["silent", "ring", "send", "undo", "host", "unknown"]
def POOLS : List Str := (poolA ++ poolS1) ++ poolS2
theorem pools_nd : POOLS.Nodup := by decide +kernel
theorem pools_nm : ∀ z ∈ POOLS, nmStr z = true := by decide +kernel
theorem pools_len : POOLS.length = 40 := by decide +kernel
theorem small_log {i : Int} (h0 : 0 ≤ i) (h : i < 2 ^ 200) : i.natAbs.log2 < 20000 := Nat.lt_trans (log_small (by omega)) (by decide)
theorem spring_digits {D c : Int} {i : Nat} (h0 : 0 ≤ D) (h1 : D < ((10 : Int) ^ 60) ^ i) : 0 ≤ D * 10 ^ 60 + c % 10 ^ 60 ∧ D * 10 ^ 60 + c % 10 ^ 60 < ((10 : Int) ^ 60) ^ (i + 1) := by
  have m0 : 0 ≤ c % 10 ^ 60 := Int.emod_nonneg _ (by decide)
  have m1 : c % 10 ^ 60 < 10 ^ 60 := Int.emod_lt_of_pos _ (by decide)
  have hT0 : 0 < (10 : Int) ^ 60 := by decide
  generalize (10 : Int) ^ 60 = T at *
  rw [Int.pow_succ]
  generalize T ^ i = P at *
  have hmul : (D + 1) * T ≤ P * T := Int.mul_le_mul_of_nonneg_right (by omega) (by omega)
  have hmul0 : 0 ≤ D * T := Int.mul_nonneg h0 (by omega)
  rw [Int.add_mul] at hmul
  omega
theorem digits_lt {D : Int} {i : Nat} (hi : i ≤ 63) (h0 : 0 ≤ D) (h1 : D < ((10 : Int) ^ 60) ^ i) : D.natAbs < BIG := by
  have h := ten_BIG i hi
  have e : (((10 ^ 60) ^ i : Nat) : Int) = ((10 : Int) ^ 60) ^ i := by rw [Int.natCast_pow]; rfl
  rw [← e] at h1
  omega
theorem spring_grow {D : Int} {i : Nat} (h1 : D < ((10 : Int) ^ 60) ^ i) : D < ((10 : Int) ^ 60) ^ (i + 1) := by
  have hT : 1 ≤ (10 : Int) ^ 60 := by decide
  generalize (10 : Int) ^ 60 = T at *
  have hP : 0 ≤ T ^ i := Int.pow_nonneg (by omega)
  rw [Int.pow_succ]
  have := Int.mul_le_mul_of_nonneg_left hT hP
  omega
theorem ix30 : ixN 3 0 = some 0 := rfl
theorem ix31 : ixN 3 1 = some 1 := rfl
theorem ix32 : ixN 3 2 = some 2 := rfl
/-- a while loop by what is left -/
theorem wLoop_inv {ft : Env → Option (Bool × Env)} {fs : Fs} (I : Nat → Env → Prop) (E : Env → Prop) (step : ∀ k δ, I (k + 1) δ → ∃ δ1, ft δ = some (true, δ1) ∧ ∃ δ2, fs δ1 = some (.nx, δ2) ∧ I k δ2) (stop : ∀ δ, I 0 δ → ∃ δ1, ft δ = some (false, δ1) ∧ E δ1) :
    ∀ {k n : Nat} {δ : Env}, I k δ → k < n → ∃ δ', wLoop ft fs n δ = some (.nx, δ') ∧ E δ'
  | 0, n + 1, δ, h, _ => by
    obtain ⟨δ1, e, hE⟩ := stop δ h
    refine ⟨δ1, ?_, hE⟩
    unfold wLoop
    rw [e]
  | k + 1, n + 1, δ, h, hk => by
    obtain ⟨δ1, e1, δ2, e2, h2⟩ := step k δ h
    obtain ⟨δ', e, hE⟩ := wLoop_inv I E step stop (k := k) (n := n) h2 (by omega)
    refine ⟨δ', ?_, hE⟩
    unfold wLoop
    rw [e1]
    simp only [e2]
    exact e
  | k, 0, _, _, hk => absurd hk (by omega)
theorem poolS_names : poolA.map Dv.str ++ [Dv.str (Str.ofString "aa"), Dv.str (Str.ofString "ab"), Dv.str (Str.ofString "ba"), Dv.str (Str.ofString "zz"), Dv.str (Str.ofString "zzzzzzzz"), Dv.str (Str.ofString "all"), Dv.str (Str.ofString "flood"), Dv.str (Str.ofString "direct")] ++ [Dv.str (Str.ofString "silent"), Dv.str (Str.ofString "ring"), Dv.str (Str.ofString "send"), Dv.str (Str.ofString "undo"), Dv.str (Str.ofString "host"), Dv.str (Str.ofString "unknown")] = POOLS.map Dv.str := by
  unfold POOLS poolS1 poolS2
  rw [List.map_append, List.map_append]; rfl
theorem abc_list : bList [.str "abcdefghijklmnopqrstuvwxyz"] = some (.lst (poolA.map Dv.str)) := by
  show (if (Str.ofString "abcdefghijklmnopqrstuvwxyz").length ≤ 1000000 then some (Dv.lst (signD (Str.ofString "abcdefghijklmnopqrstuvwxyz"))) else none) = _
  rw [if_pos (by decide +kernel)]
  rfl
theorem rng_len (n : Nat) : (rngD 0 n).length = n := by unfold rngD; rw [List.length_map, List.length_range]
theorem map_erase {β γ : Type} (f : β → γ) (l : List β) (i : Nat) : (l.map f).eraseIdx i = (l.eraseIdx i).map f := by rw [List.eraseIdx_eq_take_drop_succ, List.eraseIdx_eq_take_drop_succ, List.map_append, List.map_take, List.map_drop]
def stepS (k : Nat) : Int := ([1, 4, 10 ^ (28 : Int).toNat, 5 * 10 ^ (28 : Int).toNat] : List Int).getD k 1
def placeS (k : Nat) : Int := ([-2, -9, -(10 ^ (29 : Int).toNat), -(10 ^ (30 : Int).toNat)] : List Int).getD k 1
theorem stepS_at : ∀ k : Nat, k < 4 → atI [Dv.int 1, .int 4, .int (10 ^ (28 : Int).toNat), .int (5 * 10 ^ (28 : Int).toNat)] (k : Int) = some (.int (stepS k)) ∧ 0 < stepS k ∧ stepS k < 2 ^ 100
  | 0, _ => ⟨rfl, by decide +kernel, by decide +kernel⟩
  | 1, _ => ⟨rfl, by decide +kernel, by decide +kernel⟩
  | 2, _ => ⟨rfl, by decide +kernel, by decide +kernel⟩
  | 3, _ => ⟨rfl, by decide +kernel, by decide +kernel⟩
theorem placeS_at : ∀ k : Nat, k < 4 → atI [Dv.int (-2), .int (-9), .int (-(10 ^ (29 : Int).toNat)), .int (-(10 ^ (30 : Int).toNat))] (k : Int) = some (.int (placeS k)) ∧ -(10 ^ 30) ≤ placeS k ∧ placeS k + 39 * stepS k ≤ 10 ^ 30
  | 0, _ => ⟨rfl, by decide +kernel, by decide +kernel⟩
  | 1, _ => ⟨rfl, by decide +kernel, by decide +kernel⟩
  | 2, _ => ⟨rfl, by decide +kernel, by decide +kernel⟩
  | 3, _ => ⟨rfl, by decide +kernel, by decide +kernel⟩
theorem pow29 : oPow (.int 10) (.int 29) = some (.int (10 ^ (29 : Int).toNat)) := by rfl
theorem mul528 : oMul (.int 5) (.int (10 ^ (28 : Int).toNat)) = some (.int (5 * 10 ^ (28 : Int).toNat)) := oMul_ok (by decide) (by decide +kernel)
def encN (p : Str × Int) : Dv := .tup [.str p.1, .int p.2]
/-- values that == compares, nested at most so deep: no dicts in them -/
inductive Cn : Nat → Dv → Prop
  | non {k : Nat} : Cn k .non
  | bl {k : Nat} (b : Bool) : Cn k (.bl b)
  | int {k : Nat} (i : Int) : Cn k (.int i)
  | str {k : Nat} {z : Str} (h : ∀ c ∈ z.cps.toList, c < 0x110000) : Cn k (.str z)
  | lst {k : Nat} {ds : List Dv} (h : ∀ d ∈ ds, Cn k d) : Cn (k + 1) (.lst ds)
  | tup {k : Nat} {ds : List Dv} (h : ∀ d ∈ ds, Cn k d) : Cn (k + 1) (.tup ds)
theorem cn_all {k : Nat} : ∀ {ds : List Dv}, (∀ d ∈ ds, (toPD d).canLay0 = true ∧ (toPD d).depth ≤ k) → PyData.canLayAll0 (toPDs ds) = true ∧ PyData.depthAll (toPDs ds) ≤ k
  | [], _ => by rw [toPDs]; exact ⟨rfl, Nat.zero_le _⟩
  | d :: ds, h => by
    obtain ⟨h1, h2⟩ := cn_all (ds := ds) fun e he => h e (List.mem_cons_of_mem _ he)
    obtain ⟨q1, q2⟩ := h d List.mem_cons_self
    rw [toPDs]
    refine ⟨?_, ?_⟩
    · show ((toPD d).canLay0 && PyData.canLayAll0 (toPDs ds)) = true
      rw [q1, h1]; rfl
    · show max (toPD d).depth (PyData.depthAll (toPDs ds)) ≤ k
      omega
theorem Cn.can {k : Nat} {d : Dv} (h : Cn k d) : (toPD d).canLay0 = true ∧ (toPD d).depth ≤ k := by
  induction h with
  | non => rw [toPD]; exact ⟨rfl, Nat.zero_le _⟩
  | bl b => rw [toPD]; exact ⟨rfl, Nat.zero_le _⟩
  | int i => rw [toPD]; exact ⟨rfl, Nat.zero_le _⟩
  | @str k z h =>
    rw [toPD]
    refine ⟨?_, Nat.zero_le _⟩
    show (z.cps.all fun c => decide (c < 0x110000)) = true
    rw [← Array.all_toList, List.all_eq_true]
    exact fun c hc => decide_eq_true (h c hc)
  | @lst k ds h ih =>
    obtain ⟨h1, h2⟩ := cn_all ih
    rw [toPD]
    refine ⟨h1, ?_⟩
    show PyData.depthAll (toPDs ds) + 1 ≤ k + 1
    omega
  | @tup k ds h ih =>
    obtain ⟨h1, h2⟩ := cn_all ih
    rw [toPD]
    refine ⟨h1, ?_⟩
    show PyData.depthAll (toPDs ds) + 1 ≤ k + 1
    omega
theorem Cn.shp {k : Nat} {d : Dv} (h : Cn k d) (hk : k ≤ 64) : shp d = true := by
  obtain ⟨h1, h2⟩ := h.can
  unfold FD.shp SeqAt.shaped
  rw [h1, decide_eq_true (Nat.le_trans h2 hk)]; rfl
theorem Cn.nm {k : Nat} {z : Str} (h : nmStr z = true) : Cn k (.str z) := .str fun c hc => by
  unfold nmStr at h
  rw [Bool.and_eq_true] at h
  have := of_decide_eq_true ((List.all_eq_true.mp h.2) c hc)
  omega
theorem Cn.pair {k : Nat} {a b : Dv} (h1 : Cn k a) (h2 : Cn k b) : Cn (k + 1) (.tup [a, b]) := .tup fun d hd => by
  rcases List.mem_cons.mp hd with rfl | hd
  · exact h1
  · rw [List.mem_singleton.mp hd]; exact h2
theorem Cn.map {β : Type} {f : β → Dv} {k : Nat} {l : List β} (h : ∀ x ∈ l, Cn k (f x)) : Cn (k + 1) (.lst (l.map f)) := .lst fun d hd => by
  obtain ⟨x, hx, rfl⟩ := List.mem_map.mp hd
  exact h x hx
theorem ne_nilC {k : Nat} {ds : List Dv} (h : Cn k (.lst ds)) (hk : k ≤ 64) : oNeX (.lst ds) (.lst []) = some (.bl (!ds.isEmpty)) := ne_nilG (h.shp hk)
theorem toPDs_all {β : Type} {f : β → Dv} {W k : Nat} {l : List β} (h : ∀ x ∈ l, DOk (toPD (f x)) W k) : DOk (toPD (.lst (l.map f))) (l.length * (W + 1)) (k + 1) := by
  rw [toPD, toPDs_map, List.map_map]
  have := DOkA.all (w := W) (k := k) (ds := l.map (toPD ∘ f)) fun d hd => by
    obtain ⟨x, hx, rfl⟩ := List.mem_map.mp hd
    exact h x hx
  rw [List.length_map] at this
  exact DOk.list this
theorem dok_encN {p : Str × Int} (h1 : nmStr p.1 = true) (h2 : -(10 ^ 30) ≤ p.2 ∧ p.2 ≤ 10 ^ 30) : DOk (toPD (encN p)) 140 1 := by
  unfold encN
  rw [toPD, toPDs, toPDs, toPDs, toPD, toPD]
  have c : (10 : Int) ^ 30 < 10 ^ 39 := by decide
  exact (DOk.tuple (DOkA.cons (DOk.nm h1) (DOkA.cons (DOk.int (by omega) (by omega)) (DOkA.nil (k := 0))))).more (by omega) (Nat.le_refl _)
end FD
/-! ### sorted of pairs of an int and a text, any pairs -/
namespace SrtF
open PySem PySem.W PySem.Calls PyProof.Rows Srt SrtO
def ltIS (p q : Int × Str) : Bool := decide (p.1 < q.1) || (decide (p.1 = q.1) && decide (p.2.cps.toList < q.2.cps.toList))
def byBoth (k : Value → Int × Str) (v u : Value) : Bool := ltIS (k v) (k u)
section
variable {prog : Program} {w : World} {A : Around} {E : Value → Shared → Prop} {s : Shared}
theorem cmp_both {us : List Value} {k : Value → Int × Str} (hp : ∀ v ∈ us, IsIS s.heap v (k v).1 (k v).2) : Cmp prog w A s (tuples' true) (fun p => p.1 ∈ us) (lt2 (byBoth k)) := by
  intro p q mp mq
  have ip := hp _ mp
  have iq := hp _ mq
  show wpAny (model prog w) A (keyLt' (tuples' true) p.1 q.1) (fun r s' => s' = s ∧ r = ltIS (k p.1) (k q.1)) (fun _ _ => False) s
  unfold ltIS
  generalize (k p.1).1 = x at ip ⊢
  generalize (k p.1).2 = z at ip ⊢
  generalize (k q.1).1 = x' at iq ⊢
  generalize (k q.1).2 = z' at iq ⊢
  obtain ⟨b, ob, t, u, n, e1, e2, e3, e4⟩ := ip
  obtain ⟨b', ob', t', u', n', e1', e2', e3', e4'⟩ := iq
  rw [e1, e1']
  refine kat_lt e2 e4 e2' e4' ?_
  show KatLex prog w A true (decide (2 < 2)) _ [(.int x t, .int x' t'), (.str z u, .str z' u')] 0 s
  refine kat_cons (SeqAt.EqAt.int_int x t x' t' prog w _ _ ?_)
  refine kat_go (fun eq => ?_) (fun ne => ?_)
  · have ex : x = x' := by simpa using eq
    subst ex
    refine kat_yes (kat_cons (SeqAt.EqAt.str_str z u z' u' prog w _ _ ?_))
    refine kat_go (fun eq2 => ?_) (fun ne => ?_)
    · have ez : z = z' := by simpa using eq2
      subst ez
      refine kat_yes (kat_nil ⟨rfl, ?_⟩)
      simp [List.lt_irrefl]
    · refine kat_no (oneLt_any_str ⟨rfl, ?_⟩)
      simp
  · have nx : x ≠ x' := by simpa using ne
    refine kat_no (oneLt_int ⟨rfl, ?_⟩)
    simp [nx]
theorem sorted_both {l : Addr} {us : List Value} {k : Value → Int × Str} {Q : Value → Shared → Prop} (sw : Swo (byBoth k)) (hl : s.heap.IsList l us.toArray) (hz : us.length ≤ sizeLine) (hp : ∀ v ∈ us, IsIS s.heap v (k v).1 (k v).2)
    (h : ∀ (h' : Heap) (d : Addr) (out : List Value), Srtd (byBoth k) out → out.Perm us → (∀ b o, s.heap.get? b = some o → h'.get? b = some o) → s.heap.objs.size ≤ d → (∃ n, h'.get? d = some (seqObj "list" out.toArray n)) → Q (.ref d) { s with heap := h' }) :
    wpAny (model prog w) A (call (.builtin "sorted") [.ref l]) Q E s := by
  refine sorted_ord sw hl hz (fun h2 h1 a ha kk => ?_) fun out hs hb => h _ _ out hs hb.perm (fun b o e => sortedAll_old e) (Nat.le_succ _) (sortedAll_at s.heap us out.toArray)
  intro h' keep
  have at1 : ∀ v ∈ us, IsIS h' v (k v).1 (k v).2 := fun v hv => (hp v hv).up fun b o e c => keep b o (fun z => by
    subst z
    exact (kk _ _ e).1 rfl) (kk _ _ e).2
  obtain ⟨fs, k1, k2, k3⟩ := heads_of fun v hv => ⟨_, _, at1 v hv⟩
  refine ⟨tuples' true, fun Q E hq => ?_, cmp_both at1⟩
  refine kat_kind (T := .type "int") k1 (by omega) (fun f hf => ?_) (by rfl) ?_
  · obtain ⟨x, t, rfl⟩ := k3 f hf
    exact Looks.now
  · rw [show (Value.type "int" != Value.type "tuple") = true from by decide +kernel]
    exact hq
end
end SrtF
namespace FD
open PySem PySem.Spec PyProof.Rows L2 FL
theorem ltIS_le (p q : Int × Str) : SrtF.ltIS p q = !leP q p := by
  unfold SrtF.ltIS leP leS ltS
  rcases Int.lt_trichotomy p.1 q.1 with h | h | h
  · simp [h, Int.not_lt.mpr (Int.le_of_lt h), Int.ne_of_gt h]
  · simp [h]
  · simp [h, Int.not_lt.mpr (Int.le_of_lt h), Int.ne_of_gt h]
theorem swo_tot {α β : Type} {le : β → β → Bool} (T : Tot le) (k : α → β) : SrtO.Swo fun v u => !le (k u) (k v) :=
  ⟨fun x y h => by
    have h : (!le (k y) (k x)) = true := h
    have := (T.tot (k x) (k y)).resolve_right (by simpa using h)
    show (!le (k x) (k y)) = false
    rw [this]; rfl, fun x y z h1 h2 => by
    have h1 : (!le (k x) (k y)) = false := h1
    have h2 : (!le (k y) (k z)) = false := h2
    have := T.tr (k x) (k y) (k z) (by simpa using h1) (by simpa using h2)
    show (!le (k x) (k z)) = false
    rw [this]; rfl⟩
def rSortedB (K : PySem.W.Frag) : List V → Hp → VK → Prop := fun vs H Q => ∃ (a : Addr) (xs : List V) (k : V → Int × Str), vs = [V.ref a] ∧ SqL K H a xs ∧ (∀ x ∈ xs, ∃ t, x = V.ref t ∧ H t = some (.tup [.int (k x).1, .str (k x).2])) ∧
  ∀ ys p, ys.Perm xs → ys.Pairwise (fun x y => leP (k x) (k y) = true) → H p = none → Q (.ref p) (upd H p (.lst ys))
theorem cr_sortedB {X : Cx} : CallR X (.builtin "sorted") (rSortedB X.K) := by
  intro pins s σ H vs us Q I r h
  obtain ⟨a, xs, k, rfl, hs, hx, q⟩ := h
  obtain ⟨its, rv, hl, hz⟩ := I.list hs
  obtain ⟨u, rfl, ru⟩ := vals1 r
  obtain rfl : u = Value.ref a := ru
  obtain ⟨e1, e2⟩ := refs_back rv fun x m => let ⟨t, e, _⟩ := hx x m; ⟨t, e⟩
  have inX : ∀ v ∈ its, backV v ∈ xs := fun v hv => by rw [e1]; exact List.mem_map.mpr ⟨_, hv, rfl⟩
  have ew : SrtF.byBoth (fun u => k (backV u)) = fun v u => !leP (k (backV u)) (k (backV v)) := by
    funext v u
    exact ltIS_le _ _
  refine SrtF.sorted_both (k := fun u => k (backV u)) (by rw [ew]; exact swo_tot totP fun u => k (backV u)) hl.isList (by rw [← rv.length]; exact hz) (fun v hv => ?_) fun h' d out h1 h2 kp hd2 hn => ?_
  · have hm := inX v hv
    obtain ⟨t, rfl⟩ := e2 v hv
    obtain ⟨t', e, ht⟩ := hx _ hm
    cases e
    obtain ⟨_, its2, r2, o, ho, hc, n, hd3⟩ := I.hok _ _ ht
    obtain ⟨u1, u2, rfl, ⟨t1, rfl⟩, ⟨t2, rfl⟩⟩ := vals2 r2
    exact ⟨t, o, t1, t2, n, rfl, ho, hc, hd3⟩
  · have h3 : ∀ u ∈ out, ∃ a, u = Value.ref a := fun u hu => e2 u (h2.mem_iff.mp hu)
    obtain ⟨n, hn⟩ := hn
    have hb : (out.map backV).Perm xs := by rw [e1]; exact h2.map backV
    refine ⟨.ref d, upd H d (.lst (out.map backV)), I.laid (t' := s.toks) kp hd2 ⟨by rw [hb.length_eq]; exact hz, out, n, vals_back h3, hn⟩, rfl, q _ d hb ?_ (I.hok.fresh hd2)⟩
    rw [ew] at h1
    exact List.pairwise_map.mpr (h1.imp fun {v u} e => by simpa using e)
def bSortB : List Dv → Option Dv
  | [.lst ds] => match pairsIS ds with
    | some ps => some (.lst ((srt leP ps).map encI))
    | none => none
  | _ => none
section
variable {K : PySem.W.Frag}
theorem co_sortB : CRO K (rSortedB K) bSortB := by
  intro H F L vs ds d Q D h e q
  unfold bSortB at e
  split at e
  · split at e
    · rename_i ps ex
      cases e
      obtain ⟨v, rfl, dr⟩ := pr1 h
      obtain ⟨a, ys, rfl, h1, d1⟩ := dr.lst D
      rw [pairsIS_eq ex] at d1
      obtain ⟨ek, hx⟩ := ddA_pairs d1
      refine ⟨a, ys, kfP F, rfl, SqL.of h1, fun x hm => ?_, fun zs p pm st np => ?_⟩
      · obtain ⟨t, e, r⟩ := hx x hm
        exact ⟨t, e, D.frz r⟩
      · have e2 : zs.map (kfP F) = srt leP ps := srt_is totP (by rw [← ek]; exact pm.map _) (List.pairwise_map.mpr st)
        refine q p _ _ np rfl (.lst ?_)
        rw [← e2]
        exact ddA_back fun x hm => hx x (pm.mem_iff.mp hm)
    · cases e
  · cases e
end
end FD
/-! Plans for quiet states. -/
namespace FD
open PySem PySem.Spec PyProof.Rows L2 FL
def firstN (ks : List (Str × Int)) : Str := ((rk ks).head?.map (·.2)).getD ⟨#[]⟩
def lastN (ks : List (Str × Int)) : Str := ((rk ks).getLast?.map (·.2)).getD ⟨#[]⟩
structure Ends2 (ks : List (Str × Int)) (a b : Int × Str) : Prop where
  h0 : (rk ks)[0]? = some a
  hl : ∃ rs, rk ks = rs ++ [b]
  ee : endsL ks = (a.1, b.1)
  fn : firstN ks = a.2
  ln : lastN ks = b.2
  am : a.2 ∈ ks.map (·.1)
  bm : b.2 ∈ ks.map (·.1)
  ap : posOf ks a.2 = a.1
  bp : posOf ks b.2 = b.1
  le : ∀ z ∈ ks.map (·.1), a.1 ≤ posOf ks z ∧ posOf ks z ≤ b.1
  lt : ks.length ≠ 1 → a.1 < b.1
  eq : ks.length = 1 → a = b
theorem ends2 {ks : List (Str × Int)} (hk : LineOk ks) : ∃ a b, Ends2 ks a b := by
  have lr : (rk ks).length = ks.length := rk_len
  have l1 := hk.len1
  obtain ⟨a', b', _, _, ee', hab, hlt⟩ := endsL_in hk
  obtain ⟨a, ha⟩ : ∃ a, (rk ks)[0]? = some a := ⟨_, List.getElem?_eq_getElem (by omega)⟩
  obtain ⟨rs, b, hb⟩ : ∃ rs b, rk ks = rs ++ [b] := by
    rcases List.eq_nil_or_concat (rk ks) with e | ⟨rs, b, e⟩
    · rw [e] at lr; simp at lr; omega
    · exact ⟨rs, b, by rw [e, List.concat_eq_append]⟩
  have hlast : (rk ks).getLast? = some b := by rw [hb]; simp
  have hhead : (rk ks).head? = some a := by rw [List.head?_eq_getElem?, ha]
  have ee : endsL ks = (a.1, b.1) := by
    unfold endsL
    rw [hhead, hlast]; rfl
  rw [ee] at ee'
  injection ee' with e1 e2
  obtain ⟨ma, pa⟩ := rk_host hk (List.mem_of_getElem? ha)
  obtain ⟨mb, pb⟩ := rk_host hk (p := b) (by rw [hb]; simp)
  refine ⟨a, b, ha, ⟨rs, hb⟩, ee, by unfold firstN; rw [hhead]; rfl, by unfold lastN; rw [hlast]; rfl, ma, mb, pa, pb, fun z hz => ?_, fun q => by rw [e1, e2]; exact hlt q, fun q => ?_⟩
  · obtain ⟨j, hj⟩ := rk_at hk hz
    have := hab _ (List.mem_of_getElem? hj)
    rw [e1, e2]; exact this
  · cases rs with
    | nil => rw [hb] at ha; cases ha; rfl
    | cons c cs => rw [hb] at lr; simp at lr; omega
/-- the fewest frames to the ends of a host between them -/
def fteE (ks : List (Str × Int)) (es : List (Str × Span)) (h : Str) : List (Str × Str) :=
  if inSpan (spOf es h) (endsL ks).1 then [(h, lastN ks)]
  else if inSpan (spOf es h) (endsL ks).2 then [(h, firstN ks)]
  else if !inSpan (spOf es (firstN ks)) (posOf ks h) then [(h, firstN ks)]
  else if !inSpan (spOf es (lastN ks)) (posOf ks h) then [(h, lastN ks)]
  else [(h, firstN ks), (h, lastN ks)]
theorem fteE_len (ks : List (Str × Int)) (es : List (Str × Span)) (h : Str) : (fteE ks es h).length = 1 + (if !inSpan (spOf es h) (endsL ks).1 && !inSpan (spOf es h) (endsL ks).2 && inSpan (spOf es (firstN ks)) (posOf ks h) && inSpan (spOf es (lastN ks)) (posOf ks h) then 1 else 0) := by
  unfold fteE
  cases inSpan (spOf es h) (endsL ks).1 <;> cases inSpan (spOf es h) (endsL ks).2 <;> cases inSpan (spOf es (firstN ks)) (posOf ks h) <;> cases inSpan (spOf es (lastN ks)) (posOf ks h) <;> rfl
def innerE (ks : List (Str × Int)) (es : List (Str × Span)) : List Str := (lackE ks es).filter fun z => !(decide (z = firstN ks) || decide (z = lastN ks))
/-- the silent ones of some hosts, those first that need the fewest frames -/
def silR (ks : List (Str × Int)) (es : List (Str × Span)) (I : List Str) : List (Int × Str) := srt leP ((I.filter fun z => decide (spOf es z = none)).map fun z => (((fteE ks es z).length : Int), z))
def innerPlan (ks : List (Str × Int)) (es : List (Str × Span)) (I : List Str) : List (Str × Str) :=
  match silR ks es I with
  | [] => I.flatMap (fteE ks es)
  | p :: _ => ((I.filter fun z => !decide (z = p.2)).map fun z => (z, p.2)) ++ fteE ks es p.2
def planE (ks : List (Str × Int)) (es : List (Str × Span)) : List (Str × Str) :=
  innerPlan ks es (innerE ks es) ++ (if firstN ks ∈ lackE ks es then [(firstN ks, lastN ks)] else []) ++ (if lastN ks ∈ lackE ks es then [(lastN ks, firstN ks)] else [])
theorem innerE_mem {ks : List (Str × Int)} {es : List (Str × Span)} (hk : LineOk ks) {z : Str} (hz : z ∈ innerE ks es) : z ∈ ks.map (·.1) ∧ z ≠ firstN ks ∧ z ≠ lastN ks ∧ z ∈ lackE ks es := by
  unfold innerE at hz
  obtain ⟨h1, h2⟩ := List.mem_filter.mp hz
  have h3 : z ∈ ks.map (·.1) := by
    unfold lackE at h1
    split at h1
    · cases h1
    · obtain ⟨p, hp, rfl⟩ := List.mem_map.mp (List.mem_filter.mp h1).1
      exact (rk_host hk hp).1
  simp at h2
  exact ⟨h3, h2.1, h2.2, h1⟩
theorem lackE_nd {ks : List (Str × Int)} {es : List (Str × Span)} (hk : LineOk ks) : (lackE ks es).Nodup := by
  unfold lackE
  split
  · exact List.nodup_nil
  · refine List.Pairwise.filter _ ?_
    have : ((rk ks).map (·.2)).Perm (ks.map (·.1)) := by
      have := (rk_perm (ks := ks)).map (·.2)
      rwa [List.map_map] at this
    exact this.nodup_iff.mpr hk.ndn
theorem innerE_nd {ks : List (Str × Int)} {es : List (Str × Span)} (hk : LineOk ks) : (innerE ks es).Nodup := List.Pairwise.filter _ (lackE_nd hk)
theorem wipeD_out {δ : Env} {j : Nat} : ∀ {vs : List Nat}, j ∉ vs → (wipeD δ vs)[j]? = δ[j]?
  | [], _ => rfl
  | v :: vs, h => by
    unfold wipeD
    rw [List.getElem?_set_ne (fun e => h (by rw [e]; exact List.mem_cons_self)), wipeD_out fun m => h (List.mem_cons_of_mem _ m)]
theorem wipeD_more {δ δ' : Env} {vs vs1 : List Nat} (h : ∀ u ∈ vs1, u ∈ vs) (e : wipeD δ' vs1 = wipeD δ vs1) : wipeD δ' vs = wipeD δ vs := by
  have hl : δ'.length = δ.length := by rw [← wipeD_len δ' vs1, ← wipeD_len δ vs1, e]
  refine List.ext_getElem? fun j => ?_
  by_cases hj : j ∈ vs
  · by_cases hd : j < δ.length
    · rw [wipeD_in hj hd, wipeD_in hj (by omega)]
    · rw [List.getElem?_eq_none (by rw [wipeD_len]; omega), List.getElem?_eq_none (by rw [wipeD_len]; omega)]
  · have hj1 : j ∉ vs1 := fun z => hj (h j z)
    rw [wipeD_out hj, wipeD_out hj, ← wipeD_out (δ := δ') hj1, ← wipeD_out (δ := δ) hj1, e]
theorem lc2_pure {fb fb1 : Dv → Env → Option Env} {fi1 : Env → Option (List Dv × Env)} {fe : Env → Option (Rv × Env)} {vs vs1 : List Nat} (hv : ∀ u ∈ vs1, u ∈ vs) (A : Dv → List Dv) (g : Dv → Dv → Dv) : ∀ {ds : List Dv} {δ : Env},
    (∀ d ∈ ds, ∃ δ2 δ3, fb d (wipeD δ vs) = some δ2 ∧ fi1 δ2 = some (A d, δ3) ∧ (A d).length ≤ 1000 ∧ (∀ e ∈ A d, ∃ δ4, fb1 e (wipeD δ3 vs1) = some δ4 ∧ fe δ4 = some (.dv (g d e), δ4) ∧ wipeD δ4 vs1 = wipeD δ3 vs1) ∧ wipeD δ3 vs = wipeD δ vs) →
    ∃ δ', lc2Loop fb tstYes fi1 fb1 tstYes fe vs vs1 ds δ = some (ds.flatMap fun d => (A d).map (g d), δ') ∧ wipeD δ' vs = wipeD δ vs
  | [], δ, _ => ⟨δ, rfl, rfl⟩
  | d :: ds, δ, h => by
    obtain ⟨δ2, δ3, e1, e2, hl, hi, e3⟩ := h d List.mem_cons_self
    obtain ⟨δ5, e4, e5⟩ := lc_all (vs := vs1) (g := g d) (ds := A d) (δ := δ3) hi
    have e6 : wipeD δ5 vs = wipeD δ vs := (wipeD_more hv e5).trans e3
    obtain ⟨δ', e7, e8⟩ := lc2_pure (fi1 := fi1) (fe := fe) hv A g (ds := ds) (δ := δ5) fun c hc => by
      rw [e6]; exact h c (List.mem_cons_of_mem _ hc)
    refine ⟨δ', ?_, e8.trans e6⟩
    unfold lc2Loop
    simp only [e1, tstYes, e2, if_pos hl]
    rw [e4]
    simp only
    rw [e7]
    rfl
theorem oLc2_pure {fi : Env → Option (List Dv × Env)} {fb fb1 : Dv → Env → Option Env} {fi1 : Env → Option (List Dv × Env)} {fe : Env → Option (Rv × Env)} {vs vs1 : List Nat} {δ δ1 : Env} {ds : List Dv} (hv : ∀ u ∈ vs1, u ∈ vs) (A : Dv → List Dv) (g : Dv → Dv → Dv) (h1 : fi δ = some (ds, δ1)) (hl : ds.length ≤ 900)
    (h : ∀ d ∈ ds, ∃ δ2 δ3, fb d (wipeD δ1 vs) = some δ2 ∧ fi1 δ2 = some (A d, δ3) ∧ (A d).length ≤ 1000 ∧ (∀ e ∈ A d, ∃ δ4, fb1 e (wipeD δ3 vs1) = some δ4 ∧ fe δ4 = some (.dv (g d e), δ4) ∧ wipeD δ4 vs1 = wipeD δ3 vs1) ∧ wipeD δ3 vs = wipeD δ1 vs) :
    oLc2 fi fb tstYes fi1 fb1 tstYes fe vs vs1 δ = some (.lst (ds.flatMap fun d => (A d).map (g d)), wipeD δ1 vs) := by
  obtain ⟨δ', e1, e2⟩ := lc2_pure hv A g h
  unfold oLc2
  rw [h1]
  simp only [if_pos hl, e1, e2]
theorem lookK_map {I : List Str} {g : Str → Dv} {z : Str} (hz : z ∈ I) : lookK (I.map fun z => ((.inr z : Key), g z)) (.inr z) = some (g z) := by
  induction I with
  | nil => cases hz
  | cons y I ih =>
    rw [List.map_cons, lookK_cons]
    by_cases e : y = z
    · rw [if_pos (by rw [e]), e]
    · rw [if_neg (fun q => e (Sum.inr.inj q))]
      exact ih ((List.mem_cons.mp hz).resolve_left fun q => e q.symm)
theorem fteE_le (ks : List (Str × Int)) (es : List (Str × Span)) (h : Str) : (fteE ks es h).length ≤ 2 := by rw [fteE_len]; split <;> omega
theorem silR_mem {ks : List (Str × Int)} {es : List (Str × Span)} {I : List Str} {p : Int × Str} (h : p ∈ silR ks es I) : p.2 ∈ I ∧ spOf es p.2 = none ∧ p.1 = ((fteE ks es p.2).length : Int) := by
  have := (srt_perm leP _).mem_iff.mp h
  obtain ⟨z, hz, rfl⟩ := List.mem_map.mp this
  obtain ⟨h1, h2⟩ := List.mem_filter.mp hz
  exact ⟨h1, of_decide_eq_true h2, rfl⟩
theorem flat_strs : ∀ L : List Str, (L.map Dv.str).all flatD = true
  | [] => rfl
  | z :: L => by rw [List.map_cons, List.all_cons, flat_strs L]; rfl
theorem inF_strs (z : Str) (L : List Str) : oInF (.str z) (.lst (L.map Dv.str)) = some (.bl (decide (z ∈ L))) := by
  unfold oInF inBF
  simp only [flatD, flat_strs, Bool.and_self, if_true]
  refine congrArg (fun b => some (Dv.bl b)) ?_
  rw [Bool.eq_iff_iff, List.any_eq_true, decide_eq_true_iff]
  constructor
  · rintro ⟨d, hd, e⟩
    obtain ⟨y, hy, rfl⟩ := List.mem_map.mp hd
    have : y = z := by simpa [eqF] using e
    rw [← this]; exact hy
  · intro hz
    exact ⟨.str z, List.mem_map.mpr ⟨z, hz, rfl⟩, by simp [eqF]⟩
theorem notInF_strs (z : Str) (L : List Str) : oNotInF (.str z) (.lst (L.map Dv.str)) = some (.bl (!decide (z ∈ L))) := by
  have h := inF_strs z L
  unfold oInF at h
  unfold oNotInF
  split at h
  · rename_i c e
    injection h with h
    injection h with h
    rw [h]
  · cases h
theorem notInF_two (z a b : Str) : oNotInF (.str z) (.tup [.str a, .str b]) = some (.bl (!(decide (z = a) || decide (z = b)))) := by
  unfold oNotInF inBF
  simp only [flatD, List.all_cons, List.all_nil, Bool.and_self, if_true, List.any_cons, List.any_nil, Bool.or_false, eqF]
  refine congrArg (fun b => some (Dv.bl (!b))) ?_
  rw [Bool.eq_iff_iff, Bool.or_eq_true, Bool.or_eq_true, beq_iff_eq, beq_iff_eq, decide_eq_true_iff, decide_eq_true_iff]
  exact ⟨fun h => h.imp Eq.symm Eq.symm, fun h => h.imp Eq.symm Eq.symm⟩
end FD
/-! How many frames a plan has. -/
namespace FD
open PySem PySem.Spec PyProof.Rows L2 FL
theorem bestI_some {le : Int → Int → Bool} : ∀ {ns : List Int}, ns ≠ [] → ∃ m, bestI le ns = some m
  | [], h => absurd rfl h
  | n :: ns, _ => by
    unfold bestI
    split
    · exact ⟨_, rfl⟩
    · exact ⟨_, rfl⟩
theorem best_ends {ks : List (Str × Int)} (hk : LineOk ks) : bestI leI (ks.map (·.2)) = some (endsL ks).1 ∧ bestI geI (ks.map (·.2)) = some (endsL ks).2 := by
  obtain ⟨a, b, E⟩ := ends2 hk
  have l1 := hk.len1
  have ne : ks.map (·.2) ≠ [] := fun e => by
    have := congrArg List.length e
    rw [List.length_map, List.length_nil] at this
    omega
  have am : a.1 ∈ ks.map (·.2) := by rw [← E.ap]; exact pos_in E.am
  have bm : b.1 ∈ ks.map (·.2) := by rw [← E.bp]; exact pos_in E.bm
  have inn : ∀ j ∈ ks.map (·.2), a.1 ≤ j ∧ j ≤ b.1 := fun j hj => by
    obtain ⟨p, hp, rfl⟩ := List.mem_map.mp hj
    have := E.le p.1 (List.mem_map.mpr ⟨p, hp, rfl⟩)
    rwa [posOf_eq hk.ndn hp] at this
  rw [E.ee]
  obtain ⟨m, hm⟩ := bestI_some (le := leI) ne
  obtain ⟨M, hM⟩ := bestI_some (le := geI) ne
  obtain ⟨m1, m2⟩ := bestI_ok totI hm
  obtain ⟨M1, M2⟩ := bestI_ok totG hM
  have e1 : m = a.1 := Int.le_antisymm (of_decide_eq_true (m2 _ am)) (inn m m1).1
  have e2 : M = b.1 := Int.le_antisymm (inn M M1).2 (of_decide_eq_true (M2 _ bm))
  exact ⟨by rw [hm, e1], by rw [hM, e2]⟩
def bothIn (ks : List (Str × Int)) (es : List (Str × Span)) (z : Str) : Bool := inSpan (spOf es z) (endsL ks).1 && inSpan (spOf es z) (endsL ks).2
/-- the hosts that lack, by name -/
def lackS (ks : List (Str × Int)) (es : List (Str × Span)) : List Str := if ks.length > 1 then (srt leS (ks.map (·.1))).filter (fun z => !bothIn ks es z) else []
theorem lackS_perm {ks : List (Str × Int)} {es : List (Str × Span)} (hk : LineOk ks) : (lackS ks es).Perm (lackE ks es) := by
  have l1 := hk.len1
  unfold lackS lackE
  by_cases h : ks.length = 1
  · rw [if_neg (by omega), if_pos h]
  · rw [if_pos (by omega), if_neg h]
    refine List.Perm.filter _ ?_
    refine (srt_perm leS _).trans ?_
    have := (rk_perm (ks := ks)).map (·.2)
    rw [List.map_map] at this
    exact this.symm
/-- not an end, known at neither end -/
def wideB (ks : List (Str × Int)) (es : List (Str × Span)) (z : Str) : Bool := !(decide (z = firstN ks) || decide (z = lastN ks)) && !(inSpan (spOf es z) (endsL ks).1 || inSpan (spOf es z) (endsL ks).2)
def arndB (ks : List (Str × Int)) (es : List (Str × Span)) (z : Str) : Bool := wideB ks es z && (inSpan (spOf es (firstN ks)) (posOf ks z) && inSpan (spOf es (lastN ks)) (posOf ks z))
def arndS (ks : List (Str × Int)) (es : List (Str × Span)) : List Str := (srt leS (ks.map (·.1))).filter (arndB ks es)
def silS (ks : List (Str × Int)) (es : List (Str × Span)) : List Str := (ks.map (·.1)).filter fun z => decide (spOf es z = none)
def furtherE (ks : List (Str × Int)) (es : List (Str × Span)) : Int :=
  if spOf es (firstN ks) = none ∨ spOf es (lastN ks) = none then 0
  else if silS ks es = [] then ((arndS ks es).length : Int)
  else if (silS ks es).filter (fun z => !decide (z ∈ arndS ks es)) = [] then 1 else 0
theorem arnd_len {ks : List (Str × Int)} {es : List (Str × Span)} {z : Str} (hz : z ∈ innerE ks es) (hk : LineOk ks) : (fteE ks es z).length = 1 + (if arndB ks es z then 1 else 0) := by
  rw [fteE_len]
  obtain ⟨_, h1, h2, _⟩ := innerE_mem hk hz
  unfold arndB wideB
  have e1 : decide (z = firstN ks) = false := decide_eq_false h1
  have e2 : decide (z = lastN ks) = false := decide_eq_false h2
  rw [e1, e2]
  cases inSpan (spOf es z) (endsL ks).1 <;> cases inSpan (spOf es z) (endsL ks).2 <;> cases inSpan (spOf es (firstN ks)) (posOf ks z) <;> cases inSpan (spOf es (lastN ks)) (posOf ks z) <;> rfl
theorem flat_len {ks : List (Str × Int)} {es : List (Str × Span)} : ∀ {I : List Str}, (∀ z ∈ I, (fteE ks es z).length = 1 + (if arndB ks es z then 1 else 0)) → (I.flatMap (fteE ks es)).length = I.length + (I.filter (arndB ks es)).length
  | [], _ => rfl
  | z :: I, h => by
    have h1 := h z List.mem_cons_self
    have h2 := flat_len (I := I) fun y hy => h y (List.mem_cons_of_mem _ hy)
    rw [List.flatMap_cons, List.length_append, h1, h2, List.length_cons]
    cases e : arndB ks es z with
    | true => rw [List.filter_cons_of_pos e, List.length_cons]; simp; omega
    | false => rw [List.filter_cons_of_neg (by rw [e]; decide)]; simp; omega
theorem nd_filter_one {I : List Str} {m : Str} (nd : I.Nodup) (hm : m ∈ I) : (I.filter fun z => !decide (z = m)).length + 1 = I.length := by
  induction I with
  | nil => cases hm
  | cons y I ih =>
    have nd := List.nodup_cons.mp nd
    by_cases e : y = m
    · subst e
      rw [List.filter_cons_of_neg (by simp)]
      have : I.filter (fun z => !decide (z = y)) = I := List.filter_eq_self.mpr fun z hz => by
        have : z ≠ y := fun q => nd.1 (q ▸ hz)
        simp [this]
      rw [this, List.length_cons]
    · rw [List.filter_cons_of_pos (by simp [e]), List.length_cons, List.length_cons, ih nd.2 ((List.mem_cons.mp hm).resolve_left fun q => e q.symm)]
/-- a host lacks exactly if it is not known at both ends (of a line of more than one) -/
theorem lack_iff {ks : List (Str × Int)} {es : List (Str × Span)} (hk : LineOk ks) {z : Str} (hz : z ∈ ks.map (·.1)) : z ∈ lackE ks es ↔ ks.length ≠ 1 ∧ bothIn ks es z = false := by
  unfold lackE
  by_cases h : ks.length = 1
  · rw [if_pos h]; exact ⟨fun q => (by cases q), fun q => absurd h q.1⟩
  · rw [if_neg h, List.mem_filter]
    have : z ∈ (rk ks).map (·.2) := by
      obtain ⟨j, hj⟩ := rk_at hk hz
      exact List.mem_map.mpr ⟨_, List.mem_of_getElem? hj, rfl⟩
    unfold bothIn
    cases inSpan (spOf es z) (endsL ks).1 <;> cases inSpan (spOf es z) (endsL ks).2 <;> simp [this, h]
theorem mem_if {x z : Str} {L : List Str} (h : x ≠ z) : (if x ∈ z :: L then 1 else 0) = (if x ∈ L then 1 else 0) := by simp [List.mem_cons, h]
theorem plan_count {ks : List (Str × Int)} {es : List (Str × Span)} (hk : LineOk ks) : ((planE ks es).length : Int) = ((lackE ks es).length : Int) + furtherE ks es := by
  obtain ⟨a, b, E⟩ := ends2 hk
  have nd := innerE_nd (es := es) hk
  have hfte := fun z (hz : z ∈ innerE ks es) => arnd_len hz hk
  -- the ends that lack, and the rest
  have hcnt : (innerE ks es).length + (if firstN ks ∈ lackE ks es then 1 else 0) + (if lastN ks ∈ lackE ks es then 1 else 0) = (lackE ks es).length := by
    have hl := lackE_nd (es := es) hk
    by_cases h1 : ks.length = 1
    · have : lackE ks es = [] := by unfold lackE; rw [if_pos h1]
      unfold innerE
      rw [this]; rfl
    · have hne : firstN ks ≠ lastN ks := fun e => by
        rw [E.fn, E.ln] at e
        have h2 := E.ap
        have h3 := E.bp
        rw [e] at h2
        have := E.lt h1
        omega
      unfold innerE
      generalize lackE ks es = L at hl
      clear hfte nd
      induction L with
      | nil => rfl
      | cons z L ih =>
        have hl := List.nodup_cons.mp hl
        have ih := ih hl.2
        by_cases e1 : z = firstN ks
        · subst e1
          rw [List.filter_cons_of_neg (by simp), List.length_cons, if_pos List.mem_cons_self]
          rw [if_neg hl.1] at ih
          rw [mem_if (Ne.symm hne)]
          omega
        · by_cases e2 : z = lastN ks
          · subst e2
            rw [List.filter_cons_of_neg (by simp), List.length_cons, if_pos (show lastN ks ∈ lastN ks :: L from List.mem_cons_self)]
            rw [if_neg hl.1] at ih
            rw [mem_if hne]
            omega
          · rw [List.filter_cons_of_pos (by simp [e1, e2]), List.length_cons, List.length_cons]
            rw [mem_if (Ne.symm e1), mem_if (Ne.symm e2)]
            omega
  have hlen : (planE ks es).length = (innerPlan ks es (innerE ks es)).length + (if firstN ks ∈ lackE ks es then 1 else 0) + (if lastN ks ∈ lackE ks es then 1 else 0) := by
    unfold planE
    rw [List.length_append, List.length_append]
    congr 1
    · congr 1
      split <;> rfl
    · split <;> rfl
  -- what arndS holds
  have harnd : ∀ z, z ∈ arndS ks es ↔ z ∈ ks.map (·.1) ∧ arndB ks es z = true := fun z => by
    unfold arndS
    rw [List.mem_filter, (srt_perm leS _).mem_iff]
  have hinner : ∀ z, z ∈ innerE ks es ↔ z ∈ ks.map (·.1) ∧ ks.length ≠ 1 ∧ bothIn ks es z = false ∧ z ≠ firstN ks ∧ z ≠ lastN ks := fun z => by
    constructor
    · intro hz
      obtain ⟨h1, h2, h3, h4⟩ := innerE_mem hk hz
      have := (lack_iff (es := es) hk h1).mp h4
      exact ⟨h1, this.1, this.2, h2, h3⟩
    · rintro ⟨h1, h2, h3, h4, h5⟩
      unfold innerE
      rw [List.mem_filter]
      exact ⟨(lack_iff (es := es) hk h1).mpr ⟨h2, h3⟩, by simp [h4, h5]⟩
  have hone : ks.length = 1 → ∀ z ∈ ks.map (·.1), z = firstN ks := fun h z hz => by
    have hle := E.le z hz
    have heq := E.eq h
    subst heq
    have : posOf ks z = posOf ks a.2 := by rw [E.ap]; omega
    rw [E.fn]
    have m1 := posOf_in hz
    have m2 := posOf_in E.am
    rw [this] at m1
    have : ∀ {l : List (Str × Int)}, (l.map (·.2)).Nodup → ∀ {x y : Str} {n : Int}, (x, n) ∈ l → (y, n) ∈ l → x = y := fun {l} => by
      induction l with
      | nil => intro _ x y n hx; cases hx
      | cons q l ih =>
        intro nd x y n hx hy
        have nd := List.nodup_cons.mp nd
        rcases List.mem_cons.mp hx with rfl | hx <;> rcases List.mem_cons.mp hy with e | hy
        · injection e with e1 e2; exact e1.symm
        · exact absurd (List.mem_map.mpr ⟨_, hy, rfl⟩) nd.1
        · rw [← e] at nd
          exact absurd (List.mem_map.mpr ⟨_, hx, rfl⟩) nd.1
        · exact ih nd.2 hx hy
    exact this hk.ndp m1 m2
  have arnd_in : ∀ z, z ∈ arndS ks es → z ∈ innerE ks es := fun z hz => by
    obtain ⟨h1, h2⟩ := (harnd z).mp hz
    unfold arndB wideB at h2
    simp only [Bool.and_eq_true, Bool.not_eq_true', Bool.or_eq_false_iff, decide_eq_false_iff_not] at h2
    obtain ⟨⟨⟨h3, h4⟩, h5, h6⟩, h7⟩ := h2
    refine (hinner z).mpr ⟨h1, fun q => h3 (hone q z h1), by unfold bothIn; rw [h5]; rfl, h3, h4⟩
  have hfil : ((innerE ks es).filter (arndB ks es)).length = (arndS ks es).length := by
    refine List.Perm.length_eq ?_
    refine (List.perm_ext_iff_of_nodup (List.Pairwise.filter _ nd) (List.Pairwise.filter _ (srt_nd hk))).mpr fun z => ?_
    constructor
    · intro hz
      obtain ⟨h1, h2⟩ := List.mem_filter.mp hz
      exact (harnd z).mpr ⟨(innerE_mem hk h1).1, h2⟩
    · intro hz
      exact List.mem_filter.mpr ⟨arnd_in z hz, ((harnd z).mp hz).2⟩
  have hinP : ((innerPlan ks es (innerE ks es)).length : Int) = ((innerE ks es).length : Int) + furtherE ks es := by
    unfold innerPlan
    -- no host between is surrounded if an end is silent
    have silEnd : spOf es (firstN ks) = none ∨ spOf es (lastN ks) = none → ∀ z, arndB ks es z = false := fun h z => by
      unfold arndB
      rcases h with h | h
      · rw [h]; cases wideB ks es z <;> rfl
      · rw [h]; cases wideB ks es z <;> cases inSpan (spOf es (firstN ks)) (posOf ks z) <;> rfl
    have silIn : ∀ z ∈ ks.map (·.1), spOf es z = none → z ≠ firstN ks → z ≠ lastN ks → z ∈ innerE ks es := fun z hz h n1 n2 => by
      refine (hinner z).mpr ⟨hz, fun q => n1 (hone q z hz), ?_, n1, n2⟩
      unfold bothIn; rw [h]; rfl
    cases hS : silR ks es (innerE ks es) with
    | nil =>
      simp only
      rw [flat_len hfte, hfil]
      have noSil : ∀ z ∈ innerE ks es, spOf es z ≠ none := fun z hz h => by
        have : (((fteE ks es z).length : Int), z) ∈ silR ks es (innerE ks es) := (srt_perm leP _).mem_iff.mpr (List.mem_map.mpr ⟨z, List.mem_filter.mpr ⟨hz, by simp [h]⟩, rfl⟩)
        rw [hS] at this; cases this
      unfold furtherE
      by_cases hend : spOf es (firstN ks) = none ∨ spOf es (lastN ks) = none
      · rw [if_pos hend]
        have : arndS ks es = [] := List.eq_nil_iff_forall_not_mem.mpr fun z hz => by
          have := ((harnd z).mp hz).2
          rw [silEnd hend z] at this; cases this
        rw [this]; simp
      · rw [if_neg hend]
        have : silS ks es = [] := List.eq_nil_iff_forall_not_mem.mpr fun z hz => by
          unfold silS at hz
          obtain ⟨h1, h2⟩ := List.mem_filter.mp hz
          have h2 := of_decide_eq_true h2
          refine noSil z (silIn z h1 h2 (fun e => hend (.inl (by rw [← e]; exact h2))) (fun e => hend (.inr (by rw [← e]; exact h2)))) h2
        rw [if_pos this]; simp
    | cons p rest =>
      simp only
      obtain ⟨pI, ps, pl⟩ := silR_mem (ks := ks) (es := es) (I := innerE ks es) (p := p) (by rw [hS]; exact List.mem_cons_self)
      have hmin : ∀ z ∈ innerE ks es, spOf es z = none → (fteE ks es p.2).length ≤ (fteE ks es z).length := fun z hz h => by
        have hm : (((fteE ks es z).length : Int), z) ∈ silR ks es (innerE ks es) := (srt_perm leP _).mem_iff.mpr (List.mem_map.mpr ⟨z, List.mem_filter.mpr ⟨hz, by simp [h]⟩, rfl⟩)
        have hpw := srt_pw totP (((innerE ks es).filter fun z => decide (spOf es z = none)).map fun z => (((fteE ks es z).length : Int), z))
        have hS' : srt leP (((innerE ks es).filter fun z => decide (spOf es z = none)).map fun z => (((fteE ks es z).length : Int), z)) = p :: rest := hS
        rw [hS'] at hpw
        rw [hS] at hm
        rcases List.mem_cons.mp hm with e | hm
        · rw [← e]; exact Nat.le_refl _
        · have := (List.pairwise_cons.mp hpw).1 _ hm
          unfold leP at this
          simp only [Bool.or_eq_true, Bool.and_eq_true, decide_eq_true_eq] at this
          rw [pl] at this
          rcases this with h | ⟨h, _⟩ <;> omega
      rw [List.length_append, List.length_map]
      have hc := nd_filter_one nd pI
      have hp := hfte p.2 pI
      have key : furtherE ks es = if arndB ks es p.2 then 1 else 0 := by
        unfold furtherE
        by_cases hend : spOf es (firstN ks) = none ∨ spOf es (lastN ks) = none
        · rw [if_pos hend, silEnd hend p.2]; rfl
        · rw [if_neg hend]
          have pk := (innerE_mem hk pI).1
          have pS : p.2 ∈ silS ks es := List.mem_filter.mpr ⟨pk, by simp [ps]⟩
          rw [if_neg (fun e => by rw [e] at pS; cases pS)]
          cases hb : arndB ks es p.2 with
          | true =>
            rw [if_pos]
            · rfl
            · refine List.filter_eq_nil_iff.mpr fun z hz => ?_
              obtain ⟨h1, h2⟩ := List.mem_filter.mp hz
              have h2 := of_decide_eq_true h2
              have zI := silIn z h1 h2 (fun e => hend (.inl (by rw [← e]; exact h2))) (fun e => hend (.inr (by rw [← e]; exact h2)))
              have hle := hmin z zI h2
              have hzl := hfte z zI
              rw [hp, hb, hzl] at hle
              have hzb : arndB ks es z = true := by
                cases q : arndB ks es z with
                | true => rfl
                | false => rw [q] at hle; simp at hle
              simp [(harnd z).mpr ⟨h1, hzb⟩]
          | false =>
            rw [if_neg]
            · rfl
            · intro e
              have := List.filter_eq_nil_iff.mp e p.2 pS
              have nn : p.2 ∉ arndS ks es := fun q => by
                have := ((harnd p.2).mp q).2
                rw [hb] at this; cases this
              simp [nn] at this
      rw [key]
      cases hb : arndB ks es p.2 with
      | true => rw [hb] at hp; simp at hp ⊢; omega
      | false => rw [hb] at hp; simp at hp ⊢; omega
  rw [hlen, ← hcnt]
  push_cast
  rw [hinP]
  omega
theorem sideL {L : List Int} {j : Int} (h0 : 0 ≤ j) (h1 : j < (L.length : Int) + 1) : ∃ o : Option Int, atI (L.map Dv.int ++ [Dv.non]) j = some (encO o) ∧ ∀ i, o = some i → i ∈ L := by
  obtain ⟨k, rfl⟩ := Int.eq_ofNat_of_zero_le h0
  by_cases h : k < L.length
  · refine ⟨some L[k], at_nat ?_, fun i e => ?_⟩
    · rw [List.getElem?_append_left (by rw [List.length_map]; exact h), List.getElem?_map, List.getElem?_eq_getElem h]; rfl
    · cases e; exact List.getElem_mem h
  · refine ⟨none, at_nat ?_, (fun i e => nomatch e)⟩
    have e : k = (L.map Dv.int).length := by rw [List.length_map]; omega
    rw [List.getElem?_append_right (by omega), e, Nat.sub_self]; rfl
theorem sideR {L : List Int} {j : Int} (h0 : 0 ≤ j) (h1 : j < (L.length : Int) + 1) : ∃ o : Option Int, atI (Dv.non :: L.map Dv.int) j = some (encO o) ∧ ∀ i, o = some i → i ∈ L := by
  obtain ⟨k, rfl⟩ := Int.eq_ofNat_of_zero_le h0
  cases k with
  | zero => exact ⟨none, at_nat (k := 0) rfl, (fun i e => nomatch e)⟩
  | succ k =>
    have hk : k < L.length := by omega
    refine ⟨some L[k], at_nat ?_, fun i e => ?_⟩
    · rw [List.getElem?_cons_succ, List.getElem?_map, List.getElem?_eq_getElem hk]; rfl
    · cases e; exact List.getElem_mem hk
theorem setE_ok {ks : List (Str × Int)} {es : List (Str × Span)} {z : Str} {s : Span} (h : StOk ks es) (sp : spanOk ks (posOf ks z) s) : StOk ks (setE es z s) := by
  refine ⟨by rw [setE_keys]; exact h.pm, fun p hp => ?_⟩
  rcases setE_mem hp with e | hp
  · subst e; exact sp
  · exact h.ok p hp
theorem span_own {ks : List (Str × Int)} {n : Int} (h : n ∈ ks.map (·.2)) : spanOk ks n (some (some n, some n)) := ⟨fun i e => by cases e; exact ⟨h, Int.le_refl _⟩, fun i e => by cases e; exact ⟨h, Int.le_refl _⟩⟩
theorem span_all {ks : List (Str × Int)} {n : Int} : spanOk ks n (some (none, none)) := ⟨(fun i e => nomatch e), (fun i e => nomatch e)⟩
theorem innerPlan_len {ks : List (Str × Int)} {es : List (Str × Span)} (I : List Str) : (innerPlan ks es I).length ≤ 2 * I.length + 2 := by
  unfold innerPlan
  split
  · have : ∀ L : List Str, (L.flatMap (fteE ks es)).length ≤ 2 * L.length := fun L => by
      induction L with
      | nil => exact Nat.zero_le _
      | cons z L ih => rw [List.flatMap_cons, List.length_append, List.length_cons]; have := fteE_le ks es z; omega
    have := this I
    omega
  · rename_i p rest _
    rw [List.length_append, List.length_map]
    have := List.length_filter_le (fun z => !decide (z = p.2)) I
    have := fteE_le ks es p.2
    omega
theorem plan_len {ks : List (Str × Int)} {es : List (Str × Span)} (hk : LineOk ks) : (planE ks es).length ≤ 84 := by
  obtain ⟨_, l40⟩ := lack_nm (es := es) hk
  have h1 := innerPlan_len (ks := ks) (es := es) (innerE ks es)
  have h2 : (innerE ks es).length ≤ 40 := Nat.le_trans (List.length_filter_le _ _) l40
  unfold planE
  rw [List.length_append, List.length_append]
  split <;> split <;> simp <;> omega
end FD
/-! No frame brings a state nearer to a quiet one by more than one; the frames of the plan lead to a quiet one. -/
namespace FD
open PySem PySem.Spec PyProof.Rows L2 FL
theorem nd_inj : ∀ {l : List (Str × Int)}, (l.map (·.2)).Nodup → ∀ {x y : Str} {n : Int}, (x, n) ∈ l → (y, n) ∈ l → x = y
  | [], _, x, y, n, hx, _ => by cases hx
  | q :: l, nd, x, y, n, hx, hy => by
    have nd := List.nodup_cons.mp nd
    rcases List.mem_cons.mp hx with rfl | hx <;> rcases List.mem_cons.mp hy with e | hy
    · injection e with e1 e2; exact e1.symm
    · exact absurd (List.mem_map.mpr ⟨_, hy, rfl⟩) nd.1
    · rw [← e] at nd
      exact absurd (List.mem_map.mpr ⟨_, hx, rfl⟩) nd.1
    · exact nd_inj nd.2 hx hy
theorem pos_inj {ks : List (Str × Int)} (hk : LineOk ks) {x y : Str} (hx : x ∈ ks.map (·.1)) (hy : y ∈ ks.map (·.1)) (e : posOf ks x = posOf ks y) : x = y := by
  have m1 := posOf_in hx
  have m2 := posOf_in hy
  rw [e] at m1
  exact nd_inj hk.ndp m1 m2
theorem cnt_le {p q : Str → Bool} : ∀ {ns : List Str}, (∀ z ∈ ns, p z = true → q z = true) → (ns.filter p).length ≤ (ns.filter q).length
  | [], _ => Nat.le_refl _
  | z :: ns, h => by
    have ih := cnt_le (ns := ns) fun y hy => h y (List.mem_cons_of_mem _ hy)
    have h1 := h z List.mem_cons_self
    rw [List.filter_cons, List.filter_cons]
    cases e : p z with
    | true => rw [h1 e]; simp; omega
    | false => cases q z <;> simp <;> omega
theorem cnt_le1 {p q : Str → Bool} {S : Str} : ∀ {ns : List Str}, ns.Nodup → (∀ z ∈ ns, z ≠ S → p z = true → q z = true) → (ns.filter p).length ≤ (ns.filter q).length + 1
  | [], _, _ => Nat.zero_le _
  | z :: ns, nd, h => by
    have nd := List.nodup_cons.mp nd
    by_cases e : z = S
    · have h2 := cnt_le (p := p) (q := q) (ns := ns) fun y hy => h y (List.mem_cons_of_mem _ hy) (fun q => nd.1 (by rw [e, ← q]; exact hy))
      rw [List.filter_cons, List.filter_cons]
      cases p z <;> cases q z <;> simp <;> omega
    · have ih := cnt_le1 (p := p) (q := q) nd.2 fun y hy => h y (List.mem_cons_of_mem _ hy)
      have h1 := h z List.mem_cons_self e
      rw [List.filter_cons, List.filter_cons]
      cases e2 : p z with
      | true => rw [h1 e2]; simp; omega
      | false => cases q z <;> simp <;> omega
theorem lackE_cnt {ks : List (Str × Int)} {es : List (Str × Span)} (hk : LineOk ks) (h1 : ks.length ≠ 1) : (lackE ks es).length = ((ks.map (·.1)).filter fun z => !bothIn ks es z).length := by
  have l1 := hk.len1
  have := (lackS_perm (es := es) hk).length_eq
  rw [← this]
  unfold lackS
  rw [if_pos (by omega)]
  exact ((srt_perm leS _).filter _).length_eq
theorem arndS_cnt {ks : List (Str × Int)} {es : List (Str × Span)} : (arndS ks es).length = ((ks.map (·.1)).filter (arndB ks es)).length := ((srt_perm leS _).filter _).length_eq
/-- a host that both ends surround is not known everywhere after a frame to a host that is not silent -/
theorem no_both {s u : Span} {lo hi x t : Int} (hlo : lo < x) (hx : x < hi) (ht : lo ≤ t ∧ t ≤ hi) (own : s ≠ none → inSpan s x = true) (n1 : inSpan s lo = false) (n2 : inSpan s hi = false) (hu : u ≠ none) (d : t = lo ∨ t = hi → inSpan u x = true) : ¬ (inSpan (some (joinS s (reachS u x t))) lo = true ∧ inSpan (some (joinS s (reachS u x t))) hi = true) := by
  rcases u with _ | u
  · exact absurd rfl hu
  · unfold reachS
    by_cases q : inSpan (some u) x = true
    · simp only [if_pos q]
      rcases s with _ | ⟨_ | l, _ | h⟩ <;> simp [inSpan, lowOk, highOk, joinS, joinO] at own n1 n2 ⊢ <;> (try split) <;> (try split) <;> (try split) <;> omega
    · have nt : t ≠ lo ∧ t ≠ hi := ⟨fun e => q (d (.inl e)), fun e => q (d (.inr e))⟩
      simp only [if_neg q]
      by_cases r : x < t
      · simp only [if_pos r]
        rcases s with _ | ⟨_ | l, _ | h⟩ <;> simp [inSpan, lowOk, highOk, joinS, joinO] at own n1 n2 ⊢ <;> (try split) <;> (try split) <;> (try split) <;> omega
      · simp only [if_neg r]
        rcases s with _ | ⟨_ | l, _ | h⟩ <;> simp [inSpan, lowOk, highOk, joinS, joinO] at own n1 n2 ⊢ <;> (try split) <;> (try split) <;> (try split) <;> omega
theorem own_in {ks : List (Str × Int)} {b : Int} {s : Span} (h : spanOk ks b s) (hs : s ≠ none) : inSpan s b = true := by
  rcases s with _ | ⟨_ | l, _ | u⟩
  · exact absurd rfl hs
  · rfl
  · have := (h.2 u rfl).2; simp [inSpan, lowOk, highOk]; omega
  · have := (h.1 l rfl).2; simp [inSpan, lowOk, highOk]; omega
  · have := (h.2 u rfl).2; have := (h.1 l rfl).2; simp [inSpan, lowOk, highOk]; omega
theorem both_mono {ks : List (Str × Int)} {A B : List (Str × Span)} (h : SpLe ks A B) {z : Str} (hz : z ∈ ks.map (·.1)) (hb : bothIn ks A z = true) : bothIn ks B z = true := by
  unfold bothIn at hb ⊢
  rw [Bool.and_eq_true] at hb ⊢
  exact ⟨wi_in (h z hz) hb.1, wi_in (h z hz) hb.2⟩
theorem arndB_iff {ks : List (Str × Int)} {es : List (Str × Span)} {z : Str} : arndB ks es z = true ↔ z ≠ firstN ks ∧ z ≠ lastN ks ∧ inSpan (spOf es z) (endsL ks).1 = false ∧ inSpan (spOf es z) (endsL ks).2 = false ∧ inSpan (spOf es (firstN ks)) (posOf ks z) = true ∧ inSpan (spOf es (lastN ks)) (posOf ks z) = true := by
  unfold arndB wideB
  simp only [Bool.and_eq_true, Bool.not_eq_true', Bool.or_eq_false_iff, decide_eq_false_iff_not, and_assoc]
theorem silS_iff {ks : List (Str × Int)} {es : List (Str × Span)} {z : Str} : z ∈ silS ks es ↔ z ∈ ks.map (·.1) ∧ spOf es z = none := by
  unfold silS; rw [List.mem_filter, decide_eq_true_iff]
theorem arndS_iff {ks : List (Str × Int)} {es : List (Str × Span)} {z : Str} : z ∈ arndS ks es ↔ z ∈ ks.map (·.1) ∧ arndB ks es z = true := by
  unfold arndS; rw [List.mem_filter, (srt_perm leS _).mem_iff]
theorem further_nn (ks : List (Str × Int)) (es : List (Str × Span)) : 0 ≤ furtherE ks es := by
  unfold furtherE
  split
  · exact Int.le_refl _
  · split
    · exact Int.natCast_nonneg _
    · split <;> decide
/-- how far a state is from a quiet one -/
def farE (ks : List (Str × Int)) (es : List (Str × Span)) : Int := ((lackE ks es).length : Int) + furtherE ks es
theorem far_send {ks : List (Str × Int)} {es : List (Str × Span)} (hk : LineOk ks) (h : StOk ks es) {p : Str × Str} (h1 : p.1 ∈ ks.map (·.1)) (h2 : p.2 ∈ ks.map (·.1)) (hn : p.1 ≠ p.2) : farE ks es ≤ farE ks (sendE ks es p) + 1 := by
  obtain ⟨a, b, E⟩ := ends2 hk
  have hone : ks.length ≠ 1 := fun q => by
    have e := E.eq q
    subst e
    have i1 := E.le _ h1
    have i2 := E.le _ h2
    exact hn (pos_inj hk h1 h2 (by omega))
  have hlt := E.lt hone
  have ok' := sendE_ok hk h h1 h2
  have le : SpLe ks es (sendE ks es p) := SpLe.send hk h h1
  have oth : ∀ z ∈ ks.map (·.1), z ≠ p.1 → spOf (sendE ks es p) z = spOf es z := fun z hz e => by
    unfold sendE; rw [spOf_set hk h hz h1, if_neg e]
  have me : spOf (sendE ks es p) p.1 = some (joinS (spOf es p.1) (reachS (spOf es p.2) (posOf ks p.1) (posOf ks p.2))) := by
    unfold sendE; rw [spOf_set hk h h1 h1, if_pos rfl]
  have fm : firstN ks ∈ ks.map (·.1) := by rw [E.fn]; exact E.am
  have lm : lastN ks ∈ ks.map (·.1) := by rw [E.ln]; exact E.bm
  have fp : posOf ks (firstN ks) = a.1 := by rw [E.fn]; exact E.ap
  have lp : posOf ks (lastN ks) = b.1 := by rw [E.ln]; exact E.bp
  have nd : (ks.map (·.1)).Nodup := hk.ndn
  have cl := lackE_cnt (es := es) hk hone
  have cl' := lackE_cnt (es := sendE ks es p) hk hone
  have nonsil : ∀ z ∈ ks.map (·.1), spOf es z ≠ none → spOf (sendE ks es p) z ≠ none := fun z hz e q => by
    have := le z hz
    rw [q] at this
    cases w : spOf es z with
    | none => exact e w
    | some s => rw [w] at this; cases this
  -- the hosts that lack, but for the sender
  have lk1 : ∀ z ∈ ks.map (·.1), z ≠ p.1 → (!bothIn ks es z) = true → (!bothIn ks (sendE ks es p) z) = true := fun z hz e q => by
    unfold bothIn at q ⊢; rw [oth z hz e]; exact q
  have L1 := cnt_le1 (ns := ks.map (·.1)) nd lk1
  rw [← cl, ← cl'] at L1
  have ar1 : ∀ z ∈ ks.map (·.1), z ≠ p.1 → arndB ks es z = true → arndB ks (sendE ks es p) z = true := fun z hz e q => by
    obtain ⟨q1, q2, q3, q4, q5, q6⟩ := arndB_iff.mp q
    refine arndB_iff.mpr ⟨q1, q2, by rw [oth z hz e]; exact q3, by rw [oth z hz e]; exact q4, wi_in (le _ fm) q5, wi_in (le _ lm) q6⟩
  have A1 := cnt_le1 (ns := ks.map (·.1)) nd ar1
  rw [← arndS_cnt, ← arndS_cnt] at A1
  have nn' := further_nn ks (sendE ks es p)
  -- a surrounded sender lacks after a frame to a host that is not silent
  have stay : arndB ks es p.1 = true → spOf es p.2 ≠ none → bothIn ks (sendE ks es p) p.1 = false := fun q u => by
    obtain ⟨q1, q2, q3, q4, q5, q6⟩ := arndB_iff.mp q
    have i1 := E.le _ h1
    have i2 := E.le _ h2
    have x1 : a.1 < posOf ks p.1 := by
      rcases Int.lt_or_eq_of_le i1.1 with e | e
      · exact e
      · exact absurd (pos_inj hk h1 fm (by rw [fp, e])) q1
    have x2 : posOf ks p.1 < b.1 := by
      rcases Int.lt_or_eq_of_le i1.2 with e | e
      · exact e
      · exact absurd (pos_inj hk h1 lm (by rw [lp, e])) q2
    rw [E.ee] at q3 q4
    have nb := no_both (s := spOf es p.1) (u := spOf es p.2) x1 x2 i2 (own_in (h.ok _ (spOf_look hk h h1).2)) q3 q4 u (fun e => by
      rcases e with e | e
      · rw [pos_inj hk h2 fm (by rw [fp, e])]; exact q5
      · rw [pos_inj hk h2 lm (by rw [lp, e])]; exact q6)
    unfold bothIn
    rw [E.ee, me]
    cases c1 : inSpan (some (joinS (spOf es p.1) (reachS (spOf es p.2) (posOf ks p.1) (posOf ks p.2)))) a.1 with
    | false => rfl
    | true =>
      cases c2 : inSpan (some (joinS (spOf es p.1) (reachS (spOf es p.2) (posOf ks p.1) (posOf ks p.2)))) b.1 with
      | false => rfl
      | true => exact absurd ⟨c1, c2⟩ nb
  -- if the sender still lacks, as many lack
  have L0 : bothIn ks (sendE ks es p) p.1 = false → (lackE ks es).length ≤ (lackE ks (sendE ks es p)).length := fun q => by
    rw [cl, cl']
    refine cnt_le fun z hz e => ?_
    by_cases ez : z = p.1
    · subst ez; rw [q]; rfl
    · exact lk1 z hz ez e
  unfold farE
  by_cases hend : spOf es (firstN ks) = none ∨ spOf es (lastN ks) = none
  · have : furtherE ks es = 0 := if_pos hend
    omega
  · have hend' : ¬ (spOf (sendE ks es p) (firstN ks) = none ∨ spOf (sendE ks es p) (lastN ks) = none) := fun q => by
      rcases q with q | q
      · exact nonsil _ fm (fun e => hend (.inl e)) q
      · exact nonsil _ lm (fun e => hend (.inr e)) q
    by_cases hs : silS ks es = []
    · have e1 : furtherE ks es = ((arndS ks es).length : Int) := by unfold furtherE; rw [if_neg hend, if_pos hs]
      have hs' : silS ks (sendE ks es p) = [] := List.eq_nil_iff_forall_not_mem.mpr fun z hz => by
        obtain ⟨z1, z2⟩ := silS_iff.mp hz
        refine nonsil z z1 (fun e => ?_) z2
        have := silS_iff.mpr ⟨z1, e⟩
        rw [hs] at this; cases this
      have e2 : furtherE ks (sendE ks es p) = ((arndS ks (sendE ks es p)).length : Int) := by unfold furtherE; rw [if_neg hend', if_pos hs']
      have tn : spOf es p.2 ≠ none := fun e => by
        have := silS_iff.mpr ⟨h2, e⟩
        rw [hs] at this; cases this
      cases c : arndB ks es p.1 with
      | true =>
        have := L0 (stay c tn)
        omega
      | false =>
        have A0 : (arndS ks es).length ≤ (arndS ks (sendE ks es p)).length := by
          rw [arndS_cnt, arndS_cnt]
          refine cnt_le fun z hz e => ar1 z hz (fun q => ?_) e
          rw [q, c] at e; cases e
        omega
    · by_cases hf : (silS ks es).filter (fun z => !decide (z ∈ arndS ks es)) = []
      · have e1 : furtherE ks es = 1 := by unfold furtherE; rw [if_neg hend, if_neg hs, if_pos hf]
        have allA : ∀ z ∈ ks.map (·.1), spOf es z = none → arndB ks es z = true := fun z hz e => by
          have := List.filter_eq_nil_iff.mp hf z (silS_iff.mpr ⟨hz, e⟩)
          simp at this
          exact (arndS_iff.mp this).2
        cases c : bothIn ks (sendE ks es p) p.1 with
        | false => have := L0 c; omega
        | true =>
          -- a silent host that is not the sender
          have key : ∃ t ∈ ks.map (·.1), t ≠ p.1 ∧ spOf es t = none := by
            cases u : spOf es p.2 with
            | none => exact ⟨p.2, h2, fun e => hn e.symm, u⟩
            | some s =>
              obtain ⟨t, ht⟩ := List.exists_mem_of_ne_nil _ hs
              obtain ⟨t1, t2⟩ := silS_iff.mp ht
              refine ⟨t, t1, fun e => ?_, t2⟩
              rw [e] at t2
              have := stay (allA _ h1 t2) (by rw [u]; simp)
              rw [c] at this; cases this
          obtain ⟨t, t1, t2, t3⟩ := key
          have e2 : furtherE ks (sendE ks es p) = 1 := by
            unfold furtherE
            rw [if_neg hend', if_neg, if_pos]
            · refine List.filter_eq_nil_iff.mpr fun z hz => ?_
              obtain ⟨z1, z2⟩ := silS_iff.mp hz
              have zn : z ≠ p.1 := fun e => by rw [e, me] at z2; cases z2
              rw [oth z z1 zn] at z2
              have := arndS_iff.mpr ⟨z1, ar1 z z1 zn (allA z z1 z2)⟩
              simp [this]
            · intro e
              have : t ∈ silS ks (sendE ks es p) := silS_iff.mpr ⟨t1, by rw [oth t t1 t2]; exact t3⟩
              rw [e] at this; cases this
          omega
      · have : furtherE ks es = 0 := by unfold furtherE; rw [if_neg hend, if_neg hs, if_neg hf]
        omega
theorem runE_app {ks : List (Str × Int)} : ∀ {fs gs : List (Str × Str)} {es : List (Str × Span)}, runE ks es (fs ++ gs) = runE ks (runE ks es fs) gs
  | [], _, _ => rfl
  | q :: fs, gs, es => runE_app (fs := fs) (gs := gs) (es := sendE ks es q)
/-- the interval of a host that does not send stays -/
theorem run_other {ks : List (Str × Int)} (hk : LineOk ks) {z : Str} (hz : z ∈ ks.map (·.1)) : ∀ {fs : List (Str × Str)} {A : List (Str × Span)}, StOk ks A → FrIn ks fs → (∀ p ∈ fs, p.1 ≠ z) → spOf (runE ks A fs) z = spOf A z
  | [], _, _, _, _ => rfl
  | q :: fs, A, ha, hf, hn => by
    obtain ⟨h1, h2, _⟩ := hf q List.mem_cons_self
    have := run_other hk hz (fs := fs) (sendE_ok hk ha h1 h2) (fun p hp => hf p (List.mem_cons_of_mem _ hp)) fun p hp => hn p (List.mem_cons_of_mem _ hp)
    show spOf (runE ks (sendE ks A q) fs) z = _
    rw [this]
    unfold sendE
    rw [spOf_set hk ha hz h1, if_neg (fun e => hn q List.mem_cons_self e.symm)]
theorem send_me {ks : List (Str × Int)} {A : List (Str × Span)} (hk : LineOk ks) (ha : StOk ks A) {z t : Str} (hz : z ∈ ks.map (·.1)) : spOf (sendE ks A (z, t)) z = some (joinS (spOf A z) (reachS (spOf A t) (posOf ks z) (posOf ks t))) := by
  unfold sendE; rw [spOf_set hk ha hz hz, if_pos rfl]
theorem send_in {ks : List (Str × Int)} {A : List (Str × Span)} (hk : LineOk ks) (ha : StOk ks A) {z t : Str} (hz : z ∈ ks.map (·.1)) : inSpan (spOf (sendE ks A (z, t)) z) (posOf ks z) = true ∧ inSpan (spOf (sendE ks A (z, t)) z) (posOf ks t) = true := by
  rw [send_me hk ha hz]
  have := in_reach (spOf A t) (posOf ks z) (posOf ks t)
  exact ⟨wi_in (wi_join_r _ _) this.1, wi_in (wi_join_r _ _) this.2⟩
/-- a frame to an end that does not know the sender reaches both ends -/
theorem send_end {ks : List (Str × Int)} {A : List (Str × Span)} (hk : LineOk ks) (ha : StOk ks A) {z t : Str} (hz : z ∈ ks.map (·.1)) {lo hi : Int} (hl : lo ≤ posOf ks z ∧ posOf ks z ≤ hi) (hn : inSpan (spOf A t) (posOf ks z) = false) (ht : posOf ks t = lo ∨ posOf ks t = hi) (hx : posOf ks z ≠ posOf ks t) : inSpan (spOf (sendE ks A (z, t)) z) lo = true ∧ inSpan (spOf (sendE ks A (z, t)) z) hi = true := by
  rw [send_me hk ha hz]
  have key : inSpan (some (reachS (spOf A t) (posOf ks z) (posOf ks t))) lo = true ∧ inSpan (some (reachS (spOf A t) (posOf ks z) (posOf ks t))) hi = true := by
    cases c : spOf A t with
    | none => exact ⟨rfl, rfl⟩
    | some u =>
      rw [c] at hn
      unfold reachS
      simp only [hn, Bool.false_eq_true, if_false]
      by_cases r : posOf ks z < posOf ks t
      · simp only [if_pos r]
        rcases ht with e | e <;> simp [inSpan, lowOk, highOk] <;> omega
      · simp only [if_neg r]
        rcases ht with e | e <;> simp [inSpan, lowOk, highOk] <;> omega
  exact ⟨wi_in (wi_join_r _ _) key.1, wi_in (wi_join_r _ _) key.2⟩
theorem fteE_from {ks : List (Str × Int)} {es : List (Str × Span)} {z : Str} {p : Str × Str} (hp : p ∈ fteE ks es z) : p.1 = z ∧ (p.2 = firstN ks ∨ p.2 = lastN ks) := by
  unfold fteE at hp
  split at hp
  · rw [List.mem_singleton.mp hp]; exact ⟨rfl, .inr rfl⟩
  · split at hp
    · rw [List.mem_singleton.mp hp]; exact ⟨rfl, .inl rfl⟩
    · split at hp
      · rw [List.mem_singleton.mp hp]; exact ⟨rfl, .inl rfl⟩
      · split at hp
        · rw [List.mem_singleton.mp hp]; exact ⟨rfl, .inr rfl⟩
        · rcases List.mem_cons.mp hp with e | hp
          · rw [e]; exact ⟨rfl, .inl rfl⟩
          · rw [List.mem_singleton.mp hp]; exact ⟨rfl, .inr rfl⟩
theorem ends_in {ks : List (Str × Int)} (hk : LineOk ks) : firstN ks ∈ ks.map (·.1) ∧ lastN ks ∈ ks.map (·.1) ∧ posOf ks (firstN ks) = (endsL ks).1 ∧ posOf ks (lastN ks) = (endsL ks).2 ∧ (∀ z ∈ ks.map (·.1), (endsL ks).1 ≤ posOf ks z ∧ posOf ks z ≤ (endsL ks).2) ∧ (ks.length ≠ 1 → firstN ks ≠ lastN ks) := by
  obtain ⟨a, b, E⟩ := ends2 hk
  rw [E.ee, E.fn, E.ln]
  refine ⟨E.am, E.bm, E.ap, E.bp, E.le, fun h e => ?_⟩
  have := E.lt h
  have h2 := E.ap
  have h3 := E.bp
  rw [e] at h2
  omega
theorem fteE_in {ks : List (Str × Int)} {es : List (Str × Span)} (hk : LineOk ks) {z : Str} (hz : z ∈ ks.map (·.1)) (n1 : z ≠ firstN ks) (n2 : z ≠ lastN ks) : FrIn ks (fteE ks es z) := fun p hp => by
  obtain ⟨e1, e2⟩ := fteE_from hp
  obtain ⟨f1, f2, _⟩ := ends_in hk
  rw [e1]
  rcases e2 with e2 | e2 <;> rw [e2]
  · exact ⟨hz, f1, n1⟩
  · exact ⟨hz, f2, n2⟩
theorem fte_both {ks : List (Str × Int)} {es A : List (Str × Span)} (hk : LineOk ks) (ha : StOk ks A) {z : Str} (hz : z ∈ ks.map (·.1)) (n1 : z ≠ firstN ks) (n2 : z ≠ lastN ks) (ez : spOf A z = spOf es z) (ef : spOf A (firstN ks) = spOf es (firstN ks)) (el : spOf A (lastN ks) = spOf es (lastN ks)) : bothIn ks (runE ks A (fteE ks es z)) z = true := by
  obtain ⟨f1, f2, p1, p2, hle, _⟩ := ends_in hk
  have x1 : posOf ks z ≠ posOf ks (firstN ks) := fun e => n1 (pos_inj hk hz f1 e)
  have x2 : posOf ks z ≠ posOf ks (lastN ks) := fun e => n2 (pos_inj hk hz f2 e)
  have big : ∀ t, wi (spOf A z) (spOf (sendE ks A (z, t)) z) = true := fun t => SpLe.send hk ha (p := (z, t)) hz z hz
  unfold fteE bothIn
  split
  · rename_i c
    rw [← ez] at c
    show (inSpan (spOf (sendE ks A (z, lastN ks)) z) _ && inSpan (spOf (sendE ks A (z, lastN ks)) z) _) = true
    rw [Bool.and_eq_true]
    refine ⟨wi_in (big _) c, ?_⟩
    rw [← p2]; exact (send_in hk ha hz).2
  · split
    · rename_i c
      rw [← ez] at c
      show (inSpan (spOf (sendE ks A (z, firstN ks)) z) _ && inSpan (spOf (sendE ks A (z, firstN ks)) z) _) = true
      rw [Bool.and_eq_true]
      refine ⟨?_, wi_in (big _) c⟩
      rw [← p1]; exact (send_in hk ha hz).2
    · split
      · rename_i c
        rw [← ef, Bool.not_eq_true'] at c
        show (inSpan (spOf (sendE ks A (z, firstN ks)) z) _ && inSpan (spOf (sendE ks A (z, firstN ks)) z) _) = true
        rw [Bool.and_eq_true]
        exact send_end hk ha hz (hle z hz) c (.inl p1) x1
      · split
        · rename_i c
          rw [← el, Bool.not_eq_true'] at c
          show (inSpan (spOf (sendE ks A (z, lastN ks)) z) _ && inSpan (spOf (sendE ks A (z, lastN ks)) z) _) = true
          rw [Bool.and_eq_true]
          exact send_end hk ha hz (hle z hz) c (.inr p2) x2
        · show (inSpan (spOf (sendE ks (sendE ks A (z, firstN ks)) (z, lastN ks)) z) _ && inSpan (spOf (sendE ks (sendE ks A (z, firstN ks)) (z, lastN ks)) z) _) = true
          have ok1 := sendE_ok hk ha (p := (z, firstN ks)) hz f1
          rw [Bool.and_eq_true]
          constructor
          · rw [← p1]; exact wi_in (SpLe.send hk ok1 (p := (z, lastN ks)) hz z hz) (send_in hk ha hz).2
          · rw [← p2]; exact (send_in hk ok1 hz).2
/-- each host between the ends sends its own frames -/
theorem flat_both {ks : List (Str × Int)} {es : List (Str × Span)} (hk : LineOk ks) : ∀ {I : List Str} {A : List (Str × Span)}, I.Nodup → (∀ z ∈ I, z ∈ ks.map (·.1) ∧ z ≠ firstN ks ∧ z ≠ lastN ks) → StOk ks A → (∀ z ∈ I, spOf A z = spOf es z) → spOf A (firstN ks) = spOf es (firstN ks) → spOf A (lastN ks) = spOf es (lastN ks) → FrIn ks (I.flatMap (fteE ks es)) ∧ ∀ z ∈ I, bothIn ks (runE ks A (I.flatMap (fteE ks es))) z = true
  | [], _, _, _, _, _, _, _ => ⟨(fun p hp => by cases hp), fun z hz => by cases hz⟩
  | y :: I, A, nd, hI, ha, e1, e2, e3 => by
    obtain ⟨f1, f2, _⟩ := ends_in hk
    have nd := List.nodup_cons.mp nd
    obtain ⟨y1, y2, y3⟩ := hI y List.mem_cons_self
    have fi := fteE_in (es := es) hk y1 y2 y3
    have okB := runE_ok hk ha fi
    have b0 := fte_both hk ha y1 y2 y3 (e1 y List.mem_cons_self) e2 e3
    have oth : ∀ z ∈ ks.map (·.1), z ≠ y → spOf (runE ks A (fteE ks es y)) z = spOf A z := fun z hz n => run_other hk hz ha fi fun p hp e => n (by rw [← e, (fteE_from hp).1])
    have ih := flat_both (es := es) hk (I := I) (A := runE ks A (fteE ks es y)) nd.2 (fun z hz => hI z (List.mem_cons_of_mem _ hz)) okB (fun z hz => by
      rw [oth z (hI z (List.mem_cons_of_mem _ hz)).1 (fun e => nd.1 (e ▸ hz))]; exact e1 z (List.mem_cons_of_mem _ hz)) (by rw [oth _ f1 (Ne.symm y2)]; exact e2) (by rw [oth _ f2 (Ne.symm y3)]; exact e3)
    rw [List.flatMap_cons]
    refine ⟨fun p hp => (List.mem_append.mp hp).elim (fi p) (ih.1 p), fun z hz => ?_⟩
    rw [runE_app]
    rcases List.mem_cons.mp hz with e | hz
    · rw [e]; exact both_mono (SpLe.run hk okB ih.1) y1 b0
    · exact ih.2 z hz
/-- each host sends to a silent one -/
theorem mute_both {ks : List (Str × Int)} (hk : LineOk ks) {m : Str} (hm : m ∈ ks.map (·.1)) : ∀ {J : List Str} {A : List (Str × Span)}, (∀ z ∈ J, z ∈ ks.map (·.1) ∧ z ≠ m) → StOk ks A → spOf A m = none → FrIn ks (J.map fun z => (z, m)) ∧ ∀ z ∈ J, bothIn ks (runE ks A (J.map fun z => (z, m))) z = true
  | [], _, _, _, _ => ⟨(fun p hp => by cases hp), fun z hz => by cases hz⟩
  | y :: J, A, hJ, ha, e => by
    obtain ⟨y1, y2⟩ := hJ y List.mem_cons_self
    have okB := sendE_ok hk ha (p := (y, m)) y1 hm
    have b0 : bothIn ks (sendE ks A (y, m)) y = true := by
      unfold bothIn
      rw [send_me hk ha y1, e]
      have : ∀ i, inSpan (some (joinS (spOf A y) (reachS none (posOf ks y) (posOf ks m)))) i = true := fun i => wi_in (wi_join_r _ _) (show inSpan (some (none, none)) i = true from rfl)
      rw [this, this]; rfl
    have em : spOf (sendE ks A (y, m)) m = none := by
      unfold sendE; rw [spOf_set hk ha hm y1, if_neg (fun q => y2 q.symm)]; exact e
    have ih := mute_both hk hm (J := J) (fun z hz => hJ z (List.mem_cons_of_mem _ hz)) okB em
    rw [List.map_cons]
    refine ⟨fun p hp => ?_, fun z hz => ?_⟩
    · rcases List.mem_cons.mp hp with e | hp
      · rw [e]; exact ⟨y1, hm, y2⟩
      · exact ih.1 p hp
    · show bothIn ks (runE ks (sendE ks A (y, m)) (J.map fun z => (z, m))) z = true
      rcases List.mem_cons.mp hz with e | hz
      · rw [e]; exact both_mono (SpLe.run hk okB ih.1) y1 b0
      · exact ih.2 z hz
theorem inner_both {ks : List (Str × Int)} {es A : List (Str × Span)} (hk : LineOk ks) {I : List Str} (nd : I.Nodup) (hI : ∀ z ∈ I, z ∈ ks.map (·.1) ∧ z ≠ firstN ks ∧ z ≠ lastN ks) (ha : StOk ks A) (e1 : ∀ z ∈ I, spOf A z = spOf es z) (e2 : spOf A (firstN ks) = spOf es (firstN ks)) (e3 : spOf A (lastN ks) = spOf es (lastN ks)) : FrIn ks (innerPlan ks es I) ∧ ∀ z ∈ I, bothIn ks (runE ks A (innerPlan ks es I)) z = true := by
  obtain ⟨f1, f2, _⟩ := ends_in hk
  unfold innerPlan
  cases hS : silR ks es I with
  | nil => exact flat_both hk nd hI ha e1 e2 e3
  | cons p rest =>
    simp only
    obtain ⟨pI, ps, pl⟩ := silR_mem (ks := ks) (es := es) (I := I) (p := p) (by rw [hS]; exact List.mem_cons_self)
    obtain ⟨m1, m2, m3⟩ := hI _ pI
    have hJ : ∀ z ∈ I.filter (fun z => !decide (z = p.2)), z ∈ ks.map (·.1) ∧ z ≠ p.2 := fun z hz => by
      obtain ⟨h1, h2⟩ := List.mem_filter.mp hz
      exact ⟨(hI z h1).1, by simpa using h2⟩
    obtain ⟨i1, b1⟩ := mute_both hk m1 hJ ha (by rw [e1 _ pI]; exact ps)
    have fi := fteE_in (es := es) hk m1 m2 m3
    have okB := runE_ok hk ha i1
    have oth : ∀ z ∈ ks.map (·.1), z ∉ I.filter (fun z => !decide (z = p.2)) → spOf (runE ks A ((I.filter fun z => !decide (z = p.2)).map fun z => (z, p.2))) z = spOf A z := fun z hz n => run_other hk hz ha i1 fun q hq e => by
      obtain ⟨y, hy, rfl⟩ := List.mem_map.mp hq
      exact n (by rw [← e]; exact hy)
    have nf : ∀ y, (∀ z ∈ I, z ≠ y) → y ∉ I.filter (fun z => !decide (z = p.2)) := fun y h q => h y (List.mem_filter.mp q).1 rfl
    have b2 := fte_both (es := es) hk okB m1 m2 m3 (by rw [oth _ m1 (fun q => by simpa using (List.mem_filter.mp q).2)]; exact e1 _ pI) (by rw [oth _ f1 (nf _ fun z hz => (hI z hz).2.1)]; exact e2) (by rw [oth _ f2 (nf _ fun z hz => (hI z hz).2.2)]; exact e3)
    refine ⟨fun q hq => (List.mem_append.mp hq).elim (i1 q) (fi q), fun z hz => ?_⟩
    rw [runE_app]
    by_cases ez : z = p.2
    · rw [ez]; exact b2
    · exact both_mono (SpLe.run hk okB fi) (hI z hz).1 (b1 z (List.mem_filter.mpr ⟨hz, by simp [ez]⟩))
theorem end_both {ks : List (Str × Int)} {A : List (Str × Span)} (hk : LineOk ks) (ha : StOk ks A) : bothIn ks (sendE ks A (firstN ks, lastN ks)) (firstN ks) = true ∧ bothIn ks (sendE ks A (lastN ks, firstN ks)) (lastN ks) = true := by
  obtain ⟨f1, f2, p1, p2, _⟩ := ends_in hk
  unfold bothIn
  have h1 := send_in hk ha (t := lastN ks) f1
  have h2 := send_in hk ha (t := firstN ks) f2
  rw [← p1, ← p2, h1.1, h1.2, h2.1, h2.2]
  exact ⟨rfl, rfl⟩
theorem plan_in {ks : List (Str × Int)} {es : List (Str × Span)} (hk : LineOk ks) (h : StOk ks es) : FrIn ks (planE ks es) ∧ lackE ks (runE ks es (planE ks es)) = [] := by
  by_cases hone : ks.length = 1
  · have e : ∀ A, lackE ks A = [] := fun A => by unfold lackE; rw [if_pos hone]
    refine ⟨fun p hp => ?_, e _⟩
    have : planE ks es = [] := by
      unfold planE innerPlan silR innerE
      rw [e es]; rfl
    rw [this] at hp; cases hp
  · obtain ⟨f1, f2, p1, p2, hle, hne⟩ := ends_in hk
    have hne := hne hone
    have hI : ∀ z ∈ innerE ks es, z ∈ ks.map (·.1) ∧ z ≠ firstN ks ∧ z ≠ lastN ks := fun z hz => by
      obtain ⟨h1, h2, h3, _⟩ := innerE_mem hk hz
      exact ⟨h1, h2, h3⟩
    obtain ⟨i1, b1⟩ := inner_both (es := es) hk (innerE_nd hk) hI h (fun _ _ => rfl) rfl rfl
    have ok1 := runE_ok hk h i1
    -- the first host
    have i2 : FrIn ks (if firstN ks ∈ lackE ks es then [(firstN ks, lastN ks)] else []) := fun p hp => by
      split at hp
      · rw [List.mem_singleton.mp hp]; exact ⟨f1, f2, hne⟩
      · cases hp
    have ok2 := runE_ok hk ok1 i2
    have i3 : FrIn ks (if lastN ks ∈ lackE ks es then [(lastN ks, firstN ks)] else []) := fun p hp => by
      split at hp
      · rw [List.mem_singleton.mp hp]; exact ⟨f2, f1, Ne.symm hne⟩
      · cases hp
    have ok3 := runE_ok hk ok2 i3
    have iall : FrIn ks (planE ks es) := fun p hp => by
      unfold planE at hp
      rcases List.mem_append.mp hp with hp | hp
      · rcases List.mem_append.mp hp with hp | hp
        · exact i1 p hp
        · exact i2 p hp
      · exact i3 p hp
    refine ⟨iall, ?_⟩
    have le0 := SpLe.run hk h iall
    have okp := runE_ok hk h iall
    have both : ∀ z ∈ ks.map (·.1), bothIn ks (runE ks es (planE ks es)) z = true := fun z hz => by
      by_cases hl : z ∈ lackE ks es
      · unfold planE
        rw [runE_app, runE_app]
        by_cases ef : z = firstN ks
        · subst ef
          refine both_mono (SpLe.run hk ok2 i3) hz ?_
          rw [if_pos hl]
          exact (end_both hk ok1).1
        · by_cases el : z = lastN ks
          · subst el
            rw [if_pos hl]
            exact (end_both hk ok2).2
          · have hi : z ∈ innerE ks es := by
              unfold innerE
              exact List.mem_filter.mpr ⟨hl, by simp [ef, el]⟩
            exact both_mono (SpLe.run hk ok2 i3) hz (both_mono (SpLe.run hk ok1 i2) hz (b1 z hi))
      · refine both_mono le0 hz ?_
        cases c : bothIn ks es z with
        | true => rfl
        | false => exact absurd ((lack_iff hk hz).mpr ⟨hone, c⟩) hl
    refine List.eq_nil_iff_forall_not_mem.mpr fun z hz => ?_
    have hz1 : z ∈ ks.map (·.1) := by
      unfold lackE at hz
      rw [if_neg hone] at hz
      obtain ⟨p, hp, rfl⟩ := List.mem_map.mp (List.mem_filter.mp hz).1
      exact (rk_host hk hp).1
    have := ((lack_iff hk hz1).mp hz).2
    rw [both z hz1] at this; cases this
theorem far_plan {ks : List (Str × Int)} {es : List (Str × Span)} (hk : LineOk ks) : ((planE ks es).length : Int) = farE ks es := plan_count hk
theorem far_run {ks : List (Str × Int)} (hk : LineOk ks) : ∀ {fs : List (Str × Str)} {es : List (Str × Span)}, StOk ks es → FrIn ks fs → farE ks es ≤ farE ks (runE ks es fs) + (fs.length : Int)
  | [], es, _, _ => by show farE ks es ≤ farE ks es + 0; omega
  | q :: fs, es, h, hf => by
    obtain ⟨h1, h2, h3⟩ := hf q List.mem_cons_self
    have a := far_send hk h h1 h2 h3
    have b := far_run hk (fs := fs) (sendE_ok hk h h1 h2) fun p hp => hf p (List.mem_cons_of_mem _ hp)
    show farE ks es ≤ farE ks (runE ks (sendE ks es q) fs) + ((fs.length + 1 : Nat) : Int)
    push_cast
    omega
theorem arnd_lack {ks : List (Str × Int)} {es : List (Str × Span)} (hk : LineOk ks) {z : Str} (h : z ∈ arndS ks es) : z ∈ lackE ks es := by
  obtain ⟨h1, h2⟩ := arndS_iff.mp h
  obtain ⟨q1, q2, q3, q4, _⟩ := arndB_iff.mp h2
  obtain ⟨a, b, E⟩ := ends2 hk
  refine (lack_iff hk h1).mpr ⟨fun q => ?_, by unfold bothIn; rw [q3]; rfl⟩
  have e := E.eq q
  subst e
  have i1 := E.le _ h1
  exact q1 (by rw [E.fn]; exact pos_inj hk h1 E.am (by rw [E.ap]; omega))
/-- a state is quiet exactly if it is not far from a quiet one -/
theorem quiet_far {ks : List (Str × Int)} {es : List (Str × Span)} (hk : LineOk ks) : lackE ks es = [] ↔ farE ks es = 0 := by
  have nn := further_nn ks es
  unfold farE
  constructor
  · intro h
    rw [h]
    have ha : arndS ks es = [] := List.eq_nil_iff_forall_not_mem.mpr fun z hz => by
      have := arnd_lack hk hz
      rw [h] at this; cases this
    unfold furtherE
    by_cases hend : spOf es (firstN ks) = none ∨ spOf es (lastN ks) = none
    · rw [if_pos hend]; rfl
    · rw [if_neg hend]
      by_cases hs : silS ks es = []
      · rw [if_pos hs, ha]; rfl
      · rw [if_neg hs, ha, if_neg]
        · rfl
        · intro e
          obtain ⟨z, hz⟩ := List.exists_mem_of_ne_nil _ hs
          have := List.filter_eq_nil_iff.mp e z hz
          simp at this
  · intro h
    exact List.length_eq_zero_iff.mp (by omega)
/-- the least number of frames after which a state is quiet is the number of the plan's frames -/
theorem least_plan {ks : List (Str × Int)} {es : List (Str × Span)} (hk : LineOk ks) (h : StOk ks es) {fs : List (Str × Str)} (hf : FrIn ks fs) (hq : lackE ks (runE ks es fs) = []) : (planE ks es).length ≤ fs.length := by
  have a := far_run hk h hf
  have b := far_plan (es := es) hk
  have c := (quiet_far hk).mp hq
  omega
end FD
/-! list(range(a, b)). -/
namespace FD
open PySem PySem.Spec PyProof.Rows L2 FL
section
variable {K : PySem.W.Frag}
def oLstR2 (fa fb : Env → Option (Rv × Env)) (δ : Env) : Option (Dv × Env) := match got fa δ with
  | some (.int i, δ1) => match got fb δ1 with
    | some (.int j, δ2) => if j ≤ 1000000 ∧ -1000000 ≤ j ∧ i ≤ 1000000 ∧ -1000000 ≤ i then some (.lst (rngD i (j - i).toNat), δ2) else none
    | _ => none
  | _ => none
theorem dda_map {α : Type} {F : Hp} {f : α → V} {g : α → Dv} (h : ∀ x, Dd K F (f x) (g x)) : ∀ l : List α, DdA K F (l.map f) (l.map g)
  | [] => .nil
  | x :: l => .cons (h x) (dda_map h l)
theorem do_listRg2 {ta tb : TE} {fa fb : Env → Option (Rv × Env)} (ha : DE K ta fa) (hb : DE K tb fb) : DEO K (tLstRg (tRg2 ta tb)) (oLstR2 fa fb) := by
  intro α σ H F L R δ δ' d Q D S e q
  unfold oLstR2 at e
  split at e
  · rename_i i δ1 e1
    split at e
    · rename_i j δ2 e2
      split at e
      · rename_i hij
        cases e
        refine ha.rd D S e1 fun v H1 F1 L1 s1 D1 S1 r1 => ?_
        refine hb.rd D1 S1 e2 fun u H2 F2 L2 s2 D2 S2 r2 => ?_
        refine ⟨i, j, r1.int, r2.int, ⟨by omega, by omega, by omega, by omega, by omega⟩, fun p np => q p _ _ F2 L2 (s1.trans s2) (D2.new np) S2 (.lst ?_)⟩
        exact dda_map (fun n => .int _) _
      · cases e
    · cases e
  · cases e
end
end FD
/-! Frames passed on from switch to switch. -/
namespace FD
open PySem PySem.Spec PyProof.Rows L2 FL
theorem inF_ints (z : Int) (L : List Int) : oInF (.int z) (.lst (L.map Dv.int)) = some (.bl (decide (z ∈ L))) := by
  unfold oInF inBF
  simp only [flatD, flat_ints, Bool.and_self, if_true]
  refine congrArg (fun b => some (Dv.bl b)) ?_
  rw [Bool.eq_iff_iff, List.any_eq_true, decide_eq_true_iff]
  constructor
  · rintro ⟨d, hd, e⟩
    obtain ⟨y, hy, rfl⟩ := List.mem_map.mp hd
    have : y = z := by simpa [eqF] using e
    rw [← this]; exact hy
  · intro hz
    exact ⟨.int z, List.mem_map.mpr ⟨z, hz, rfl⟩, by simp [eqF]⟩
theorem notInF_ints (z : Int) (L : List Int) : oNotInF (.int z) (.lst (L.map Dv.int)) = some (.bl (!decide (z ∈ L))) := by
  have h := inF_ints z L
  unfold oInF at h
  unfold oNotInF
  split at h
  · rename_i c e
    injection h with h
    injection h with h
    rw [h]
  · cases h
theorem eq_intsN (ns : List Int) : oEqX (.lst (ns.map Dv.int)) (.lst []) = some (.bl ns.isEmpty) := by
  have h := ne_ints ns
  unfold oNeX at h
  unfold oEqX
  split at h
  · rename_i b e
    injection h with h
    injection h with h
    have : b = ns.isEmpty := by revert h; cases b <;> cases ns.isEmpty <;> simp
    rw [this]
  · cases h
def encW (p : Int × Int) : Dv := .tup [.int p.1, .int p.2]
/-- one step from the switch x, where the frame came by c -/
def goStep (win : List Int) (x c : Int) (FW : List Int × List (Int × Int)) (t : Int) : List Int × List (Int × Int) :=
  if t ≠ 0 - c ∧ x + t ∈ win ∧ x + t ∉ FW.1 then (FW.1 ++ [x + t], FW.2 ++ [(x + t, t)]) else FW
/-- the steps that a switch takes -/
def stepsOf (N : List Int) (g x : Int) : List Int := if x ∈ N then (if x = g then [] else [if g > x then 1 else -1]) else [-1, 1]
/-- what is found and what waits, k turns before the end -/
def Flood (ra rb s : Int) (k : Nat) (F : List Int) (W : List (Int × Int)) : Prop := ∃ a b : Int, F.Nodup ∧ (∀ j, j ∈ F ↔ a ≤ j ∧ j ≤ b) ∧ F.length = (b - a + 1).toNat ∧ ra ≤ a ∧ a ≤ s ∧ s ≤ b ∧ b ≤ rb ∧ k = W.length + (a - ra).toNat + (rb - b).toNat ∧
  ((W = [(s, 0)] ∧ a = s ∧ b = s) ∨ ∃ L R, W = L ++ R ∧ ((L = [] ∧ a = ra) ∨ (L = [(a, -1)] ∧ a < s)) ∧ ((R = [] ∧ b = rb) ∨ (R = [(b, 1)] ∧ s < b)))
theorem flood_end {ra rb s : Int} {F : List Int} {W : List (Int × Int)} (h : Flood ra rb s 0 F W) : W = [] ∧ F.Nodup ∧ ∀ j, j ∈ F ↔ ra ≤ j ∧ j ≤ rb := by
  obtain ⟨a, b, nd, hm, hl, h1, h2, h3, h4, hk, _⟩ := h
  have : W.length = 0 := by omega
  have ea : a = ra := by omega
  have eb : b = rb := by omega
  subst ea; subst eb
  exact ⟨List.length_eq_zero_iff.mp this, nd, hm⟩
theorem nd_snoc {F : List Int} {x : Int} (nd : F.Nodup) (h : x ∉ F) : (F ++ [x]).Nodup := by
  rw [List.nodup_append]
  refine ⟨nd, by simp, fun a ha b hb e => h ?_⟩
  rw [← List.mem_singleton.mp hb, ← e]; exact ha
/-- one turn -/
theorem flood_step {win N : List Int} {ra rb s g : Int} {k : Nat} {F : List Int} {W : List (Int × Int)} (h : Flood ra rb s (k + 1) F W)
    (HR : ∀ b, s ≤ b → b ≤ rb → ((b + 1 ∈ win ∧ (b ∉ N ∨ g > b)) ↔ b + 1 ≤ rb)) (HL : ∀ a, ra ≤ a → a ≤ s → ((a - 1 ∈ win ∧ (a ∉ N ∨ g < a)) ↔ ra ≤ a - 1)) :
    ∃ W0 x c, W = W0 ++ [(x, c)] ∧ Flood ra rb s k ((stepsOf N g x).foldl (goStep win x c) (F, W0)).1 ((stepsOf N g x).foldl (goStep win x c) (F, W0)).2 := by
  obtain ⟨a, b, nd, hm, hl, h1, h2, h3, h4, hk, hW⟩ := h
  have fold : ∀ x c W0, (c = 0 ∨ c = 1 ∨ c = -1) → (stepsOf N g x).foldl (goStep win x c) (F, W0) =
      (let A := if c ≠ 1 ∧ (x - 1 ∈ win ∧ (x ∉ N ∨ g < x)) ∧ x - 1 ∉ F then (F ++ [x - 1], W0 ++ [(x - 1, (-1 : Int))]) else (F, W0)
       if c ≠ -1 ∧ (x + 1 ∈ win ∧ (x ∉ N ∨ g > x)) ∧ x + 1 ∉ F then (A.1 ++ [x + 1], A.2 ++ [(x + 1, (1 : Int))]) else A) := by
    intro x c W0 hc
    have e1 : x + -1 = x - 1 := rfl
    have n1 : ((-1 : Int) ≠ 0 - c) ↔ c ≠ 1 := by omega
    have n2 : ((1 : Int) ≠ 0 - c) ↔ c ≠ -1 := by omega
    have nf : ∀ y : Int, x + 1 ∉ F ++ [x - 1] ↔ x + 1 ∉ F := fun y => by
      rw [List.mem_append, List.mem_singleton]
      have : ¬ (x + 1 = x - 1) := by omega
      simp [this]
    unfold stepsOf
    by_cases hx : x ∈ N
    · rw [if_pos hx]
      by_cases hg : x = g
      · have q1 : ¬ g < x := by omega
        have q2 : ¬ g > x := by omega
        subst hg
        simp [hx]
      · rw [if_neg hg]
        by_cases hgx : g > x
        · have q1 : ¬ g < x := by omega
          simp only [if_pos hgx, List.foldl_cons, List.foldl_nil, goStep, n2]
          simp [hx, q1, hgx]
        · have q1 : g < x := by omega
          simp only [if_neg hgx, List.foldl_cons, List.foldl_nil, goStep, n1, e1]
          simp [hx, q1, hgx]
    · rw [if_neg hx]
      simp only [List.foldl_cons, List.foldl_nil, goStep, n1, n2, e1]
      by_cases p : c ≠ 1 ∧ x - 1 ∈ win ∧ x - 1 ∉ F
      · have p' : c ≠ 1 ∧ (x - 1 ∈ win ∧ (x ∉ N ∨ g < x)) ∧ x - 1 ∉ F := ⟨p.1, ⟨p.2.1, .inl hx⟩, p.2.2⟩
        simp only [if_pos p, if_pos p', nf 0]
        by_cases r : c ≠ -1 ∧ x + 1 ∈ win ∧ x + 1 ∉ F
        · rw [if_pos r, if_pos ⟨r.1, ⟨r.2.1, .inl hx⟩, r.2.2⟩]
        · rw [if_neg r, if_neg (fun q => r ⟨q.1, q.2.1.1, q.2.2⟩)]
      · have p' : ¬ (c ≠ 1 ∧ (x - 1 ∈ win ∧ (x ∉ N ∨ g < x)) ∧ x - 1 ∉ F) := fun q => p ⟨q.1, q.2.1.1, q.2.2⟩
        simp only [if_neg p, if_neg p']
        by_cases r : c ≠ -1 ∧ x + 1 ∈ win ∧ x + 1 ∉ F
        · rw [if_pos r, if_pos ⟨r.1, ⟨r.2.1, .inl hx⟩, r.2.2⟩]
        · rw [if_neg r, if_neg (fun q => r ⟨q.1, q.2.1.1, q.2.2⟩)]
  have na : a - 1 ∉ F := fun q => by have := (hm _).mp q; omega
  have nb : b + 1 ∉ F := fun q => by have := (hm _).mp q; omega
  -- what the left and the right step make
  have left : ∀ {F' : List Int} {a' b' : Int}, F'.Nodup → (∀ j, j ∈ F' ↔ a' ≤ j ∧ j ≤ b') → F'.length = (b' - a' + 1).toNat → a' ≤ b' → (F' ++ [a' - 1]).Nodup ∧ (∀ j, j ∈ F' ++ [a' - 1] ↔ a' - 1 ≤ j ∧ j ≤ b') ∧ (F' ++ [a' - 1]).length = (b' - (a' - 1) + 1).toNat := fun {F' a' b'} n m l le => by
    refine ⟨nd_snoc n (fun q => by have := (m _).mp q; omega), fun j => ?_, by rw [List.length_append, l, List.length_singleton]; omega⟩
    rw [List.mem_append, m, List.mem_singleton]; omega
  have right : ∀ {F' : List Int} {a' b' : Int}, F'.Nodup → (∀ j, j ∈ F' ↔ a' ≤ j ∧ j ≤ b') → F'.length = (b' - a' + 1).toNat → a' ≤ b' → (F' ++ [b' + 1]).Nodup ∧ (∀ j, j ∈ F' ++ [b' + 1] ↔ a' ≤ j ∧ j ≤ b' + 1) ∧ (F' ++ [b' + 1]).length = (b' + 1 - a' + 1).toNat := fun {F' a' b'} n m l le => by
    refine ⟨nd_snoc n (fun q => by have := (m _).mp q; omega), fun j => ?_, by rw [List.length_append, l, List.length_singleton]; omega⟩
    rw [List.mem_append, m, List.mem_singleton]; omega
  rcases hW with ⟨rfl, rfl, rfl⟩ | ⟨L, R, rfl, hL, hR⟩
  · -- the first switch
    refine ⟨[], b, 0, rfl, ?_⟩
    rw [fold b 0 [] (.inl rfl)]
    have hl' := HL b h1 (Int.le_refl _)
    have hr' := HR b (Int.le_refl _) h4
    have z1 : (0 : Int) ≠ 1 := by decide
    have z2 : (0 : Int) ≠ -1 := by decide
    simp only [hl', hr', ne_eq, z1, z2, not_false_eq_true, true_and, na, nb, and_true, List.nil_append]
    by_cases p : ra ≤ b - 1
    · obtain ⟨l1, l2, l3⟩ := left nd hm hl h3
      simp only [if_pos p]
      by_cases r : b + 1 ≤ rb
      · obtain ⟨r1, r2, r3⟩ := right l1 l2 l3 (by omega)
        rw [if_pos r]
        exact ⟨b - 1, b + 1, r1, r2, r3, by omega, by omega, by omega, by omega, by simp at hk ⊢; omega, .inr ⟨[(b - 1, -1)], [(b + 1, 1)], rfl, .inr ⟨rfl, by omega⟩, .inr ⟨rfl, by omega⟩⟩⟩
      · rw [if_neg r]
        exact ⟨b - 1, b, l1, l2, l3, by omega, by omega, by omega, by omega, by simp at hk ⊢; omega, .inr ⟨[(b - 1, -1)], [], rfl, .inr ⟨rfl, by omega⟩, .inl ⟨rfl, by omega⟩⟩⟩
    · simp only [if_neg p]
      by_cases r : b + 1 ≤ rb
      · obtain ⟨r1, r2, r3⟩ := right nd hm hl h3
        rw [if_pos r]
        exact ⟨b, b + 1, r1, r2, r3, by omega, by omega, by omega, by omega, by simp at hk ⊢; omega, .inr ⟨[], [(b + 1, 1)], rfl, .inl ⟨rfl, by omega⟩, .inr ⟨rfl, by omega⟩⟩⟩
      · rw [if_neg r]
        exact ⟨b, b, nd, hm, hl, by omega, by omega, by omega, by omega, by simp at hk ⊢; omega, .inr ⟨[], [], rfl, .inl ⟨rfl, by omega⟩, .inl ⟨rfl, by omega⟩⟩⟩
  · rcases hR with ⟨rfl, rfl⟩ | ⟨rfl, hb⟩
    · rcases hL with ⟨rfl, rfl⟩ | ⟨rfl, ha⟩
      · simp at hk
      · refine ⟨[], a, -1, rfl, ?_⟩
        rw [fold a (-1) [] (.inr (.inr rfl))]
        have hl' := HL a h1 h2
        have z1 : (-1 : Int) ≠ 1 := by decide
        simp only [hl', ne_eq, z1, not_false_eq_true, true_and, not_true_eq_false, false_and, if_false, na, and_true, List.nil_append]
        by_cases p : ra ≤ a - 1
        · obtain ⟨l1, l2, l3⟩ := left nd hm hl (by omega)
          rw [if_pos p]
          exact ⟨a - 1, b, l1, l2, l3, by omega, by omega, by omega, by omega, by simp at hk ⊢; omega, .inr ⟨[(a - 1, -1)], [], rfl, .inr ⟨rfl, by omega⟩, .inl ⟨rfl, rfl⟩⟩⟩
        · rw [if_neg p]
          exact ⟨a, b, nd, hm, hl, by omega, by omega, by omega, by omega, by simp at hk ⊢; omega, .inr ⟨[], [], rfl, .inl ⟨rfl, by omega⟩, .inl ⟨rfl, rfl⟩⟩⟩
    · refine ⟨L, b, 1, rfl, ?_⟩
      rw [fold b 1 L (.inr (.inl rfl))]
      have hr' := HR b h3 h4
      have z2 : (1 : Int) ≠ -1 := by decide
      simp only [hr', ne_eq, z2, not_false_eq_true, true_and, not_true_eq_false, false_and, if_false, nb, and_true]
      by_cases r : b + 1 ≤ rb
      · obtain ⟨r1, r2, r3⟩ := right nd hm hl (by omega)
        rw [if_pos r]
        exact ⟨a, b + 1, r1, r2, r3, by omega, by omega, by omega, by omega, by simp at hk ⊢; omega, .inr ⟨L, [(b + 1, 1)], rfl, hL, .inr ⟨rfl, by omega⟩⟩⟩
      · rw [if_neg r]
        exact ⟨a, b, nd, hm, hl, by omega, by omega, by omega, by omega, by simp at hk ⊢; omega, .inr ⟨L, [], by simp, hL, .inl ⟨rfl, by omega⟩⟩⟩
theorem enum_cnt {α : Type} {P : Dv → Bool} {Q : α → Bool} {f : α → Dv} (h : ∀ i x, P (.tup [.int i, f x]) = Q x) : ∀ (S : List α) (n : Nat), (((((S.map f).zipIdx n).map fun p => Dv.tup [.int (p.2 : Nat), p.1]).filter P).length) = (S.filter Q).length
  | [], _ => rfl
  | x :: S, n => by
    have ih := enum_cnt h S (n + 1)
    rw [List.map_cons, List.zipIdx_cons, List.map_cons, List.filter_cons, List.filter_cons, h]
    cases Q x with
    | true => simp only [if_true, List.length_cons, ih]
    | false => simp only [Bool.false_eq_true, if_false, ih]
/-- how many of the frames sent reach a position -/
def hitsN (S : List (Str × (Option Int × Option Int))) (p : Int) : Nat := (S.filter fun x => inSpan (some x.2) p).length
end FD
/-! What switches learn, and what a state tells. -/
namespace FD
open PySem PySem.Spec PyProof.Rows L2 FL
/-- where a frame goes, when the switches that know its target are those of its interval -/
theorem flood_reach {win N : List Int} {wl wh s g : Int} {u : Span} (hw : ∀ j, j ∈ win ↔ wl ≤ j ∧ j ≤ wh) (hN : ∀ j, j ∈ N ↔ (wl ≤ j ∧ j ≤ wh) ∧ inSpan u j = true) (own : u ≠ none → inSpan u g = true) (h1 : wl ≤ s ∧ s ≤ wh) (h2 : wl ≤ g ∧ g ≤ wh) (ne : s ≠ g) :
    ∃ ra rb : Int, (ra ≤ s ∧ s ≤ rb) ∧ (wl ≤ ra ∧ rb ≤ wh) ∧ (∀ b, s ≤ b → b ≤ rb → ((b + 1 ∈ win ∧ (b ∉ N ∨ g > b)) ↔ b + 1 ≤ rb)) ∧ (∀ a, ra ≤ a → a ≤ s → ((a - 1 ∈ win ∧ (a ∉ N ∨ g < a)) ↔ ra ≤ a - 1)) ∧
      ∀ j, (ra ≤ j ∧ j ≤ rb) ↔ (wl ≤ j ∧ j ≤ wh) ∧ inSpan (some (reachS u s g)) j = true := by
  rcases u with _ | u
  · refine ⟨wl, wh, h1, ⟨Int.le_refl _, Int.le_refl _⟩, fun b b1 b2 => ?_, fun a a1 a2 => ?_, fun j => ?_⟩
    · simp [hw, hN, inSpan]; omega
    · simp [hw, hN, inSpan]; omega
    · simp [reachS, inSpan, lowOk, highOk]
  · have own := own (by simp)
    by_cases q : inSpan (some u) s = true
    · by_cases r : s < g
      · refine ⟨s, g, ⟨Int.le_refl _, by omega⟩, by omega, fun b b1 b2 => ?_, fun a a1 a2 => ?_, fun j => ?_⟩
        · have hb : inSpan (some u) b = true := by rcases u with ⟨_ | l, _ | h⟩ <;> simp [inSpan, lowOk, highOk] at own q ⊢ <;> omega
          simp only [hw, hN, hb, and_true]; omega
        · have ea : a = s := by omega
          subst ea
          simp only [hw, hN, q, and_true]; omega
        · unfold reachS
          simp only [if_pos q, if_neg (show ¬ g < s by omega), if_pos (show g > s by omega)]
          simp [inSpan, lowOk, highOk]
          omega
      · refine ⟨g, s, ⟨by omega, Int.le_refl _⟩, by omega, fun b b1 b2 => ?_, fun a a1 a2 => ?_, fun j => ?_⟩
        · have eb : b = s := by omega
          subst eb
          simp only [hw, hN, q, and_true]; omega
        · have ha : inSpan (some u) a = true := by rcases u with ⟨_ | l, _ | h⟩ <;> simp [inSpan, lowOk, highOk] at own q ⊢ <;> omega
          simp only [hw, hN, ha, and_true]; omega
        · unfold reachS
          simp only [if_pos q, if_pos (show g < s by omega), if_neg (show ¬ g > s by omega)]
          simp [inSpan, lowOk, highOk]
          omega
    · by_cases r : s < g
      · refine ⟨wl, g, ⟨h1.1, by omega⟩, ⟨Int.le_refl _, h2.2⟩, fun b b1 b2 => ?_, fun a a1 a2 => ?_, fun j => ?_⟩
        · simp only [hw, hN]
          by_cases e : b = g
          · subst e
            simp only [own, and_true]; omega
          · omega
        · have ha : ¬ inSpan (some u) a = true := by rcases u with ⟨_ | l, _ | h⟩ <;> simp [inSpan, lowOk, highOk] at own q ⊢ <;> omega
          simp [hw, hN, ha]; omega
        · unfold reachS
          simp only [if_neg q, if_pos r]
          simp [inSpan, lowOk, highOk]
          omega
      · refine ⟨g, wh, ⟨by omega, h1.2⟩, ⟨h2.1, Int.le_refl _⟩, fun b b1 b2 => ?_, fun a a1 a2 => ?_, fun j => ?_⟩
        · have hb : ¬ inSpan (some u) b = true := by rcases u with ⟨_ | l, _ | h⟩ <;> simp [inSpan, lowOk, highOk] at own q ⊢ <;> omega
          simp [hw, hN, hb]; omega
        · simp only [hw, hN]
          by_cases e : a = g
          · subst e
            simp only [own, and_true]; omega
          · omega
        · unfold reachS
          simp only [if_neg q, if_neg r]
          simp [inSpan, lowOk, highOk]
          omega
/-- what is joined is what either contains, if both contain one switch -/
theorem in_join {s : Span} {r : Option Int × Option Int} {x : Int} (hs : s ≠ none → inSpan s x = true) (hr : inSpan (some r) x = true) (j : Int) : inSpan (some (joinS s r)) j = true ↔ inSpan s j = true ∨ inSpan (some r) j = true := by
  obtain ⟨_ | rl, _ | rh⟩ := r <;> rcases s with _ | ⟨_ | l, _ | h⟩ <;> simp [inSpan, lowOk, highOk, joinS, joinO] at hs hr ⊢ <;> (try split) <;> (try split) <;> omega
/-- what the switches have learnt is what the state tells -/
def Lrn (ks : List (Str × Int)) (wl wh : Int) (es : List (Str × Span)) (M : Str → List Int) : Prop := ∀ z ∈ ks.map (·.1), ∀ j, j ∈ M z ↔ (wl ≤ j ∧ j ≤ wh) ∧ inSpan (spOf es z) j = true
theorem lrn_kind {ks : List (Str × Int)} {wl wh : Int} {es : List (Str × Span)} {M : Str → List Int} (hk : LineOk ks) (h : StOk ks es) (hp : ∀ z ∈ ks.map (·.1), wl ≤ posOf ks z ∧ posOf ks z ≤ wh) (hM : Lrn ks wl wh es M) {z y : Str} (hz : z ∈ ks.map (·.1)) (hy : y ∈ ks.map (·.1)) :
    (if M y = [] then ("all" : Str) else if posOf ks z ∈ M y then "direct" else "flood") = kindS (spOf es y) (posOf ks z) := by
  have own : spOf es y ≠ none → inSpan (spOf es y) (posOf ks y) = true := fun n => own_in (h.ok _ (spOf_look hk h hy).2) n
  have hm := hM y hy
  cases e : spOf es y with
  | none =>
    rw [e] at hm
    have : M y = [] := List.eq_nil_iff_forall_not_mem.mpr fun j hj => by
      have := ((hm j).mp hj).2
      cases this
    rw [if_pos this]; rfl
  | some u =>
    rw [e] at hm own
    have own := own (by simp)
    have : M y ≠ [] := fun q => by
      have := (hm (posOf ks y)).mpr ⟨hp y hy, own⟩
      rw [q] at this; cases this
    rw [if_neg this]
    unfold kindS
    by_cases q : inSpan (some u) (posOf ks z) = true
    · rw [if_pos ((hm _).mpr ⟨hp z hz, q⟩)]
      simp only [if_pos q]
    · rw [if_neg (fun c => q ((hm _).mp c).2)]
      simp only [if_neg q]
theorem lrn_send {ks : List (Str × Int)} {wl wh : Int} {es : List (Str × Span)} {M : Str → List Int} (hk : LineOk ks) (h : StOk ks es) (hM : Lrn ks wl wh es M) {p : Str × Str} (h1 : p.1 ∈ ks.map (·.1)) (h2 : p.2 ∈ ks.map (·.1)) {F : List Int}
    (hF : ∀ j, j ∈ F ↔ (wl ≤ j ∧ j ≤ wh) ∧ inSpan (some (reachE ks es p)) j = true) : Lrn ks wl wh (sendE ks es p) (fun z => if z = p.1 then M p.1 ++ F.filter (fun j => !decide (j ∈ M p.1)) else M z) := by
  intro z hz j
  have own : spOf es p.1 ≠ none → inSpan (spOf es p.1) (posOf ks p.1) = true := fun n => own_in (h.ok _ (spOf_look hk h h1).2) n
  show (j ∈ if z = p.1 then M p.1 ++ F.filter (fun j => !decide (j ∈ M p.1)) else M z) ↔ _
  unfold sendE
  rw [spOf_set hk h hz h1]
  by_cases e : z = p.1
  · subst e
    rw [if_pos rfl, if_pos rfl, List.mem_append, List.mem_filter, in_join own (in_reach _ _ _).1]
    have hm := hM _ hz j
    have hf := hF j
    unfold reachE at hf
    simp only [Bool.not_eq_true', decide_eq_false_iff_not]
    constructor
    · rintro (a | ⟨a, _⟩)
      · exact ⟨(hm.mp a).1, .inl (hm.mp a).2⟩
      · exact ⟨(hf.mp a).1, .inr (hf.mp a).2⟩
    · rintro ⟨a, b | b⟩
      · exact .inl (hm.mpr ⟨a, b⟩)
      · by_cases c : j ∈ M p.1
        · exact .inl c
        · exact .inr ⟨hf.mpr ⟨a, b⟩, c⟩
  · rw [if_neg e, if_neg e]; exact hM z hz j
theorem lrn_sil {ks : List (Str × Int)} {wl wh : Int} (hk : LineOk ks) : Lrn ks wl wh (silE ks) (fun _ => []) := fun z hz j => by
  rw [spOf_sil hk hz]
  simp [inSpan]
/-- dicts by functions -/
def kvM (N : List Str) (M : Str → List Int) : List (Key × Dv) := N.map fun z => ((.inr z : Key), Dv.lst ((M z).map Dv.int))
def kvC (W : List Int) (C : Int → Int) : List (Key × Dv) := W.map fun j => ((.inl j : Key), Dv.int (C j))
theorem kvM_put {N : List Str} {M : Str → List Int} {z : Str} {L : List Int} (hz : z ∈ N) : putD (kvM N M) (.inr z) (.lst (L.map Dv.int)) = kvM N (fun y => if y = z then L else M y) := by
  unfold putD
  rw [if_pos]
  · unfold kvM
    rw [List.map_map]
    refine List.map_congr_left fun y _ => ?_
    show (if (Sum.inr y : Key) = Sum.inr z then ((Sum.inr z : Key), Dv.lst (L.map Dv.int)) else (Sum.inr y, Dv.lst ((M y).map Dv.int))) = (Sum.inr y, Dv.lst ((if y = z then L else M y).map Dv.int))
    by_cases e : y = z
    · rw [if_pos (by rw [e]), if_pos e, e]
    · rw [if_neg (fun q => e (Sum.inr.inj q)), if_neg e]
  · rw [List.any_eq_true]
    exact ⟨_, List.mem_map.mpr ⟨z, hz, rfl⟩, decide_eq_true rfl⟩
theorem kvC_put {W : List Int} {C : Int → Int} {z c : Int} (hz : z ∈ W) : putD (kvC W C) (.inl z) (.int c) = kvC W (fun y => if y = z then c else C y) := by
  unfold putD
  rw [if_pos]
  · unfold kvC
    rw [List.map_map]
    refine List.map_congr_left fun y _ => ?_
    show (if (Sum.inl y : Key) = Sum.inl z then ((Sum.inl z : Key), Dv.int c) else (Sum.inl y, Dv.int (C y))) = (Sum.inl y, Dv.int (if y = z then c else C y))
    by_cases e : y = z
    · rw [if_pos (by rw [e]), if_pos e, e]
    · rw [if_neg (fun q => e (Sum.inl.inj q)), if_neg e]
  · rw [List.any_eq_true]
    exact ⟨_, List.mem_map.mpr ⟨z, hz, rfl⟩, decide_eq_true rfl⟩
theorem kvM_look {N : List Str} {M : Str → List Int} {z : Str} (hz : z ∈ N) : lookK (kvM N M) (.inr z) = some (.lst ((M z).map Dv.int)) := lookK_map hz
theorem kvC_look {W : List Int} {C : Int → Int} {z : Int} (hz : z ∈ W) : lookK (kvC W C) (.inl z) = some (.int (C z)) := by
  unfold kvC
  induction W with
  | nil => cases hz
  | cons y I ih =>
    rw [List.map_cons, lookK_cons]
    by_cases e : y = z
    · rw [if_pos (by rw [e]), e]
    · rw [if_neg (fun q => e (Sum.inl.inj q))]
      exact ih ((List.mem_cons.mp hz).resolve_left fun q => e q.symm)
def rngI (lo : Int) (n : Nat) : List Int := (List.range n).map fun (i : Nat) => lo + (i : Int)
theorem rngD_ints (lo : Int) (n : Nat) : rngD lo n = (rngI lo n).map Dv.int := by unfold rngD rngI; rw [List.map_map]; rfl
theorem rngI_mem {lo : Int} {n : Nat} {j : Int} : j ∈ rngI lo n ↔ lo ≤ j ∧ j ≤ lo + n - 1 := by
  unfold rngI
  rw [List.mem_map]
  constructor
  · rintro ⟨i, hi, rfl⟩
    have := List.mem_range.mp hi
    omega
  · rintro ⟨h1, h2⟩
    exact ⟨(j - lo).toNat, List.mem_range.mpr (by omega), by omega⟩
theorem rngI_nd (lo : Int) (n : Nat) : (rngI lo n).Nodup := by
  unfold rngI
  exact List.Pairwise.map _ (fun a b h e => h (by omega)) List.nodup_range
theorem rngI_len (lo : Int) (n : Nat) : (rngI lo n).length = n := by unfold rngI; rw [List.length_map, List.length_range]
theorem keys_line (ks : List (Str × Int)) : Way.ds .keys (kvL ks) = (ks.map (·.1)).map Dv.str := by
  unfold kvL
  show (List.map _ (List.map _ ks)) = _
  rw [List.map_map, List.map_map]; rfl
theorem bDict_M {N : List Str} (nd : N.Nodup) (M : Str → List Int) : bDict [.lst (N.map fun z => .tup [.str z, .lst ((M z).map Dv.int)])] = some (.dct (kvM N M)) := by
  have e : (N.map fun z => Dv.tup [.str z, .lst ((M z).map Dv.int)]) = (kvM N M).map itemD := by unfold kvM; rw [List.map_map]; rfl
  rw [e]
  refine bDict_items ?_
  have e2 : (kvM N M).map (·.1) = N.map Sum.inr := by unfold kvM; rw [List.map_map]; rfl
  rw [e2]
  exact List.Pairwise.map _ (fun a b h e => h (Sum.inr.inj e)) nd
theorem bDict_C {W : List Int} (nd : W.Nodup) (C : Int → Int) : bDict [.lst (W.map fun j => .tup [.int j, .int (C j)])] = some (.dct (kvC W C)) := by
  have e : (W.map fun j => Dv.tup [.int j, .int (C j)]) = (kvC W C).map itemD := by unfold kvC; rw [List.map_map]; rfl
  rw [e]
  refine bDict_items ?_
  have e2 : (kvC W C).map (·.1) = W.map Sum.inl := by unfold kvC; rw [List.map_map]; rfl
  rw [e2]
  exact List.Pairwise.map _ (fun a b h e => h (Sum.inl.inj e)) nd
theorem hits_snoc {S : List (Str × (Option Int × Option Int))} {x : Str × (Option Int × Option Int)} {p : Int} : hitsN (S ++ [x]) p = hitsN S p + (if inSpan (some x.2) p = true then 1 else 0) := by
  unfold hitsN
  rw [List.filter_append, List.length_append]
  congr 1
  cases e : inSpan (some x.2) p <;> simp [e]
end FD
namespace FD.k14
open PySem PySem.Spec PyProof.Rows L2 FL FD
def top (i : Nat) : Stmt := PySem.Challenge.pw_floodline_k14_loads_switch_by_switch.main.body.getD i (.Pass ⟨0, 0, 0, 0⟩)
abbrev s_is_integer : Stmt := top 10
abbrev nn_is_integer : List Str := ["value"]
theorem sc_is_integer : FnScope nn_is_integer ["value"] (defScope s_is_integer) := ⟨rfl, rfl, rfl, by decide +kernel, rfl, by decide +kernel, by decide +kernel⟩
abbrev s_is_name : Stmt := top 12
abbrev nn_is_name : List Str := ["value", "letter"]
theorem sc_is_name : FnScope nn_is_name ["value"] (defScope s_is_name) := ⟨rfl, rfl, rfl, by decide +kernel, rfl, by decide +kernel, by decide +kernel⟩
abbrev s_is_list : Stmt := top 13
abbrev nn_is_list : List Str := ["value"]
theorem sc_is_list : FnScope nn_is_list ["value"] (defScope s_is_list) := ⟨rfl, rfl, rfl, by decide +kernel, rfl, by decide +kernel, by decide +kernel⟩
abbrev s_is_pair : Stmt := top 14
abbrev nn_is_pair : List Str := ["value"]
theorem sc_is_pair : FnScope nn_is_pair ["value"] (defScope s_is_pair) := ⟨rfl, rfl, rfl, by decide +kernel, rfl, by decide +kernel, by decide +kernel⟩
abbrev s_contains : Stmt := top 18
abbrev nn_contains : List Str := ["interval", "position", "low", "high"]
theorem sc_contains : FnScope nn_contains ["interval", "position"] (defScope s_contains) := ⟨rfl, rfl, rfl, by decide +kernel, rfl, by decide +kernel, by decide +kernel⟩
abbrev s_joined : Stmt := top 19
abbrev nn_joined : List Str := ["interval", "other", "low", "high"]
theorem sc_joined : FnScope nn_joined ["interval", "other"] (defScope s_joined) := ⟨rfl, rfl, rfl, by decide +kernel, rfl, by decide +kernel, by decide +kernel⟩
abbrev s_has_hosts_of : Stmt := top 26
abbrev nn_has_hosts_of : List Str := ["line", "value", "host"]
theorem sc_has_hosts_of : FnScope nn_has_hosts_of ["line", "value"] (defScope s_has_hosts_of) := ⟨rfl, rfl, rfl, by decide +kernel, rfl, by decide +kernel, by decide +kernel⟩
abbrev s_is_host : Stmt := top 29
abbrev nn_is_host : List Str := ["line", "value"]
theorem sc_is_host : FnScope nn_is_host ["line", "value"] (defScope s_is_host) := ⟨rfl, rfl, rfl, by decide +kernel, rfl, by decide +kernel, by decide +kernel⟩
abbrev s_silent_state : Stmt := top 38
abbrev nn_silent_state : List Str := ["line", "host"]
theorem sc_silent_state : FnScope nn_silent_state ["line"] (defScope s_silent_state) := ⟨rfl, rfl, rfl, by decide +kernel, rfl, by decide +kernel, by decide +kernel⟩
abbrev s_reach_of_kind : Stmt := top 40
abbrev nn_reach_of_kind : List Str := ["kind", "start", "end"]
theorem sc_reach_of_kind : FnScope nn_reach_of_kind ["kind", "start", "end"] (defScope s_reach_of_kind) := ⟨rfl, rfl, rfl, by decide +kernel, rfl, by decide +kernel, by decide +kernel⟩
abbrev s__law_spring : Stmt := top 53
abbrev nn__law_spring : List Str := ["script", "digits", "seed", "cell"]
theorem sc__law_spring : FnScope nn__law_spring ["script"] (defScope s__law_spring) := ⟨rfl, rfl, rfl, by decide +kernel, rfl, by decide +kernel, by decide +kernel⟩
abbrev s__law_draw : Stmt := top 54
abbrev nn__law_draw : List Str := ["spring", "many", "found", "mix"]
theorem sc__law_draw : FnScope nn__law_draw ["spring", "many"] (defScope s__law_draw) := ⟨rfl, rfl, rfl, by decide +kernel, rfl, by decide +kernel, by decide +kernel⟩
abbrev s__law_passed : Stmt := top 58
abbrev nn__law_passed : List Str := ["window", "knows", "start", "goal", "found", "waiting", "place", "came", "steps", "step"]
theorem sc__law_passed : FnScope nn__law_passed ["window", "knows", "start", "goal"] (defScope s__law_passed) := ⟨rfl, rfl, rfl, by decide +kernel, rfl, by decide +kernel, by decide +kernel⟩
abbrev s__law_kind : Stmt := top 59
abbrev nn__law_kind : List Str := ["knows", "start"]
theorem sc__law_kind : FnScope nn__law_kind ["knows", "start"] (defScope s__law_kind) := ⟨rfl, rfl, rfl, by decide +kernel, rfl, by decide +kernel, by decide +kernel⟩
abbrev s_is_position : Stmt := top 11
abbrev nn_is_position : List Str := ["value"]
theorem sc_is_position : FnScope nn_is_position ["value"] (defScope s_is_position) := ⟨rfl, rfl, rfl, by decide +kernel, rfl, by decide +kernel, by decide +kernel⟩
abbrev s_check_number : Stmt := top 16
abbrev nn_check_number : List Str := ["number", "least", "most"]
theorem sc_check_number : FnScope nn_check_number ["number", "least", "most"] (defScope s_check_number) := ⟨rfl, rfl, rfl, by decide +kernel, rfl, by decide +kernel, by decide +kernel⟩
abbrev s_is_end : Stmt := top 28
abbrev nn_is_end : List Str := ["line", "value"]
theorem sc_is_end : FnScope nn_is_end ["line", "value"] (defScope s_is_end) := ⟨rfl, rfl, rfl, by decide +kernel, rfl, by decide +kernel, by decide +kernel⟩
abbrev s_is_frame : Stmt := top 30
abbrev nn_is_frame : List Str := ["line", "value", "sender", "target"]
theorem sc_is_frame : FnScope nn_is_frame ["line", "value"] (defScope s_is_frame) := ⟨rfl, rfl, rfl, by decide +kernel, rfl, by decide +kernel, by decide +kernel⟩
abbrev s_kind_in : Stmt := top 39
abbrev nn_kind_in : List Str := ["line", "state", "sender", "target"]
theorem sc_kind_in : FnScope nn_kind_in ["line", "state", "sender", "target"] (defScope s_kind_in) := ⟨rfl, rfl, rfl, by decide +kernel, rfl, by decide +kernel, by decide +kernel⟩
abbrev s__law_names : Stmt := top 55
abbrev nn__law_names : List Str := ["spring", "many", "pool", "turn"]
theorem sc__law_names : FnScope nn__law_names ["spring", "many"] (defScope s__law_names) := ⟨rfl, rfl, rfl, by decide +kernel, rfl, by decide +kernel, by decide +kernel⟩
abbrev s__law_frames : Stmt := top 57
abbrev nn__law_frames : List Str := ["spring", "line", "many", "hosts", "found", "few", "turn", "one", "other"]
theorem sc__law_frames : FnScope nn__law_frames ["spring", "line", "many"] (defScope s__law_frames) := ⟨rfl, rfl, rfl, by decide +kernel, rfl, by decide +kernel, by decide +kernel⟩
abbrev s_check_position : Stmt := top 15
abbrev nn_check_position : List Str := ["position"]
theorem sc_check_position : FnScope nn_check_position ["position"] (defScope s_check_position) := ⟨rfl, rfl, rfl, by decide +kernel, rfl, by decide +kernel, by decide +kernel⟩
abbrev s_is_line : Stmt := top 23
abbrev nn_is_line : List Str := ["value", "host", "position"]
theorem sc_is_line : FnScope nn_is_line ["value"] (defScope s_is_line) := ⟨rfl, rfl, rfl, by decide +kernel, rfl, by decide +kernel, by decide +kernel⟩
abbrev s_is_known_interval : Stmt := top 27
abbrev nn_is_known_interval : List Str := ["line", "host", "value", "low", "high", "own", "low_fits", "high_fits"]
theorem sc_is_known_interval : FnScope nn_is_known_interval ["line", "host", "value"] (defScope s_is_known_interval) := ⟨rfl, rfl, rfl, by decide +kernel, rfl, by decide +kernel, by decide +kernel⟩
abbrev s_send_one : Stmt := top 41
abbrev nn_send_one : List Str := ["line", "known", "sender", "target", "kind", "reach"]
theorem sc_send_one : FnScope nn_send_one ["line", "known", "sender", "target"] (defScope s_send_one) := ⟨rfl, rfl, rfl, by decide +kernel, rfl, by decide +kernel, by decide +kernel⟩
abbrev s__law_line : Stmt := top 56
abbrev nn__law_line : List Str := ["spring", "many", "way", "step", "place", "pairs", "found", "name"]
theorem sc__law_line : FnScope nn__law_line ["spring", "many"] (defScope s__law_line) := ⟨rfl, rfl, rfl, by decide +kernel, rfl, by decide +kernel, by decide +kernel⟩
abbrev s_check_line : Stmt := top 31
abbrev nn_check_line : List Str := ["line"]
theorem sc_check_line : FnScope nn_check_line ["line"] (defScope s_check_line) := ⟨rfl, rfl, rfl, by decide +kernel, rfl, by decide +kernel, by decide +kernel⟩
abbrev s_send_each : Stmt := top 42
abbrev nn_send_each : List Str := ["line", "known", "frames", "sent", "sender", "target"]
theorem sc_send_each : FnScope nn_send_each ["line", "known", "frames"] (defScope s_send_each) := ⟨rfl, rfl, rfl, by decide +kernel, rfl, by decide +kernel, by decide +kernel⟩
abbrev s_is_state : Stmt := top 24
abbrev nn_is_state : List Str := ["line", "value", "host"]
theorem sc_is_state : FnScope nn_is_state ["line", "value"] (defScope s_is_state) := ⟨rfl, rfl, rfl, by decide +kernel, rfl, by decide +kernel, by decide +kernel⟩
abbrev s_is_frames : Stmt := top 25
abbrev nn_is_frames : List Str := ["line", "value", "item"]
theorem sc_is_frames : FnScope nn_is_frames ["line", "value"] (defScope s_is_frames) := ⟨rfl, rfl, rfl, by decide +kernel, rfl, by decide +kernel, by decide +kernel⟩
abbrev s_check_state : Stmt := top 32
abbrev nn_check_state : List Str := ["line", "state"]
theorem sc_check_state : FnScope nn_check_state ["line", "state"] (defScope s_check_state) := ⟨rfl, rfl, rfl, by decide +kernel, rfl, by decide +kernel, by decide +kernel⟩
abbrev s_check_frames : Stmt := top 33
abbrev nn_check_frames : List Str := ["line", "frames"]
theorem sc_check_frames : FnScope nn_check_frames ["line", "frames"] (defScope s_check_frames) := ⟨rfl, rfl, rfl, by decide +kernel, rfl, by decide +kernel, by decide +kernel⟩
abbrev s_starting_state : Stmt := top 47
abbrev nn_starting_state : List Str := ["line", "start"]
theorem sc_starting_state : FnScope nn_starting_state ["line", "start"] (defScope s_starting_state) := ⟨rfl, rfl, rfl, by decide +kernel, rfl, by decide +kernel, by decide +kernel⟩
abbrev s_kinds_of : Stmt := top 44
abbrev nn_kinds_of : List Str := ["line", "frames", "start", "sent", "kind", "_"]
theorem sc_kinds_of : FnScope nn_kinds_of ["line", "frames", "start"] (defScope s_kinds_of) := ⟨rfl, rfl, rfl, by decide +kernel, rfl, by decide +kernel, by decide +kernel⟩
abbrev s_known_after : Stmt := top 45
abbrev nn_known_after : List Str := ["line", "frames", "start", "known", "host"]
theorem sc_known_after : FnScope nn_known_after ["line", "frames", "start"] (defScope s_known_after) := ⟨rfl, rfl, rfl, by decide +kernel, rfl, by decide +kernel, by decide +kernel⟩
abbrev s_heard_at : Stmt := top 46
abbrev nn_heard_at : List Str := ["line", "frames", "position", "start", "sent", "index", "_", "reach"]
theorem sc_heard_at : FnScope nn_heard_at ["line", "frames", "position", "start"] (defScope s_heard_at) := ⟨rfl, rfl, rfl, by decide +kernel, rfl, by decide +kernel, by decide +kernel⟩
abbrev s_kinds_in_round : Stmt := top 50
abbrev nn_kinds_in_round : List Str := ["line", "frames", "number"]
theorem sc_kinds_in_round : FnScope nn_kinds_in_round ["line", "frames", "number"] (defScope s_kinds_in_round) := ⟨rfl, rfl, rfl, by decide +kernel, rfl, by decide +kernel, by decide +kernel⟩
abbrev s_load_after : Stmt := top 51
abbrev nn_load_after : List Str := ["line", "frames", "count", "position", "first", "later"]
theorem sc_load_after : FnScope nn_load_after ["line", "frames", "count", "position"] (defScope s_load_after) := ⟨rfl, rfl, rfl, by decide +kernel, rfl, by decide +kernel, by decide +kernel⟩
abbrev s__law_right : Stmt := top 60
abbrev nn__law_right : List Str := ["line", "frames", "places", "window", "learnt", "loads", "number", "due", "sender", "target", "reached", "place", "host"]
theorem sc__law_right : FnScope nn__law_right ["line", "frames"] (defScope s__law_right) := ⟨rfl, rfl, rfl, by decide +kernel, rfl, by decide +kernel, by decide +kernel⟩
abbrev s_law : Stmt := top 61
abbrev nn_law : List Str := ["script", "spring", "turn", "line", "near", "rank", "host"]
theorem sc_law : FnScope nn_law ["script"] (defScope s_law) := ⟨rfl, rfl, rfl, by decide +kernel, rfl, by decide +kernel, by decide +kernel⟩
def fs_is_integer : Fs := (sRet (fAndV (fIsi "int" (fVar 0)) (fNotV (fIsi "bool" (fVar 0)))))
def sem_is_integer : List Dv → Option Dv := semP 0 fs_is_integer
def fs_is_name : Fs := (sSeq (sIf (tstOr (tstNot (tstB (fIsi "str" (fVar 0)))) (tstNot (tstB (fChain oLe oLe (fC (.int 1)) (fCB bLen (aCons (fVar 0) aNil)) (fC (.int (8))))))) (sRet (fC (.bl false))) sNext) (sRet (fCB bAll (aCons (fZ (oLc (itS (fVar 0)) (bName 1) tstYes (fChain oLe oLe (fC (.str "a")) (fVar 1) (fC (.str "z"))) [1])) aNil))))
def sem_is_name : List Dv → Option Dv := semP 1 fs_is_name
def fs_is_list : Fs := (sRet (fTyEq "list" (fVar 0)))
def sem_is_list : List Dv → Option Dv := semP 0 fs_is_list
def fs_is_pair : Fs := (sRet (fAndV (fTyEq "tuple" (fVar 0)) (fOp oEqX (fCB bLen (aCons (fVar 0) aNil)) (fC (.int 2)))))
def sem_is_pair : List Dv → Option Dv := semP 0 fs_is_pair
def fs_contains : Fs := (sSeq (sIf (tstB (fOp oIs (fVar 0) (fC .non))) (sRet (fC (.bl false))) sNext) (sSeq (sAsg (fVar 0) (bTup 2 (bsCons (bName 2) (bsCons (bName 3) bsNil)))) (sRet (fAndV (fOrV (fOp oIs (fVar 2) (fC .non)) (fOp oLe (fVar 2) (fVar 1))) (fOrV (fOp oIs (fVar 3) (fC .non)) (fOp oLe (fVar 1) (fVar 3)))))))
def sem_contains : List Dv → Option Dv := semP 2 fs_contains
def fs_joined : Fs := (sSeq (sIf (tstB (fOp oIs (fVar 0) (fC .non))) (sRet (fVar 1)) sNext) (sSeq (sAsg (fC .non) (bName 2)) (sSeq (sIf (tstAnd (tstB (fOp oIsNot (fOp oIx (fVar 0) (fC (.int 0))) (fC .non))) (tstB (fOp oIsNot (fOp oIx (fVar 1) (fC (.int 0))) (fC .non)))) (sAsg (fCB bMin2 (aCons (fOp oIx (fVar 0) (fC (.int 0))) (aCons (fOp oIx (fVar 1) (fC (.int 0))) aNil))) (bName 2)) sNext) (sSeq (sAsg (fC .non) (bName 3)) (sSeq (sIf (tstAnd (tstB (fOp oIsNot (fOp oIx (fVar 0) (fC (.int 1))) (fC .non))) (tstB (fOp oIsNot (fOp oIx (fVar 1) (fC (.int 1))) (fC .non)))) (sAsg (fCB bMax2 (aCons (fOp oIx (fVar 0) (fC (.int 1))) (aCons (fOp oIx (fVar 1) (fC (.int 1))) aNil))) (bName 3)) sNext) (sRet (fTup (aCons (fVar 2) (aCons (fVar 3) aNil)))))))))
def sem_joined : List Dv → Option Dv := semP 2 fs_joined
def fs_has_hosts_of : Fs := (sSeq (sIf (tstOr (tstNot (tstB (fIsi "dict" (fVar 1)))) (tstB (fOp oNeX (fCB bLen (aCons (fVar 1) aNil)) (fCB bLen (aCons (fVar 0) aNil))))) (sRet (fC (.bl false))) sNext) (sRet (fCB bAll (aCons (fZ (oLc (itD .keys 0) (bName 2) tstYes (fDIn (fVar 2) (fVar 1) false) [2])) aNil))))
def sem_has_hosts_of : List Dv → Option Dv := semP 1 fs_has_hosts_of
def fs_is_host : Fs := (sRet (fAndV (fIsi "str" (fVar 1)) (fDIn (fVar 1) (fVar 0) false)))
def sem_is_host : List Dv → Option Dv := semP 0 fs_is_host
def fs_silent_state : Fs := (sRetO (oDc (itD .keys 0) (bName 1) tstYes (fVar 1) (fC .non) [1]))
def sem_silent_state : List Dv → Option Dv := semO 1 fs_silent_state
def fs_reach_of_kind : Fs := (sSeq (sIf (tstB (fOp oEqX (fVar 0) (fC (.str "all")))) (sRet (fTup (aCons (fC .non) (aCons (fC .non) aNil)))) sNext) (sSeq (sIf (tstB (fOp oEqX (fVar 0) (fC (.str "direct")))) (sRet (fTup (aCons (fCB bMin2 (aCons (fVar 1) (aCons (fVar 2) aNil))) (aCons (fCB bMax2 (aCons (fVar 1) (aCons (fVar 2) aNil))) aNil)))) sNext) (sSeq (sIf (tstB (fOp oLt (fVar 1) (fVar 2))) (sRet (fTup (aCons (fC .non) (aCons (fVar 2) aNil)))) sNext) (sRet (fTup (aCons (fVar 2) (aCons (fC .non) aNil)))))))
def sem_reach_of_kind : List Dv → Option Dv := semP 0 fs_reach_of_kind
def fs__law_spring : Fs := (sSeq (sAsg (fTup (aCons (fC (.int 0)) (aCons (fC (.int 90247)) aNil))) (bTup 2 (bsCons (bName 1) (bsCons (bName 2) bsNil)))) (sSeq (sFor (itL (fZ (oSl (fVar 0) pNo (pAt (fC (.int 63)))))) (bName 3) (sSeq (sIf (tstB (fOp oGe (fCB bAbs (aCons (fVar 3) aNil)) (fOp oPow (fC (.int 10)) (fC (.int 18))))) (sAsg (fOp oAdd (fOp oMul (fVar 1) (fOp oPow (fC (.int 10)) (fC (.int 60)))) (fOp oMod (fCB bAbs (aCons (fVar 3) aNil)) (fOp oPow (fC (.int 10)) (fC (.int 60))))) (bName 1)) sNext) (sAsg (fOp oMod (fOp oAdd (fOp oAdd (fOp oMul (fVar 2) (fC (.int 69069))) (fOp oMod (fVar 3) (fC (.int 2305843009213693921)))) (fC (.int 13))) (fC (.int 2305843009213693951))) (bName 2)))) (sRetO (oLst (aCons (fVar 1) (aCons (fVar 2) (aCons (fC (.int 0)) aNil)))))))
def sem__law_spring : List Dv → Option Dv := semO 3 fs__law_spring
def fs__law_draw : Fs := (sSeq (sIf (tstB (fOp oGt (fOp oIx (fVar 0) (fC (.int 0))) (fC (.int 0)))) (sSeq (sAsg (fOp oMod (fOp oIx (fVar 0) (fC (.int 0))) (fVar 1)) (bName 2)) (sSeq (sSetL 0 (fC (.int 0)) (fOp oFdv (fOp oIx (fVar 0) (fC (.int 0))) (fVar 1))) (sRet (fVar 2)))) sNext) (sSeq (sSetL 0 (fC (.int 2)) (fOp oAdd (fOp oIx (fVar 0) (fC (.int 2))) (fC (.int 1)))) (sSeq (sAsg (fOp oMod (fOp oMul (fOp oIx (fVar 0) (fC (.int 1))) (fOp oIx (fVar 0) (fC (.int 1)))) (fC (.int 2305843009213693951))) (bName 3)) (sSeq (sSetL 0 (fC (.int 1)) (fOp oMod (fOp oAdd (fOp oAdd (fVar 3) (fOp oMul (fOp oMul (fC (.int 6151)) (fOp oIx (fVar 0) (fC (.int 2)))) (fOp oIx (fVar 0) (fC (.int 1))))) (fC (.int 103049))) (fC (.int 2305843009213693951)))) (sRet (fOp oMod (fOp oFdv (fOp oIx (fVar 0) (fC (.int 1))) (fC (.int 65539))) (fVar 1)))))))
def sem__law_draw : Dv → List Dv → Option (Dv × Dv) := semM 0 2 fs__law_draw
def fs__law_passed : Fs := (sSeq (sParO 4 5 (oaConsO (oLst (aCons (fVar 2) aNil)) (oaConsO (oLst (aCons (fTup (aCons (fVar 2) (aCons (fC (.int 0)) aNil))) aNil)) oaNil))) (sSeq (wLoop (tstB (fOp oNeX (fVar 5) (fZ (oLst aNil)))) (sSeq (sAsg (fPop0 5) (bTup 2 (bsCons (bName 6) (bsCons (bName 7) bsNil)))) (sSeq (sAsg (fZ (oLst (aCons (fNeg (fC (.int 1))) (aCons (fC (.int 1)) aNil)))) (bName 8)) (sSeq (sIf (tstB (fOp oInF (fVar 6) (fVar 1))) (sAsg (fIfE (tstB (fOp oEqX (fVar 6) (fVar 3))) (fZ (oLst aNil)) (fZ (oLst (aCons (fIfE (tstB (fOp oGt (fVar 3) (fVar 6))) (fC (.int 1)) (fNeg (fC (.int 1)))) aNil)))) (bName 8)) sNext) (sFor (itL (fVar 8)) (bName 9) (sIf (tstAnd (tstB (fOp oNeX (fVar 9) (fOp oSub (fC (.int 0)) (fVar 7)))) (tstAnd (tstB (fOp oInF (fOp oAdd (fVar 6) (fVar 9)) (fVar 0))) (tstB (fOp oNotInF (fOp oAdd (fVar 6) (fVar 9)) (fVar 4))))) (sSeq (sDrop (fOwnL 4 (fApp 4 (fOp oAdd (fVar 6) (fVar 9))))) (sDrop (fOwnL 5 (fApp 5 (fTup (aCons (fOp oAdd (fVar 6) (fVar 9)) (aCons (fVar 9) aNil))))))) sNext))))) 100000) (sRet (fVar 4))))
def sem__law_passed : List Dv → Option Dv := semP 6 fs__law_passed
def fs__law_kind : Fs := (sSeq (sIf (tstB (fOp oEqX (fVar 0) (fZ (oLst aNil)))) (sRet (fC (.str "all"))) sNext) (sRet (fIfE (tstB (fOp oInF (fVar 1) (fVar 0))) (fC (.str "direct")) (fC (.str "flood")))))
def sem__law_kind : List Dv → Option Dv := semP 0 fs__law_kind
def fs_is_position : Fs := (sRet (fAndV (fCallP sem_is_integer (ckLen 1 (aCons (fVar 0) aNil))) (fChain oLe oLe (fNeg (fC (.int (1000000000000000000000000000000)))) (fVar 0) (fC (.int (1000000000000000000000000000000))))))
def sem_is_position : List Dv → Option Dv := semP 0 fs_is_position
def fs_check_number : Fs := (sIf (tstOr (tstNot (tstB (fCallP sem_is_integer (ckLen 1 (aCons (fVar 0) aNil))))) (tstNot (tstB (fChain oLe oLe (fVar 1) (fVar 0) (fVar 2))))) sNever sNext)
def sem_check_number : List Dv → Option Dv := semP 0 fs_check_number
def fs_is_end : Fs := (sRet (fAndV (fCallP sem_is_integer (ckLen 1 (aCons (fVar 1) aNil))) (fOp oInF (fVar 1) (fZ (oLV (fVar 0))))))
def sem_is_end : List Dv → Option Dv := semP 0 fs_is_end
def fs_is_frame : Fs := (sSeq (sIf (tstNot (tstB (fCallP sem_is_pair (ckLen 1 (aCons (fVar 1) aNil))))) (sRet (fC (.bl false))) sNext) (sSeq (sAsg (fVar 1) (bTup 2 (bsCons (bName 2) (bsCons (bName 3) bsNil)))) (sRet (fAndV (fCallP sem_is_host (ckLen 2 (aCons (fVar 0) (aCons (fVar 2) aNil)))) (fAndV (fCallP sem_is_host (ckLen 2 (aCons (fVar 0) (aCons (fVar 3) aNil)))) (fOp oNeX (fVar 2) (fVar 3)))))))
def sem_is_frame : List Dv → Option Dv := semP 2 fs_is_frame
def fs_kind_in : Fs := (sSeq (sIf (tstB (fOp oIs (fDGet (fVar 1) (fVar 3)) (fC .non))) (sRet (fC (.str "all"))) sNext) (sSeq (sIf (tstB (fCallP sem_contains (ckLen 2 (aCons (fDGet (fVar 1) (fVar 3)) (aCons (fDGet (fVar 0) (fVar 2)) aNil))))) (sRet (fC (.str "direct"))) sNext) (sRet (fC (.str "flood")))))
def sem_kind_in : List Dv → Option Dv := semP 0 fs_kind_in
def fs__law_names : Fs := (sSeq (sAsgO 2 (oOp oCat (fZ (oCB bList (aCons (fC (.str "abcdefghijklmnopqrstuvwxyz")) aNil))) (fZ (oLst (aCons (fC (.str "aa")) (aCons (fC (.str "ab")) (aCons (fC (.str "ba")) (aCons (fC (.str "zz")) (aCons (fC (.str "zzzzzzzz")) (aCons (fC (.str "all")) (aCons (fC (.str "flood")) (aCons (fC (.str "direct")) aNil)))))))))))) (sSeq (sAsgO 2 (oOp oCat (fVar 2) (fZ (oLst (aCons (fC (.str "silent")) (aCons (fC (.str "ring")) (aCons (fC (.str "send")) (aCons (fC (.str "undo")) (aCons (fC (.str "host")) (aCons (fC (.str "unknown")) aNil)))))))))) (sRet (fZ (oLc (itR1 (aCons (fVar 1) aNil)) (bName 3) tstYes (fOwnL 2 (fPopAt 2 (fCallM 2 0 sem__law_draw (aCons (fVar 0) (aCons (fCB bLen (aCons (fVar 2) aNil)) aNil))))) [3])))))
def sem__law_names : Dv → List Dv → Option (Dv × Dv) := semM 0 2 fs__law_names
def fs__law_frames : Fs := (sSeq (sParO 3 4 (oaConsE (fZ (oCB bSort (aCons (fVar 1) aNil))) (oaConsO (oLst aNil) oaNil))) (sSeq (sAsg (fOp oAdd (fC (.int 1)) (fCallM 2 0 sem__law_draw (aCons (fVar 0) (aCons (fCB bLen (aCons (fVar 3) aNil)) aNil)))) (bName 5)) (sSeq (sFor (itR1 (aCons (fOp oMul (fVar 2) (fCB bInt1 (aCons (fOp oGt (fCB bLen (aCons (fVar 3) aNil)) (fC (.int 1))) aNil))) aNil)) (bName 6) (sSeq (sAsg (fCallM 2 0 sem__law_draw (aCons (fVar 0) (aCons (fOp oIx (fZ (oLst (aCons (fCB bLen (aCons (fVar 3) aNil)) (aCons (fVar 5) aNil)))) (fCallM 2 0 sem__law_draw (aCons (fVar 0) (aCons (fC (.int 2)) aNil)))) aNil))) (bName 7)) (sSeq (sAsg (fOp oMod (fOp oAdd (fOp oAdd (fVar 7) (fC (.int 1))) (fCallM 2 0 sem__law_draw (aCons (fVar 0) (aCons (fOp oSub (fCB bLen (aCons (fVar 3) aNil)) (fC (.int 1))) aNil)))) (fCB bLen (aCons (fVar 3) aNil))) (bName 8)) (sDrop (fOwnL 4 (fApp 4 (fTup (aCons (fOp oIx (fVar 3) (fVar 7)) (aCons (fOp oIx (fVar 3) (fVar 8)) aNil))))))))) (sRetA 4))))
def sem__law_frames : List Dv → Option (Dv × List Dv) := semU [(.i .fl .fl), .f, .f] .fl 6 fs__law_frames
def fs_check_position : Fs := (sIf (tstNot (tstB (fCallP sem_is_position (ckLen 1 (aCons (fVar 0) aNil))))) sNever sNext)
def sem_check_position : List Dv → Option Dv := semP 0 fs_check_position
def fs_is_line : Fs := (sSeq (sIf (tstOr (tstNot (tstB (fIsi "dict" (fVar 0)))) (tstNot (tstB (fChain oLe oLe (fC (.int 1)) (fCB bLen (aCons (fVar 0) aNil)) (fC (.int (40))))))) (sRet (fC (.bl false))) sNext) (sSeq (sFor (itD .items 0) (bTup 2 (bsCons (bName 1) (bsCons (bName 2) bsNil))) (sIf (tstOr (tstNot (tstB (fCallP sem_is_name (ckLen 1 (aCons (fVar 1) aNil))))) (tstNot (tstB (fCallP sem_is_position (ckLen 1 (aCons (fVar 2) aNil)))))) (sRet (fC (.bl false))) sNext)) (sRet (fOp oEqX (fLenSet (fZ (oLV (fVar 0)))) (fCB bLen (aCons (fVar 0) aNil))))))
def sem_is_line : List Dv → Option Dv := semP 2 fs_is_line
def fs_is_known_interval : Fs := (sSeq (sIf (tstB (fOp oIs (fVar 2) (fC .non))) (sRet (fC (.bl true))) sNext) (sSeq (sIf (tstNot (tstB (fCallP sem_is_pair (ckLen 1 (aCons (fVar 2) aNil))))) (sRet (fC (.bl false))) sNext) (sSeq (sAsg (fVar 2) (bTup 2 (bsCons (bName 3) (bsCons (bName 4) bsNil)))) (sSeq (sAsg (fDGet (fVar 0) (fVar 1)) (bName 5)) (sSeq (sAsg (fOrV (fOp oIs (fVar 3) (fC .non)) (fAndV (fCallP sem_is_end (ckLen 2 (aCons (fVar 0) (aCons (fVar 3) aNil)))) (fOp oLe (fVar 3) (fVar 5)))) (bName 6)) (sSeq (sAsg (fOrV (fOp oIs (fVar 4) (fC .non)) (fAndV (fCallP sem_is_end (ckLen 2 (aCons (fVar 0) (aCons (fVar 4) aNil)))) (fOp oGe (fVar 4) (fVar 5)))) (bName 7)) (sRet (fAndV (fVar 6) (fVar 7)))))))))
def sem_is_known_interval : List Dv → Option Dv := semP 5 fs_is_known_interval
def fs_send_one : Fs := (sSeq (sAsg (fCallB 4 1 sem_kind_in (aCons (fVar 0) (aCons (fVar 1) (aCons (fVar 2) (aCons (fVar 3) aNil))))) (bName 4)) (sSeq (sAsg (fCallP sem_reach_of_kind (ckLen 3 (aCons (fVar 4) (aCons (fDGet (fVar 0) (fVar 2)) (aCons (fDGet (fVar 0) (fVar 3)) aNil))))) (bName 5)) (sSeq (sPut 1 (fVar 2) (fCallP sem_joined (ckLen 2 (aCons (fDGet (fVar 1) (fVar 2)) (aCons (fVar 5) aNil))))) (sRet (fTup (aCons (fVar 4) (aCons (fVar 5) aNil)))))))
def sem_send_one : Dv → List Dv → Option (Dv × Dv) := semM 1 2 fs_send_one
def fs__law_line : Fs := (sSeq (sAsg (fCallM 2 0 sem__law_draw (aCons (fVar 0) (aCons (fC (.int 4)) aNil))) (bName 2)) (sSeq (sPar 3 4 (aCons (fOp oIx (fZ (oLst (aCons (fC (.int 1)) (aCons (fC (.int 4)) (aCons (fOp oPow (fC (.int 10)) (fC (.int 28))) (aCons (fOp oMul (fC (.int 5)) (fOp oPow (fC (.int 10)) (fC (.int 28)))) aNil)))))) (fVar 2)) (aCons (fOp oIx (fZ (oLst (aCons (fNeg (fC (.int 2))) (aCons (fNeg (fC (.int 9))) (aCons (fNeg (fOp oPow (fC (.int 10)) (fC (.int 29)))) (aCons (fNeg (fOp oPow (fC (.int 10)) (fC (.int 30)))) aNil)))))) (fVar 2)) aNil))) (sSeq (sParO 5 6 (oaConsO (oLst aNil) (oaConsO (oLst aNil) oaNil))) (sSeq (sFor (itL (fCallM 2 0 sem__law_names (aCons (fVar 0) (aCons (fVar 1) aNil)))) (bName 7) (sSeq (sDrop (fOwnL 5 (fApp 5 (fTup (aCons (fVar 7) (aCons (fVar 4) aNil)))))) (sAsg (fOp oAdd (fOp oAdd (fVar 4) (fC (.int 1))) (fCallM 2 0 sem__law_draw (aCons (fVar 0) (aCons (fVar 3) aNil)))) (bName 4)))) (sSeq (wLoop (tstB (fOp oNeX (fVar 5) (fZ (oLst aNil)))) (sDrop (fOwnL 6 (fApp 6 (fOwnL 5 (fPopAt 5 (fCallM 2 0 sem__law_draw (aCons (fVar 0) (aCons (fCB bLen (aCons (fVar 5) aNil)) aNil)))))))) 100000) (sRetO (oCB bDict (aCons (fVar 6) aNil))))))))
def sem__law_line : List Dv → Option (Dv × List Dv) := semU [(.i .fl .fl), .f] .fl 6 fs__law_line
def fs_check_line : Fs := (sIf (tstNot (tstB (fCallP sem_is_line (ckLen 1 (aCons (fVar 0) aNil))))) sNever sNext)
def sem_check_line : List Dv → Option Dv := semP 0 fs_check_line
def fs_send_each : Fs := (sSeq (sAsgO 3 (oLst aNil)) (sSeq (sFor (itL (fVar 2)) (bTup 2 (bsCons (bName 4) (bsCons (bName 5) bsNil))) (sDrop (fOwnL 3 (fApp 3 (fCallM 4 1 sem_send_one (aCons (fVar 0) (aCons (fVar 1) (aCons (fVar 4) (aCons (fVar 5) aNil))))))))) (sRet (fVar 3))))
def sem_send_each : Dv → List Dv → Option (Dv × Dv) := semM 1 3 fs_send_each
def fs_is_state : Fs := (sSeq (sDrop (fCallP sem_check_line (ckLen 1 (aCons (fVar 0) aNil)))) (sSeq (sIf (tstNot (tstB (fCallP sem_has_hosts_of (ckLen 2 (aCons (fVar 0) (aCons (fVar 1) aNil)))))) (sRet (fC (.bl false))) sNext) (sRet (fCB bAll (aCons (fZ (oLc (itD .keys 0) (bName 2) tstYes (fCallP sem_is_known_interval (ckLen 3 (aCons (fVar 0) (aCons (fVar 2) (aCons (fDGet (fVar 1) (fVar 2)) aNil))))) [2])) aNil)))))
def sem_is_state : List Dv → Option Dv := semP 1 fs_is_state
def fs_is_frames : Fs := (sSeq (sDrop (fCallP sem_check_line (ckLen 1 (aCons (fVar 0) aNil)))) (sSeq (sIf (tstOr (tstNot (tstB (fCallP sem_is_list (ckLen 1 (aCons (fVar 1) aNil))))) (tstB (fOp oGt (fCB bLen (aCons (fVar 1) aNil)) (fC (.int (300)))))) (sRet (fC (.bl false))) sNext) (sRet (fCB bAll (aCons (fZ (oLc (itL (fVar 1)) (bName 2) tstYes (fCallP sem_is_frame (ckLen 2 (aCons (fVar 0) (aCons (fVar 2) aNil)))) [2])) aNil)))))
def sem_is_frames : List Dv → Option Dv := semP 1 fs_is_frames
def fs_check_state : Fs := (sIf (tstNot (tstB (fCallP sem_is_state (ckLen 2 (aCons (fVar 0) (aCons (fVar 1) aNil)))))) sNever sNext)
def sem_check_state : List Dv → Option Dv := semP 0 fs_check_state
def fs_check_frames : Fs := (sIf (tstNot (tstB (fCallP sem_is_frames (ckLen 2 (aCons (fVar 0) (aCons (fVar 1) aNil)))))) sNever sNext)
def sem_check_frames : List Dv → Option Dv := semP 0 fs_check_frames
def fs_starting_state : Fs := (sSeq (sIf (tstB (fOp oIs (fVar 1) (fC .non))) (sRetO (oCall sem_silent_state (ckLen 1 (aCons (fVar 0) aNil)))) sNext) (sSeq (sDrop (fCallP sem_check_state (ckLen 2 (aCons (fVar 0) (aCons (fVar 1) aNil))))) (sRetO (oCB bDict (aCons (fVar 1) aNil)))))
def sem_starting_state : List Dv → Option Dv := semO 0 fs_starting_state
def fs_kinds_of : Fs := (sSeq (sDrop (fCallP sem_check_frames (ckLen 2 (aCons (fVar 0) (aCons (fVar 1) aNil))))) (sSeq (sAsg (fCallMO 3 1 sem_send_each (oaConsE (fVar 0) (oaConsO (oCall sem_starting_state (ckLen 2 (aCons (fVar 0) (aCons (fVar 2) aNil)))) (oaConsE (fVar 1) oaNil)))) (bName 3)) (sRetO (oLc (itL (fVar 3)) (bTup 2 (bsCons (bName 4) (bsCons (bName 5) bsNil))) tstYes (fVar 4) [4, 5]))))
def sem_kinds_of : List Dv → Option Dv := semO 3 fs_kinds_of
def fs_known_after : Fs := (sSeq (sDrop (fCallP sem_check_frames (ckLen 2 (aCons (fVar 0) (aCons (fVar 1) aNil))))) (sSeq (sAsgO 3 (oCall sem_starting_state (ckLen 2 (aCons (fVar 0) (aCons (fVar 2) aNil))))) (sSeq (sDrop (fCallM 3 1 sem_send_each (aCons (fVar 0) (aCons (fVar 3) (aCons (fVar 1) aNil))))) (sFrz 3 (sRetO (oDc (itL (fZ (oCB bSort (aCons (fVar 3) aNil)))) (bName 4) tstYes (fVar 4) (fDGet (fVar 3) (fVar 4)) [4]))))))
def sem_known_after : List Dv → Option Dv := semO 2 fs_known_after
def fs_heard_at : Fs := (sSeq (sDrop (fCallP sem_check_frames (ckLen 2 (aCons (fVar 0) (aCons (fVar 1) aNil))))) (sSeq (sDrop (fCallP sem_check_position (ckLen 1 (aCons (fVar 2) aNil)))) (sSeq (sAsg (fCallMO 3 1 sem_send_each (oaConsE (fVar 0) (oaConsO (oCall sem_starting_state (ckLen 2 (aCons (fVar 0) (aCons (fVar 3) aNil)))) (oaConsE (fVar 1) oaNil)))) (bName 4)) (sRet (fZ (oLc (itE (aCons (fVar 4) aNil)) (bTup 2 (bsCons (bName 5) (bsCons (bTup 2 (bsCons (bName 6) (bsCons (bName 7) bsNil))) bsNil))) (tstB (fCallP sem_contains (ckLen 2 (aCons (fVar 7) (aCons (fVar 2) aNil))))) (fVar 5) [5, 6, 7]))))))
def sem_heard_at : List Dv → Option Dv := semP 4 fs_heard_at
def fs_kinds_in_round : Fs := (sSeq (sDrop (fCallP sem_check_frames (ckLen 2 (aCons (fVar 0) (aCons (fVar 1) aNil))))) (sSeq (sDrop (fCallP sem_check_number (ckLen 3 (aCons (fVar 2) (aCons (fC (.int 0)) (aCons (fC (.int (1000000000000000000000000000000))) aNil)))))) (sSeq (sIf (tstB (fOp oEqX (fVar 2) (fC (.int 0)))) (sRet (fZ (oCall sem_kinds_of (ckLen 3 (aMore [.non] (aCons (fVar 0) (aCons (fVar 1) aNil))))))) sNext) (sRet (fZ (oCall sem_kinds_of (ckLen 3 (aAppN 2 1 (aCons (fVar 0) (aCons (fVar 1) aNil)) (aCons (fZ (oCall sem_known_after (ckLen 3 (aMore [.non] (aCons (fVar 0) (aCons (fVar 1) aNil)))))) aNil)))))))))
def sem_kinds_in_round : List Dv → Option Dv := semP 0 fs_kinds_in_round
def fs_load_after : Fs := (sSeq (sDrop (fCallP sem_check_frames (ckLen 2 (aCons (fVar 0) (aCons (fVar 1) aNil))))) (sSeq (sDrop (fCallP sem_check_number (ckLen 3 (aCons (fVar 2) (aCons (fC (.int 0)) (aCons (fC (.int (1000000000000000000000000000000))) aNil)))))) (sSeq (sDrop (fCallP sem_check_position (ckLen 1 (aCons (fVar 3) aNil)))) (sSeq (sIf (tstB (fOp oEqX (fVar 2) (fC (.int 0)))) (sRet (fC (.int 0))) sNext) (sSeq (sAsg (fCallP sem_heard_at (ckLen 4 (aMore [.non] (aCons (fVar 0) (aCons (fVar 1) (aCons (fVar 3) aNil)))))) (bName 4)) (sSeq (sAsg (fCallP sem_heard_at (ckLen 4 (aAppN 3 1 (aCons (fVar 0) (aCons (fVar 1) (aCons (fVar 3) aNil))) (aCons (fZ (oCall sem_known_after (ckLen 3 (aMore [.non] (aCons (fVar 0) (aCons (fVar 1) aNil)))))) aNil)))) (bName 5)) (sRet (fOp oAdd (fCB bLen (aCons (fVar 4) aNil)) (fOp oMul (fCB bLen (aCons (fVar 5) aNil)) (fOp oSub (fVar 2) (fC (.int 1))))))))))))
def sem_load_after : List Dv → Option Dv := semP 2 fs_load_after
def fs__law_right : Fs := (sSeq (sAsg (fZ (oSV (fVar 0))) (bName 2)) (sSeq (sAsg (fZ (oLstR2 (fOp oSub (fOp oIx (fVar 2) (fC (.int 0))) (fC (.int 3))) (fOp oAdd (fOp oIx (fVar 2) (fNeg (fC (.int 1)))) (fC (.int 4))))) (bName 3)) (sSeq (sTupO [4, 5] (oaConsO (oCB bDict (aCons (fZ (oLc (itD .keys 0) (bName 12) tstYes (fTup (aCons (fVar 12) (aCons (fZ (oLst aNil)) aNil))) [12])) aNil)) (oaConsO (oCB bDict (aCons (fZ (oLc (itL (fVar 3)) (bName 11) tstYes (fTup (aCons (fVar 11) (aCons (fC (.int 0)) aNil))) [11])) aNil)) oaNil))) (sSeq (sFor (itR1 (aCons (fC (.int 3)) aNil)) (bName 6) (sSeq (sAsgO 7 (oLst aNil)) (sSeq (sFor (itL (fVar 1)) (bTup 2 (bsCons (bName 8) (bsCons (bName 9) bsNil))) (sSeq (sAsg (fCallP sem__law_passed (ckLen 4 (aCons (fVar 3) (aCons (fDGet (fVar 4) (fVar 9)) (aCons (fDGet (fVar 0) (fVar 8)) (aCons (fDGet (fVar 0) (fVar 9)) aNil)))))) (bName 10)) (sSeq (sDrop (fOwnL 7 (fApp 7 (fCallP sem__law_kind (ckLen 2 (aCons (fDGet (fVar 4) (fVar 9)) (aCons (fDGet (fVar 0) (fVar 8)) aNil))))))) (sSeq (sPut 4 (fVar 8) (fZ (oOp oCat (fDGet (fVar 4) (fVar 8)) (fZ (oLc (itL (fVar 10)) (bName 11) (tstB (fOp oNotInF (fVar 11) (fDGet (fVar 4) (fVar 8)))) (fVar 11) [11]))))) (sFor (itL (fVar 10)) (bName 11) (sPut 5 (fVar 11) (fOp oAdd (fDGet (fVar 5) (fVar 11)) (fC (.int 1))))))))) (sSeq (sIf (tstB (fOp oNeX (fCallP sem_kinds_in_round (ckLen 3 (aCons (fVar 0) (aCons (fVar 1) (aCons (fVar 6) aNil))))) (fVar 7))) (sRet (fC (.bl false))) sNext) (sIf (tstB (fOp oNeX (fZ (oLc (itL (fVar 3)) (bName 11) tstYes (fCallP sem_load_after (ckLen 4 (aCons (fVar 0) (aCons (fVar 1) (aCons (fOp oAdd (fVar 6) (fC (.int 1))) (aCons (fVar 11) aNil)))))) [11])) (fZ (oLc (itL (fVar 3)) (bName 11) tstYes (fDGet (fVar 5) (fVar 11)) [11])))) (sRet (fC (.bl false))) sNext))))) (sRet (fC (.bl true)))))))
def sem__law_right : List Dv → Option Dv := semP 11 fs__law_right
def fs_law : Fs := (sSeq (sAsgO 1 (oCall sem__law_spring (ckLen 1 (aCons (fVar 0) aNil)))) (sSeq (sFor (itR1 (aCons (fOp oAdd (fC (.int 4)) (fOp oMul (fC (.int 2)) (fCB bMin2 (aCons (fC (.int 5)) (aCons (fCB bLen (aCons (fVar 0) aNil)) aNil))))) aNil)) (bName 2) (sSeq (sParO 3 4 (oaConsE (fZ (oCallU [(.i .fl .fl), .f] sem__law_line (uaE (fVar 1) (uaE (fOp oAdd (fC (.int 1)) (fCallM 2 0 sem__law_draw (aCons (fVar 1) (aCons (fC (.int 5)) aNil)))) uaNil)))) (oaConsO oDNew oaNil))) (sSeq (sFor (itE (aCons (fZ (oCB bSort (aCons (fVar 3) aNil))) aNil)) (bTup 2 (bsCons (bName 5) (bsCons (bName 6) bsNil))) (sPut 4 (fVar 6) (fOp oSub (fOp oAdd (fOp oMul (fC (.int 3)) (fOp oMod (fOp oAdd (fOp oMul (fVar 5) (fC (.int 2))) (fVar 2)) (fC (.int 5)))) (fCallM 2 0 sem__law_draw (aCons (fVar 1) (aCons (fC (.int 3)) aNil)))) (fC (.int 7))))) (sFrz 4 (sIf (tstNot (tstB (fCallP sem__law_right (ckLen 2 (aCons (fVar 4) (aCons (fZ (oCallU [(.i .fl .fl), .f, .f] sem__law_frames (uaE (fVar 1) (uaE (fVar 4) (uaE (fCallM 2 0 sem__law_draw (aCons (fVar 1) (aCons (fC (.int 13)) aNil))) uaNil))))) aNil)))))) (sRet (fC (.bl false))) sNext))))) (sRet (fCallP sem__law_right (ckLen 2 (aCons (fZ (oDisp (psCons (fC (.str "a")) (fC (.int 0)) (psCons (fC (.str "b")) (fC (.int 2)) (psCons (fC (.str "c")) (fC (.int 1)) psNil))))) (aCons (fZ (oLst (aCons (fTup (aCons (fC (.str "a")) (aCons (fC (.str "b")) aNil))) (aCons (fTup (aCons (fC (.str "b")) (aCons (fC (.str "a")) aNil))) (aCons (fTup (aCons (fC (.str "c")) (aCons (fC (.str "b")) aNil))) (aCons (fTup (aCons (fC (.str "a")) (aCons (fC (.str "c")) aNil))) (aCons (fTup (aCons (fC (.str "b")) (aCons (fC (.str "c")) aNil))) aNil))))))) aNil)))))))
def sem_law : List Dv → Option Dv := semP 6 fs_law
local macro_rules | `(tactic| walk_at "fd") => `(tactic| simp only [semP, semO, semM, env0, envM, semU, envU, slS, resU, outU, getS, oCallU, uaNil, uaE, uaN, takeU, backU, sAsgN, sRetT, oMov, sFrzN, setUv, sTupU, sParU, shsU, oTupU, setSh, sUnpN, oAtN, oDv, fBest, bAbs, oSV, sSeq, sIf, sRet, sRetO, sRetA, sRetN, sNext, sNever, sDrop, sAsg, sAsgO, sFrz, sPar, sPar3, sParO, sPar3O, sTupO, setOv, oaNil, oaConsE, oaConsO, sAug, sPut, sSetL, sFor, sBreak, sCont,
  bName, bTup, bsCons, bsNil, tstB, tstNot, tstAnd, tstOr, tstYes, tstTru, got, Rv.get, fVar, fC, fOp, oOp, fZ, aNil, aCons, fTup, oLst, rvData, fAndV, fOrV, fNotV, fIfE, fChain, fIsi, noT, tyN, fTyEq, fCB, oCB, getAll, fDGet, two, getD, keyOf, fDIn, oSl, pNo, pAt, cutA, fNeg,
  oAdd, oCat, oSub, oLt, oLe, oGt, oGe, oIs, oIsNot, isNon, oIx, eq_ii, ne_ii, eq_ss, ne_ss, at0, at1, at2, at3, ix40, ix42, ix43, ix30, ix31, ix32, bLen, bMin2, bMax2, bInt1, fCallP, oCall, ckLen, fCallM, fCallMO, fCallB, flatD, ovData, fOwnL, ownL, ownD, fApp, fPop0, fPopAt, fDPop, itL, itT, itS, itD, itR1, itE, itZ, oDNew, oDisp, psNil, psCons, aMore, aAppN, oLV, oLstR2, oItems, oRev,
  List.length_cons, List.length_nil, List.getElem?_cons_zero, List.getElem?_cons_succ, List.set_cons_zero, List.set_cons_succ, List.map_cons, List.map_nil, List.replicate, List.append_nil, List.nil_append, List.cons_append, List.take_zero, List.drop_zero, List.take_succ_cons, List.drop_succ_cons, List.eraseIdx_zero, List.tail_cons, List.eraseIdx_cons_succ, List.eraseIdx_cons_zero, List.take_nil, List.drop_nil, wipeD,
  and_self, Bool.not_true, Bool.not_false, if_true, if_false, ite_true, ite_false, decide_true, decide_false, Nat.reduceAdd, Nat.reduceSub, Nat.reduceLT, Nat.reduceLeDiff, Bool.false_eq_true, Bool.true_eq_false, reduceCtorEq, beq_self_eq_true, eq_self, Bool.false_xor, Bool.true_xor, Option.isSome_some, Option.isSome_none, isT_0, isT_1, isT_2, isT_3, isT_4, isT_5, isT_6, isT_7, isT_8, isT_9, isT_10, isT_11, isT_12, isT_13, isT_14, isT_15, isT_16, isT_17, isT_18, isT_19, isT_20, isT_21, isT_22, isT_23, isT_24, isT_25, isT_26, isT_27, isT_28, isT_29, isT_30, isT_31, isT_32, isT_33, isT_34, isT_35, isT_36, isT_37, isT_38, isT_39, isT_40, isT_41, tyE_0, tyE_1, tyE_2, tyE_3, tyE_4, tyE_5, tyE_6, tyE_7, tyE_8, tyE_9, tyE_10, tyE_11, tyE_12, tyE_13, tyE_14, tyE_15, tyE_16, tyE_17, tyE_18, tyE_19, tyE_20, tyE_21, tyE_22, tyE_23, tyE_24, tyE_25, tyE_26, tyE_27, tyE_28, tyE_29, tyE_30, tyE_31, tyE_32, tyE_33, tyE_34, tyE_35, tyE_36, tyE_37, tyE_38, tyE_39, tyE_40, tyE_41, tyE_42, tyE_43, tyE_44, tyE_45, tyE_46, tyE_47, tyE_48, Bool.and_true, Bool.true_and, Bool.and_false, Bool.false_and, Bool.or_true, Bool.true_or, Bool.or_false, Bool.false_or])
local macro_rules | `(tactic| walk_at "fdh") => `(tactic| simp only [*, semP, semO, semM, env0, envM, semU, envU, slS, resU, outU, getS, oCallU, uaNil, uaE, uaN, takeU, backU, sAsgN, sRetT, oMov, sFrzN, setUv, sTupU, sParU, shsU, oTupU, setSh, sUnpN, oAtN, oDv, fBest, bAbs, oSV, sSeq, sIf, sRet, sRetO, sRetA, sRetN, sNext, sNever, sDrop, sAsg, sAsgO, sFrz, sPar, sPar3, sParO, sPar3O, sTupO, setOv, oaNil, oaConsE, oaConsO, sAug, sPut, sSetL, sFor, sBreak, sCont,
  bName, bTup, bsCons, bsNil, tstB, tstNot, tstAnd, tstOr, tstYes, tstTru, got, Rv.get, fVar, fC, fOp, oOp, fZ, aNil, aCons, fTup, oLst, rvData, fAndV, fOrV, fNotV, fIfE, fChain, fIsi, noT, tyN, fTyEq, fCB, oCB, getAll, fDGet, two, getD, keyOf, fDIn, oSl, pNo, pAt, cutA, fNeg,
  oAdd, oCat, oSub, oLt, oLe, oGt, oGe, oIs, oIsNot, isNon, oIx, eq_ii, ne_ii, eq_ss, ne_ss, at0, at1, at2, at3, ix40, ix42, ix43, ix30, ix31, ix32, bLen, bMin2, bMax2, bInt1, fCallP, oCall, ckLen, fCallM, fCallMO, fCallB, flatD, ovData, fOwnL, ownL, ownD, fApp, fPop0, fPopAt, fDPop, itL, itT, itS, itD, itR1, itE, itZ, oDNew, oDisp, psNil, psCons, aMore, aAppN, oLV, oLstR2, oItems, oRev,
  List.length_cons, List.length_nil, List.getElem?_cons_zero, List.getElem?_cons_succ, List.set_cons_zero, List.set_cons_succ, List.map_cons, List.map_nil, List.replicate, List.append_nil, List.nil_append, List.cons_append, List.take_zero, List.drop_zero, List.take_succ_cons, List.drop_succ_cons, List.eraseIdx_zero, List.tail_cons, List.eraseIdx_cons_succ, List.eraseIdx_cons_zero, List.take_nil, List.drop_nil, wipeD,
  and_self, Bool.not_true, Bool.not_false, if_true, if_false, ite_true, ite_false, decide_true, decide_false, Nat.reduceAdd, Nat.reduceSub, Nat.reduceLT, Nat.reduceLeDiff, Bool.false_eq_true, Bool.true_eq_false, reduceCtorEq, beq_self_eq_true, eq_self, Bool.false_xor, Bool.true_xor, Option.isSome_some, Option.isSome_none, isT_0, isT_1, isT_2, isT_3, isT_4, isT_5, isT_6, isT_7, isT_8, isT_9, isT_10, isT_11, isT_12, isT_13, isT_14, isT_15, isT_16, isT_17, isT_18, isT_19, isT_20, isT_21, isT_22, isT_23, isT_24, isT_25, isT_26, isT_27, isT_28, isT_29, isT_30, isT_31, isT_32, isT_33, isT_34, isT_35, isT_36, isT_37, isT_38, isT_39, isT_40, isT_41, tyE_0, tyE_1, tyE_2, tyE_3, tyE_4, tyE_5, tyE_6, tyE_7, tyE_8, tyE_9, tyE_10, tyE_11, tyE_12, tyE_13, tyE_14, tyE_15, tyE_16, tyE_17, tyE_18, tyE_19, tyE_20, tyE_21, tyE_22, tyE_23, tyE_24, tyE_25, tyE_26, tyE_27, tyE_28, tyE_29, tyE_30, tyE_31, tyE_32, tyE_33, tyE_34, tyE_35, tyE_36, tyE_37, tyE_38, tyE_39, tyE_40, tyE_41, tyE_42, tyE_43, tyE_44, tyE_45, tyE_46, tyE_47, tyE_48, Bool.and_true, Bool.true_and, Bool.and_false, Bool.false_and, Bool.or_true, Bool.true_or, Bool.or_false, Bool.false_or])

theorem l_is_integer (i : Int) : sem_is_integer [.int i] = some (.bl true) := by
  unfold sem_is_integer fs_is_integer
  walk_at "fd"
theorem l_is_name {z : Str} (h : nmStr z = true) : sem_is_name [.str z] = some (.bl true) := by
  obtain ⟨h1, h2⟩ := nm_len h
  unfold sem_is_name fs_is_name
  walk_at "fd"
  have q1 : z.length ≤ 1000000 := by omega
  have q2 : (1 : Int) ≤ (z.length : Int) := by omega
  have q3 : (z.length : Int) ≤ 8 := by omega
  walk_at "fdh"
  rw [oLc_all (fun _ => .bl true) (δ1 := [Sl.sh (.str z), .no]) (ds := signD z) rfl (by unfold signD; rw [List.length_map, Array.length_toList]; show z.length ≤ _; omega)]
  · simp only [getAll, Rv.get]
    rw [bAll_true]
  · intro d hd
    obtain ⟨c, hc, rfl⟩ := List.mem_map.mp hd
    unfold nmStr at h
    rw [Bool.and_eq_true] at h
    have hcc := of_decide_eq_true ((List.all_eq_true.mp h.2) c hc)
    refine ⟨[Sl.sh (.str z), .sh (.str ⟨#[c]⟩)], rfl, ?_, rfl⟩
    have e1 : ltS ⟨#[c]⟩ (Str.ofString "a") = false := by
      show decide ([c] < [97]) = false
      refine decide_eq_false fun q => ?_
      rcases List.lex_lt.mp q |> fun _ => (List.cons_lt_cons_iff.mp q) with q | ⟨_, q⟩
      · omega
      · exact List.not_lt_nil _ q
    have e2 : ltS (Str.ofString "z") ⟨#[c]⟩ = false := by
      show decide ([122] < [c]) = false
      refine decide_eq_false fun q => ?_
      rcases List.cons_lt_cons_iff.mp q with q | ⟨_, q⟩
      · omega
      · exact List.not_lt_nil _ q
    walk_at "fdh"
theorem l_is_list (ds : List Dv) : sem_is_list [.lst ds] = some (.bl true) := by
  unfold sem_is_list fs_is_list
  walk_at "fd"
theorem l_is_pair (a b : Dv) : sem_is_pair [.tup [a, b]] = some (.bl true) := by
  unfold sem_is_pair fs_is_pair
  walk_at "fd"
  rfl
theorem l_contains (s : Span) (p : Int) : sem_contains [encS s, .int p] = some (.bl (inSpan s p)) := by
  unfold sem_contains fs_contains
  rcases s with _ | ⟨_ | l, _ | h⟩
  · simp only [encS]; walk_at "fd"; rfl
  · simp only [encS, encO]; walk_at "fd"; rfl
  · simp only [encS, encO]
    by_cases q : p ≤ h <;> walk_at "fdh" <;> simp [inSpan, lowOk, highOk, q]
  · simp only [encS, encO]
    by_cases q : l ≤ p <;> walk_at "fdh" <;> simp [inSpan, lowOk, highOk, q]
  · simp only [encS, encO]
    by_cases q : l ≤ p <;> by_cases r : p ≤ h <;> walk_at "fdh" <;> simp [inSpan, lowOk, highOk, q, r]
theorem l_joined (s : Span) (r : Option Int × Option Int) : sem_joined [encS s, encS (some r)] = some (encS (some (joinS s r))) := by
  unfold sem_joined fs_joined
  rcases s with _ | ⟨_ | l, _ | h⟩ <;> rcases r with ⟨_ | l', _ | h'⟩ <;> simp only [encS, encO] <;> walk_at "fd" <;> rfl
theorem l_has_hosts_of {ks : List (Str × Int)} {es : List (Str × Span)} (hk : LineOk ks) (h : StOk ks es) : sem_has_hosts_of [.dct (kvL ks), .dct (kvS es)] = some (.bl true) := by
  unfold sem_has_hosts_of fs_has_hosts_of
  have l2 := hk.len2
  walk_at "fd"
  rw [len_kvL, len_kvS, h.len]
  walk_at "fd"
  rw [oLc_all (fun _ => .bl true) (δ1 := [Sl.sh (.dct (kvL ks)), .sh (.dct (kvS es)), .no]) (ds := Way.ds .keys (kvL ks)) rfl (by show (List.map _ _).length ≤ _; rw [List.length_map, len_kvL]; omega)]
  · simp only [getAll, Rv.get]
    rw [bAll_true]
  · intro d hd
    obtain ⟨x, hx, rfl⟩ := List.mem_map.mp hd
    obtain ⟨p, hp, rfl⟩ := List.mem_map.mp hx
    have e := (spOf_look hk h (z := p.1) (List.mem_map.mpr ⟨p, hp, rfl⟩)).1
    refine ⟨[Sl.sh (.dct (kvL ks)), .sh (.dct (kvS es)), .sh (.str p.1)], rfl, ?_, rfl⟩
    walk_at "fdh"
theorem l_is_host {ks : List (Str × Int)} (hk : LineOk ks) {z : Str} (h : z ∈ ks.map (·.1)) : sem_is_host [.dct (kvL ks), .str z] = some (.bl true) := by
  unfold sem_is_host fs_is_host
  have e := lookK_line (posOf_in h) hk.ndn
  walk_at "fdh"
theorem l_silent_state {ks : List (Str × Int)} (hk : LineOk ks) : sem_silent_state [.dct (kvL ks)] = some (.dct (kvS (silE ks))) := by
  have l2 := hk.len2
  unfold sem_silent_state fs_silent_state
  walk_at "fd"
  rw [oDc_all (δ1 := [Sl.sh (.dct (kvL ks)), .no]) (ds := Way.ds .keys (kvL ks)) (fun d => d) (fun d => (keyOf d).getD (.inl 0)) (fun _ => .non) rfl (by show (List.map _ _).length ≤ _; rw [List.length_map, len_kvL]; omega)]
  · simp only [Way.ds, List.map_map, kvL, kvS, silE]
    rfl
  · intro d hd
    obtain ⟨x, hx, rfl⟩ := List.mem_map.mp hd
    obtain ⟨p, hp, rfl⟩ := List.mem_map.mp hx
    exact ⟨[Sl.sh (.dct (kvL ks)), .sh (.str p.1)], rfl, rfl, rfl, rfl, rfl⟩
  · simp only [Way.ds, List.map_map, kvL]
    have : (fun p : Str × Int => (Sum.inr p.1 : Key)) = Sum.inr ∘ (·.1) := rfl
    show (ks.map fun p => (Sum.inr p.1 : Key)).Nodup
    rw [this, ← List.map_map]
    exact List.Pairwise.map _ (fun a b h e => h (Sum.inr.inj e)) hk.ndn
theorem l_reach_of_kind (s : Span) (b t : Int) : sem_reach_of_kind [.str (kindS s b), .int b, .int t] = some (encS (some (reachS s b t))) := by
  unfold sem_reach_of_kind fs_reach_of_kind
  have n1 : ¬ (Str.ofString "direct") = Str.ofString "all" := by decide
  have n2 : ¬ (Str.ofString "flood") = Str.ofString "all" := by decide
  have n3 : ¬ (Str.ofString "flood") = Str.ofString "direct" := by decide
  rcases s with _ | s
  · simp only [kindS, reachS, encS, encO]
    walk_at "fd"
  · simp only [kindS, reachS]
    by_cases q : inSpan (some s) b = true
    · rw [if_pos q, if_pos q]
      simp only [encS, encO]
      walk_at "fdh"
    · rw [if_neg q, if_neg q]
      by_cases r : b < t
      · rw [if_pos r]
        simp only [encS, encO]
        walk_at "fdh"
      · rw [if_neg r]
        simp only [encS, encO]
        walk_at "fdh"
theorem l__law_spring {ns : List Int} (hl : ns.length ≤ 63) : ∃ G, sem__law_spring [.scr ns] = some (encG G) ∧ SgOk G ∧ G.n = 0 := by
  have cut : cutD (ns.map Dv.int) none (some 63) = ns.map Dv.int := by
    rw [show (63 : Int) = ((63 : Nat) : Int) from rfl, cutD_take, List.take_of_length_le (by rw [List.length_map]; exact hl)]
  have q18 := p18
  have q60 : oPow (.int 10) (.int 60) = some (.int (10 ^ 60)) := (oPow_ok (by decide)).trans (congrArg (fun i => some (Dv.int i)) (by decide +kernel))
  unfold sem__law_spring fs__law_spring
  walk_at "fdh"
  generalize hL : fLoop _ _ _ _ = X
  obtain ⟨δ', rfl, D, s, v3, rfl, d0, d1, s0, s1⟩ : ∃ δ', X = some (.nx, δ') ∧ ∃ D s v3, δ' = [Sl.sh (.scr ns), .sh (.int D), .sh (.int s), v3] ∧ 0 ≤ D ∧ D < ((10 : Int) ^ 60) ^ (ns.map Dv.int).length ∧ 0 ≤ s ∧ s < 2305843009213693951 := by
    rw [← hL]
    refine fLoop_inv (fun i δ => ∃ D s v3, δ = [Sl.sh (.scr ns), .sh (.int D), .sh (.int s), v3] ∧ 0 ≤ D ∧ D < ((10 : Int) ^ 60) ^ i ∧ 0 ≤ s ∧ s < 2305843009213693951) ⟨0, 90247, _, rfl, by decide, by decide, by decide, by decide⟩ ?_
    rintro i d δ hd ⟨D, s, v3, rfl, d0, d1, s0, s1⟩
    have hi : i < ns.length := by
      have := (List.getElem?_eq_some_iff.mp hd).1
      rwa [List.length_map] at this
    obtain ⟨c, hc, rfl⟩ := List.mem_map.mp (List.mem_of_getElem? hd)
    have m1 : oMul (.int D) (.int (10 ^ 60)) = some (.int (D * 10 ^ 60)) := oMul_big (Nat.lt_trans (log_BIG (digits_lt (Nat.le_trans (Nat.le_of_lt hi) hl) d0 d1)) (by decide)) (small_log (by decide) (by decide))
    have m2 : oMul (.int s) (.int 69069) = some (.int (s * 69069)) := oMul_big (small_log s0 (Int.lt_trans s1 (by decide))) (small_log (by decide) (by decide))
    have o1 : oMod (.int c) (.int 2305843009213693921) = some (.int (c % 2305843009213693921)) := oMod_ok (by decide)
    have o2 : oMod (.int (s * 69069 + c % 2305843009213693921 + 13)) (.int 2305843009213693951) = some (.int ((s * 69069 + c % 2305843009213693921 + 13) % 2305843009213693951)) := oMod_ok (by decide)
    have b0 : 0 ≤ (s * 69069 + c % 2305843009213693921 + 13) % 2305843009213693951 := Int.emod_nonneg _ (by decide)
    have b1 : (s * 69069 + c % 2305843009213693921 + 13) % 2305843009213693951 < 2305843009213693951 := Int.emod_lt_of_pos _ (by decide)
    generalize eS : (s * 69069 + c % 2305843009213693921 + 13) % 2305843009213693951 = S at *
    have o3 : oMod (.int (if c < 0 then -c else c)) (.int (10 ^ 60)) = some (.int ((if c < 0 then -c else c) % 10 ^ 60)) := oMod_ok (by decide)
    have hB := spring_digits (c := if c < 0 then -c else c) d0 d1
    have dB := spring_grow d1
    obtain ⟨A, hA⟩ : ∃ A, (if c < 0 then -c else c) = A := ⟨_, rfl⟩
    rw [hA] at hB o3
    generalize (10 : Int) ^ 60 = T at *
    generalize T ^ (i + 1) = P at *
    by_cases hc18 : 1000000000000000000 ≤ A
    · refine ⟨[Sl.sh (.scr ns), .sh (.int D), .sh (.int s), .sh (.int c)], [Sl.sh (.scr ns), .sh (.int (D * T + A % T)), .sh (.int S), .sh (.int c)], rfl, ?_, _, _, _, rfl, hB.1, hB.2, b0, b1⟩
      clear hB dB d1 d0 hL
      walk_at "fdh"
    · refine ⟨[Sl.sh (.scr ns), .sh (.int D), .sh (.int s), .sh (.int c)], [Sl.sh (.scr ns), .sh (.int D), .sh (.int S), .sh (.int c)], rfl, ?_, _, _, _, rfl, d0, dB, b0, b1⟩
      clear hB dB d1 d0 hL
      walk_at "fdh"
  refine ⟨⟨D, s, 0⟩, ?_, ⟨d0, digits_lt (by rw [List.length_map]; exact hl) d0 d1, s0, s1⟩, rfl⟩
  clear hL d1
  walk_at "fdh"
  rfl
theorem l__law_draw {G : Sg} {m : Int} (ok : SgOk G) (hm : 0 < m) (hm2 : m < 2 ^ 100) (hn : G.n < 1000000000) :
    ∃ d G', sem__law_draw (encG G) [.int m] = some (.int d, encG G') ∧ 0 ≤ d ∧ d < m ∧ SgOk G' ∧ G'.n ≤ G.n + 1 := by
  obtain ⟨digits, seed, n⟩ := G
  have d0 := ok.d0
  have dl := ok.dl
  have s0 := ok.s0
  have s1 := ok.s1
  dsimp only at d0 dl s0 s1 hn
  have hm3 : m < 2 ^ 250 := Int.lt_trans hm2 (by decide)
  by_cases h : digits > 0
  · have f1 : oFdv (.int digits) (.int m) = some (.int (digits / m)) := oFdv_ok hm hm3
    have f2 : oMod (.int digits) (.int m) = some (.int (digits % m)) := oMod_ok hm
    have hd : 0 ≤ digits / m ∧ digits / m ≤ digits := ⟨Int.ediv_nonneg d0 (by omega), Int.ediv_le_self _ d0⟩
    refine ⟨digits % m, ⟨digits / m, seed, n⟩, ?_, Int.emod_nonneg _ (by omega), Int.emod_lt_of_pos _ hm, ⟨hd.1, ?_, s0, s1⟩, by show n ≤ n + 1; omega⟩
    · unfold sem__law_draw fs__law_draw encG
      walk_at "fdh"
    · show (digits / m).natAbs < BIG
      omega
  · have sb : seed.natAbs.log2 < 20000 := small_log s0 (Int.lt_trans s1 (by decide))
    have m1 : oMul (.int seed) (.int seed) = some (.int (seed * seed)) := oMul_big sb sb
    have o1 : oMod (.int (seed * seed)) (.int 2305843009213693951) = some (.int (seed * seed % 2305843009213693951)) := oMod_ok (by decide)
    have nb : (((n : Int) + 1)).natAbs.log2 < 20000 := small_log (by omega) (Int.lt_trans (show (n : Int) + 1 < 1000000001 by omega) (by decide))
    have m2 : oMul (.int 6151) (.int ((n : Int) + 1)) = some (.int (6151 * ((n : Int) + 1))) := oMul_big (small_log (by decide) (by decide)) nb
    have m3 : oMul (.int (6151 * ((n : Int) + 1))) (.int seed) = some (.int (6151 * ((n : Int) + 1) * seed)) := oMul_big (small_log (by omega) (Int.lt_trans (show 6151 * ((n : Int) + 1) < 6151 * 1000000001 by omega) (by decide))) sb
    generalize eT : seed * seed % 2305843009213693951 + 6151 * ((n : Int) + 1) * seed + 103049 = T
    have o2 : oMod (.int T) (.int 2305843009213693951) = some (.int (T % 2305843009213693951)) := oMod_ok (by decide)
    have b0 : 0 ≤ T % 2305843009213693951 := Int.emod_nonneg _ (by decide)
    have b1 : T % 2305843009213693951 < 2305843009213693951 := Int.emod_lt_of_pos _ (by decide)
    generalize T % 2305843009213693951 = S at o2 b0 b1
    have f1 : oFdv (.int S) (.int 65539) = some (.int (S / 65539)) := oFdv_ok (by decide) (by decide)
    have f2 : oMod (.int (S / 65539)) (.int m) = some (.int ((S / 65539) % m)) := oMod_ok hm
    refine ⟨(S / 65539) % m, ⟨digits, S, n + 1⟩, ?_, Int.emod_nonneg _ (by omega), Int.emod_lt_of_pos _ hm, ⟨d0, dl, b0, b1⟩, Nat.le_refl _⟩
    unfold sem__law_draw fs__law_draw encG
    clear ok dl
    walk_at "fdh"
    rfl
theorem l__law_passed {win N : List Int} {ra rb s g : Int} (hs : ra ≤ s ∧ s ≤ rb) (hb : rb - ra ≤ 1000)
    (HR : ∀ b, s ≤ b → b ≤ rb → ((b + 1 ∈ win ∧ (b ∉ N ∨ g > b)) ↔ b + 1 ≤ rb)) (HL : ∀ a, ra ≤ a → a ≤ s → ((a - 1 ∈ win ∧ (a ∉ N ∨ g < a)) ↔ ra ≤ a - 1)) :
    ∃ F : List Int, sem__law_passed [.lst (win.map Dv.int), .lst (N.map Dv.int), .int s, .int g] = some (.lst (F.map Dv.int)) ∧ F.length ≤ 1001 ∧ F.Nodup ∧ ∀ j, j ∈ F ↔ ra ≤ j ∧ j ≤ rb := by
  unfold sem__law_passed fs__law_passed
  obtain ⟨δ', eW, F, W, v6, v7, v8, v9, rfl, fl, nd, hF⟩ := wLoop_inv (ft := (tstB (fOp oNeX (fVar 5) (fZ (oLst aNil))))) (fs := (sSeq (sAsg (fPop0 5) (bTup 2 (bsCons (bName 6) (bsCons (bName 7) bsNil)))) (sSeq (sAsg (fZ (oLst (aCons (fNeg (fC (.int 1))) (aCons (fC (.int 1)) aNil)))) (bName 8)) (sSeq (sIf (tstB (fOp oInF (fVar 6) (fVar 1))) (sAsg (fIfE (tstB (fOp oEqX (fVar 6) (fVar 3))) (fZ (oLst aNil)) (fZ (oLst (aCons (fIfE (tstB (fOp oGt (fVar 3) (fVar 6))) (fC (.int 1)) (fNeg (fC (.int 1)))) aNil)))) (bName 8)) sNext) (sFor (itL (fVar 8)) (bName 9) (sIf (tstAnd (tstB (fOp oNeX (fVar 9) (fOp oSub (fC (.int 0)) (fVar 7)))) (tstAnd (tstB (fOp oInF (fOp oAdd (fVar 6) (fVar 9)) (fVar 0))) (tstB (fOp oNotInF (fOp oAdd (fVar 6) (fVar 9)) (fVar 4))))) (sSeq (sDrop (fOwnL 4 (fApp 4 (fOp oAdd (fVar 6) (fVar 9))))) (sDrop (fOwnL 5 (fApp 5 (fTup (aCons (fOp oAdd (fVar 6) (fVar 9)) (aCons (fVar 9) aNil))))))) sNext))))))
    (fun (k : Nat) (δ : Env) => ∃ (F : List Int) (W : List (Int × Int)) (v6 v7 v8 v9 : Sl), δ = [Sl.sh (.lst (win.map Dv.int)), .sh (.lst (N.map Dv.int)), .sh (.int s), .sh (.int g), .ow none (.lst (F.map Dv.int)), .ow none (.lst (W.map encW)), v6, v7, v8, v9] ∧ Flood ra rb s k F W)
    (fun δ => ∃ (F : List Int) (W : List (Int × Int)) (v6 v7 v8 v9 : Sl), δ = [Sl.sh (.lst (win.map Dv.int)), .sh (.lst (N.map Dv.int)), .sh (.int s), .sh (.int g), .ow none (.lst (F.map Dv.int)), .ow none (.lst (W.map encW)), v6, v7, v8, v9] ∧ F.length ≤ 1001 ∧ F.Nodup ∧ ∀ j, j ∈ F ↔ ra ≤ j ∧ j ≤ rb)
    (by
      rintro k δ ⟨F, W, v6, v7, v8, v9, rfl, hfl⟩
      have hfl0 := hfl
      obtain ⟨W0, x, c, rfl, hnext⟩ := flood_step hfl HR HL
      have lFW : F.length ≤ 1001 ∧ (W0 ++ [(x, c)]).length ≤ 2 := by
        obtain ⟨a, b, _, _, hl, h1, h2, h3, h4, _, hW⟩ := hfl0
        refine ⟨by omega, ?_⟩
        rcases hW with ⟨e, _⟩ | ⟨L, R, e, hL, hR⟩
        · rw [e]; simp
        · rw [e, List.length_append]
          rcases hL with ⟨rfl, _⟩ | ⟨rfl, _⟩ <;> rcases hR with ⟨rfl, _⟩ | ⟨rfl, _⟩ <;> simp
      have hne := ne_nilC (Cn.map (f := encW) (k := 1) (l := W0 ++ [(x, c)]) fun p hp => Cn.pair (.int _) (.int _)) (by decide)
      have hemp : ((W0 ++ [(x, c)]).map encW).isEmpty = false := by cases W0 <;> rfl
      rw [hemp] at hne
      refine ⟨[Sl.sh (.lst (win.map Dv.int)), .sh (.lst (N.map Dv.int)), .sh (.int s), .sh (.int g), .ow none (.lst (F.map Dv.int)), .ow none (.lst ((W0 ++ [(x, c)]).map encW)), v6, v7, v8, v9], ?_, ?_⟩
      · clear hfl hfl0 HR HL lFW hnext hs hb
        walk_at "fdh"
      clear hfl hfl0 HR HL hne hemp hs hb
      have hW : (W0 ++ [(x, c)]).map encW = W0.map encW ++ [Dv.tup [.int x, .int c]] := by rw [List.map_append]; rfl
      have hlast : (W0.map encW ++ [Dv.tup [.int x, .int c]])[(W0.map encW ++ [Dv.tup [.int x, .int c]]).length - 1]? = some (Dv.tup [.int x, .int c]) := by
        rw [List.length_append, List.length_singleton, Nat.add_sub_cancel, List.getElem?_append_right (Nat.le_refl _), Nat.sub_self]; rfl
      have hdrop : (W0.map encW ++ [Dv.tup [.int x, .int c]]).dropLast = W0.map encW := List.dropLast_concat
      have lW0 : W0.length ≤ 1 := by have := lFW.2; rw [List.length_append, List.length_singleton] at this; omega
      have lF := lFW.1
      clear lFW
      refine sSeq_ex (fun δ => δ = [Sl.sh (.lst (win.map Dv.int)), .sh (.lst (N.map Dv.int)), .sh (.int s), .sh (.int g), .ow none (.lst (F.map Dv.int)), .ow none (.lst (W0.map encW)), .sh (.int x), .sh (.int c), v8, v9]) ?_ ?_
      · refine ⟨_, ?_, rfl⟩
        rw [hW]
        clear hW hnext
        walk_at "fdh"
      rintro δ rfl
      clear hW hlast hdrop
      refine sSeq_ex (fun δ => δ = [Sl.sh (.lst (win.map Dv.int)), .sh (.lst (N.map Dv.int)), .sh (.int s), .sh (.int g), .ow none (.lst (F.map Dv.int)), .ow none (.lst (W0.map encW)), .sh (.int x), .sh (.int c), .sh (.lst [.int (-1), .int 1]), v9]) ?_ ?_
      · refine ⟨_, ?_, rfl⟩
        clear hnext lW0 lF
        walk_at "fdh"
      rintro δ rfl
      refine sSeq_ex (fun δ => δ = [Sl.sh (.lst (win.map Dv.int)), .sh (.lst (N.map Dv.int)), .sh (.int s), .sh (.int g), .ow none (.lst (F.map Dv.int)), .ow none (.lst (W0.map encW)), .sh (.int x), .sh (.int c), .sh (.lst ((stepsOf N g x).map Dv.int)), v9]) ?_ ?_
      · refine ⟨_, ?_, rfl⟩
        have hin := inF_ints x N
        clear hnext lW0 lF
        unfold stepsOf
        by_cases hx : x ∈ N
        · have xb : decide (x ∈ N) = true := decide_eq_true hx
          rw [if_pos hx]
          clear hx
          by_cases hg : x = g
          · have gb : decide (x = g) = true := decide_eq_true hg
            rw [if_pos hg]
            clear hg
            walk_at "fdh"
          · have gb : decide (x = g) = false := decide_eq_false hg
            rw [if_neg hg]
            clear hg
            by_cases hgx : g > x
            · have rb : decide (g > x) = true := decide_eq_true hgx
              rw [if_pos hgx]
              clear hgx
              walk_at "fdh"
            · have rb : decide (g > x) = false := decide_eq_false hgx
              rw [if_neg hgx]
              clear hgx
              walk_at "fdh"
        · have xb : decide (x ∈ N) = false := decide_eq_false hx
          rw [if_neg hx]
          clear hx
          walk_at "fdh"
      rintro δ rfl
      have lT : (stepsOf N g x).length ≤ 2 := by unfold stepsOf; split <;> (try split) <;> simp
      generalize stepsOf N g x = T at hnext lT
      unfold sFor
      have eT : itL (fVar 8) [Sl.sh (.lst (win.map Dv.int)), .sh (.lst (N.map Dv.int)), .sh (.int s), .sh (.int g), .ow none (.lst (F.map Dv.int)), .ow none (.lst (W0.map encW)), .sh (.int x), .sh (.int c), .sh (.lst (T.map Dv.int)), v9] = some (T.map Dv.int, [Sl.sh (.lst (win.map Dv.int)), .sh (.lst (N.map Dv.int)), .sh (.int s), .sh (.int g), .ow none (.lst (F.map Dv.int)), .ow none (.lst (W0.map encW)), .sh (.int x), .sh (.int c), .sh (.lst (T.map Dv.int)), v9]) := rfl
      rw [eT]
      simp only
      obtain ⟨δ', eL, F1, W1, v9', rfl, q1, q2, q3⟩ := fLoop_inv2 (ds := T.map Dv.int) (δ := [Sl.sh (.lst (win.map Dv.int)), .sh (.lst (N.map Dv.int)), .sh (.int s), .sh (.int g), .ow none (.lst (F.map Dv.int)), .ow none (.lst (W0.map encW)), .sh (.int x), .sh (.int c), .sh (.lst (T.map Dv.int)), v9]) (fb := bName 9) (fs := (sIf (tstAnd (tstB (fOp oNeX (fVar 9) (fOp oSub (fC (.int 0)) (fVar 7)))) (tstAnd (tstB (fOp oInF (fOp oAdd (fVar 6) (fVar 9)) (fVar 0))) (tstB (fOp oNotInF (fOp oAdd (fVar 6) (fVar 9)) (fVar 4))))) (sSeq (sDrop (fOwnL 4 (fApp 4 (fOp oAdd (fVar 6) (fVar 9))))) (sDrop (fOwnL 5 (fApp 5 (fTup (aCons (fOp oAdd (fVar 6) (fVar 9)) (aCons (fVar 9) aNil))))))) sNext))
        (fun (i : Nat) (δ : Env) => ∃ (F1 : List Int) (W1 : List (Int × Int)) (v9 : Sl), δ = [Sl.sh (.lst (win.map Dv.int)), .sh (.lst (N.map Dv.int)), .sh (.int s), .sh (.int g), .ow none (.lst (F1.map Dv.int)), .ow none (.lst (W1.map encW)), .sh (.int x), .sh (.int c), .sh (.lst (T.map Dv.int)), v9] ∧ (T.take i).foldl (goStep win x c) (F, W0) = (F1, W1) ∧ F1.length ≤ 1001 + i ∧ W1.length ≤ 1 + i)
        ⟨F, W0, v9, rfl, rfl, by omega, by omega⟩ (by
        rintro i d δ hd ⟨F1, W1, v9, rfl, q1, q2, q3⟩
        rw [List.getElem?_map] at hd
        obtain ⟨t, ht, rfl⟩ := Option.map_eq_some_iff.mp hd
        have hi : i < T.length := (List.getElem?_eq_some_iff.mp ht).1
        have e1 := inF_ints (x + t) win
        have e2 := notInF_ints (x + t) F1
        have l1 : (F1.map Dv.int).length < 1000000 := by rw [List.length_map]; omega
        have l2 : (W1.map encW).length < 1000000 := by rw [List.length_map]; omega
        have hg : (T.take (i + 1)).foldl (goStep win x c) (F, W0) = goStep win x c (F1, W1) t := by rw [take_snoc ht, List.foldl_append, q1]; rfl
        refine ⟨_, rfl, ?_⟩
        rw [hg]
        have m1 : (F1 ++ [x + t]).map Dv.int = F1.map Dv.int ++ [.int (x + t)] := by rw [List.map_append]; rfl
        have m2 : (W1 ++ [(x + t, t)]).map encW = W1.map encW ++ [.tup [.int (x + t), .int t]] := by rw [List.map_append]; rfl
        clear hnext hg q1 hd eT ht
        by_cases c1 : t = 0 - c
        · refine ⟨_, ?_, F1, W1, .sh (.int t), rfl, by unfold goStep; rw [if_neg (fun q => q.1 c1)], by omega, by omega⟩
          have cb : decide (t = 0 - c) = true := decide_eq_true c1
          clear c1 m1 m2
          walk_at "fdh"
        · have cb : decide (t = 0 - c) = false := decide_eq_false c1
          by_cases c2 : x + t ∈ win
          · have cb2 : decide (x + t ∈ win) = true := decide_eq_true c2
            by_cases c3 : x + t ∈ F1
            · refine ⟨_, ?_, F1, W1, .sh (.int t), rfl, by unfold goStep; rw [if_neg (fun q => q.2.2 c3)], by omega, by omega⟩
              have cb3 : decide (x + t ∈ F1) = true := decide_eq_true c3
              clear c1 c2 c3 m1 m2
              walk_at "fdh"
            · refine ⟨_, ?_, F1 ++ [x + t], W1 ++ [(x + t, t)], .sh (.int t), rfl, by unfold goStep; rw [if_pos ⟨c1, c2, c3⟩], by rw [List.length_append, List.length_singleton]; omega, by rw [List.length_append, List.length_singleton]; omega⟩
              have cb3 : decide (x + t ∈ F1) = false := decide_eq_false c3
              rw [m1, m2]
              clear c1 c2 c3 m1 m2
              walk_at "fdh"
          · refine ⟨_, ?_, F1, W1, .sh (.int t), rfl, by unfold goStep; rw [if_neg (fun q => c2 q.2.1)], by omega, by omega⟩
            have cb2 : decide (x + t ∈ win) = false := decide_eq_false c2
            clear c1 c2 m1 m2
            walk_at "fdh")
      rw [List.length_map, List.take_length] at q1
      rw [q1] at hnext
      exact ⟨_, eL, F1, W1, _, _, _, _, rfl, hnext⟩)
    (by
      rintro δ ⟨F, W, v6, v7, v8, v9, rfl, hfl⟩
      have fl : F.length ≤ 1001 := by
        obtain ⟨a, b, _, _, hl, h1, h2, h3, h4, _⟩ := hfl
        omega
      obtain ⟨rfl, nd, hF⟩ := flood_end hfl
      have hne : oNeX (.lst []) (.lst []) = some (.bl false) := ne_nilG (ds := []) (shp_ints [])
      refine ⟨_, ?_, F, [], v6, v7, v8, v9, rfl, fl, nd, hF⟩
      simp only [List.map_nil]
      clear hfl fl HR HL hs hb nd hF
      walk_at "fdh")
    (k := 1 + (s - ra).toNat + (rb - s).toNat) (n := 100000) (δ := [Sl.sh (.lst (win.map Dv.int)), .sh (.lst (N.map Dv.int)), .sh (.int s), .sh (.int g), .ow none (.lst [.int s]), .ow none (.lst [.tup [.int s, .int 0]]), .no, .no, .no, .no])
    ⟨[s], [(s, 0)], .no, .no, .no, .no, rfl, s, s, by simp, fun j => by rw [List.mem_singleton]; omega, by simp, hs.1, Int.le_refl _, Int.le_refl _, hs.2, rfl, .inl ⟨rfl, rfl, rfl⟩⟩ (by omega)
  refine ⟨F, ?_, fl, nd, hF⟩
  clear HR HL hs hb fl nd hF
  walk_at "fdh"
theorem l__law_kind (N : List Int) (s : Int) : sem__law_kind [.lst (N.map Dv.int), .int s] = some (.str (if N = [] then "all" else if s ∈ N then "direct" else "flood")) := by
  have h1 := eq_intsN N
  have h2 := inF_ints s N
  unfold sem__law_kind fs__law_kind
  by_cases c : N = []
  · have e : N.isEmpty = true := by rw [c]; rfl
    rw [if_pos c]
    clear c
    walk_at "fdh"
  · have e : N.isEmpty = false := by cases N with
      | nil => exact absurd rfl c
      | cons _ _ => rfl
    rw [if_neg c]
    clear c
    by_cases d : s ∈ N
    · have db : decide (s ∈ N) = true := decide_eq_true d
      rw [if_pos d]
      clear d
      walk_at "fdh"
    · have db : decide (s ∈ N) = false := decide_eq_false d
      rw [if_neg d]
      clear d
      walk_at "fdh"
theorem l_is_position {i : Int} (h0 : -(10 ^ 30) ≤ i) (h1 : i ≤ 10 ^ 30) : sem_is_position [.int i] = some (.bl true) := by
  unfold sem_is_position fs_is_position
  walk_at "fd"
  simp only [l_is_integer]
  walk_at "fd"
  have q0 : (-1000000000000000000000000000000 : Int) ≤ i := by omega
  have q1 : i ≤ 1000000000000000000000000000000 := by omega
  walk_at "fdh"
theorem l_check_number {n a b : Int} (h0 : a ≤ n) (h1 : n ≤ b) : sem_check_number [.int n, .int a, .int b] = some .non := by
  unfold sem_check_number fs_check_number
  have e := l_is_integer n
  have q0 : decide (a ≤ n) = true := decide_eq_true h0
  have q1 : decide (n ≤ b) = true := decide_eq_true h1
  walk_at "fdh"
theorem l_is_end {ks : List (Str × Int)} {i : Int} (h : i ∈ ks.map (·.2)) : sem_is_end [.dct (kvL ks), .int i] = some (.bl true) := by
  unfold sem_is_end fs_is_end
  have e := l_is_integer i
  have e2 := vals_line ks
  have e3 := flat_ints (ks.map (·.2))
  have e4 := any_ints h
  walk_at "fdh"
  simp only [oInF, inBF, flatD, e3, e4, Bool.and_self, if_true]
theorem l_is_frame {ks : List (Str × Int)} (hk : LineOk ks) {p : Str × Str} (h1 : p.1 ∈ ks.map (·.1)) (h2 : p.2 ∈ ks.map (·.1)) (ne : p.1 ≠ p.2) : sem_is_frame [.dct (kvL ks), encF p] = some (.bl true) := by
  unfold sem_is_frame fs_is_frame encF
  have e0 := l_is_pair (.str p.1) (.str p.2)
  have e1 := l_is_host hk h1
  have e2 := l_is_host hk h2
  walk_at "fdh"
theorem l_kind_in {ks : List (Str × Int)} {es : List (Str × Span)} (hk : LineOk ks) (h : StOk ks es) {p : Str × Str} (h1 : p.1 ∈ ks.map (·.1)) (h2 : p.2 ∈ ks.map (·.1)) :
    sem_kind_in [.dct (kvL ks), .dct (kvS es), .str p.1, .str p.2] = some (.str (kindS (spOf es p.2) (posOf ks p.1))) := by
  unfold sem_kind_in fs_kind_in
  have e1 := lookK_line (posOf_in h1) hk.ndn
  have e2 := (spOf_look hk h h2).1
  have e3 := l_contains (spOf es p.2) (posOf ks p.1)
  generalize spOf es p.2 = s at e2 e3
  rcases s with _ | ⟨l, h'⟩
  · simp only [encS] at e2 e3
    walk_at "fdh"
    rfl
  · simp only [encS] at e2 e3
    cases q : inSpan (some (l, h')) (posOf ks p.1) with
    | true =>
      rw [q] at e3
      walk_at "fdh"
      simp only [kindS, q, if_true]
    | false =>
      rw [q] at e3
      walk_at "fdh"
      simp only [kindS, q]; rfl
theorem l__law_names {G : Sg} {m : Int} (ok : SgOk G) (m0 : 0 ≤ m) (m1 : m ≤ 40) (hn : G.n < 999999000) :
    ∃ (As : List Str) (G' : Sg), sem__law_names (encG G) [.int m] = some (.lst (As.map Dv.str), encG G') ∧ As.Nodup ∧ (∀ z ∈ As, z ∈ POOLS) ∧ (As.length : Int) = m ∧ SgOk G' ∧ G'.n ≤ G.n + 40 := by
  have big : (2 : Int) ^ 100 > 1000 := by decide +kernel
  have qA := abc_list
  have qP := poolS_names
  have q1 : (poolA.map Dv.str).length + 8 ≤ 1000000 := by decide +kernel
  have q2 : (poolA.map Dv.str ++ [Dv.str (Str.ofString "aa"), Dv.str (Str.ofString "ab"), Dv.str (Str.ofString "ba"), Dv.str (Str.ofString "zz"), Dv.str (Str.ofString "zzzzzzzz"), Dv.str (Str.ofString "all"), Dv.str (Str.ofString "flood"), Dv.str (Str.ofString "direct")]).length + 6 ≤ 1000000 := by decide +kernel
  have r1 : m ≤ 1000000 := by omega
  have r2 : -1000000 ≤ m := by omega
  have rl := rng_len m.toNat
  unfold sem__law_names fs__law_names
  walk_at "fdh"
  obtain ⟨ys, δ', eL, G4, P, As, v3, rfl, ok4, n4, rfl, pn, la⟩ := oLc_inv (fi := itR1 (aCons (fVar 1) aNil)) (fb := bName 3) (vs := [3]) (δ := [Sl.ow (some 0) (encG G), .sh (.int m), .ow none (.lst (POOLS.map Dv.str)), .no])
    (δ1 := [Sl.ow (some 0) (encG G), .sh (.int m), .ow none (.lst (POOLS.map Dv.str)), .no])
    (ds := rngD 0 m.toNat) (fe := fOwnL 2 (fPopAt 2 (fCallM 2 0 sem__law_draw (aCons (fVar 0) (aCons (fCB bLen (aCons (fVar 2) aNil)) aNil)))))
    (fun (i : Nat) (ys : List Dv) (δ : Env) => ∃ (G4 : Sg) (P As : List Str) (v3 : Sl), δ = [Sl.ow (some 0) (encG G4), .sh (.int m), .ow none (.lst (P.map Dv.str)), v3] ∧ SgOk G4 ∧ G4.n ≤ G.n + i ∧ ys = As.map Dv.str ∧ (As ++ P).Perm POOLS ∧ As.length = i)
    (by walk_at "fdh") (by omega) ⟨G, _, [], _, rfl, ok, by omega, rfl, List.Perm.refl _, rfl⟩ (by
      rintro i d ys δ hd ⟨G4, P, As, v3, rfl, ok4, n4, rfl, pn, la⟩
      have hi : i < m.toNat := by
        have := (List.getElem?_eq_some_iff.mp hd).1
        rwa [rl] at this
      have ln : As.length + P.length = 40 := by rw [← pools_len, ← pn.length_eq, List.length_append]
      obtain ⟨d5, G7, e5, a5, b5, ok7, n7⟩ := l__law_draw ok4 (m := (P.length : Int)) (by omega) (by omega) (by omega)
      have hlp : (P.map Dv.str).length = P.length := List.length_map ..
      have hlq : P.length ≤ 1000000 := by omega
      obtain ⟨z, hz⟩ : ∃ z, P[d5.toNat]? = some z := ⟨_, List.getElem?_eq_getElem (by omega)⟩
      have hz2 : (P.map Dv.str)[d5.toNat]? = some (.str z) := by rw [List.getElem?_map, hz]; rfl
      have her := map_erase Dv.str P d5.toNat
      refine ⟨_, .str z, [Sl.ow (some 0) (encG G7), .sh (.int m), .ow none (.lst ((P.eraseIdx d5.toNat).map Dv.str)), .sh d], rfl, ?_, G7, P.eraseIdx d5.toNat, As ++ [z], .sh d, rfl, ok7, by omega, by rw [List.map_append]; rfl, ?_, by simp [la]⟩
      · clear qA qP q1 q2
        walk_at "fdh"
      · rw [List.append_assoc]
        exact (List.Perm.append_left As (erase_perm hz)).trans pn)
  rw [rl] at la n4
  rw [eL]
  have nd : As.Nodup := (List.nodup_append.mp (pn.nodup_iff.mpr pools_nd)).1
  refine ⟨As, G4, ?_, nd, fun z hz => pn.mem_iff.mp (List.mem_append_left _ hz), by omega, ok4, by omega⟩
  clear qA qP q1 q2 eL
  walk_at "fdh"
theorem l__law_frames {G : Sg} {ks : List (Str × Int)} {many : Int} (hk : LineOk ks) (ok : SgOk G) (m0 : 0 ≤ many) (m1 : many ≤ 300) (hn : G.n < 999990000) :
    ∃ (fs : List (Str × Str)) (G' : Sg), sem__law_frames [encG G, .dct (kvL ks), .int many] = some (encB fs, [encG G']) ∧ FrOk ks fs ∧ (fs.length : Int) ≤ many ∧ (1 < ks.length → (fs.length : Int) = many) ∧ SgOk G' ∧ G'.n ≤ G.n + 1000 := by
  have big : (2 : Int) ^ 100 > 1000 := by decide +kernel
  obtain ⟨N, hN⟩ : ∃ N, srt leS (ks.map (·.1)) = N := ⟨_, rfl⟩
  have hs := bSort_line hk
  have l1 := hk.len1
  have lN : ks.length = N.length := by rw [← hN, (srt_perm leS _).length_eq, List.length_map]
  have ln := srt_len_line hk
  have nd := srt_nd hk
  have hm : ∀ z ∈ N, z ∈ ks.map (·.1) := fun z hz => by rw [← hN] at hz; exact (srt_perm leS _).mem_iff.mp hz
  rw [hN] at hs ln nd
  have hlN : (N.map Dv.str).length = N.length := List.length_map ..
  have hlq : N.length ≤ 1000000 := by omega
  obtain ⟨w, G1, e1, a1, b1, ok1, n1⟩ := l__law_draw ok (m := (N.length : Int)) (by omega) (by omega) (by omega)
  generalize hc : (if decide (1 < (N.length : Int)) = true then (1 : Int) else 0) = c
  have hcb : c = 0 ∧ ¬ 1 < N.length ∨ c = 1 ∧ 1 < N.length := by
    by_cases h : (1 : Int) < (N.length : Int)
    · rw [if_pos (decide_eq_true h)] at hc; exact .inr ⟨hc.symm, by omega⟩
    · rw [if_neg (by simp only [decide_eq_true_eq]; exact h)] at hc; exact .inl ⟨hc.symm, by omega⟩
  have hmul : oMul (.int many) (.int c) = some (.int (many * c)) := oMul_ok (by omega) (by rcases hcb with ⟨h, _⟩ | ⟨h, _⟩ <;> omega)
  have hmc : many * c ≤ many ∧ 0 ≤ many * c ∧ (1 < ks.length → many * c = many) := by rcases hcb with ⟨h, h2⟩ | ⟨h, _⟩ <;> rw [h] <;> refine ⟨by omega, by omega, fun q => by omega⟩
  have r1 : many * c ≤ 1000000 := by omega
  have r2 : -1000000 ≤ many * c := by omega
  have rl := rng_len (many * c).toNat
  unfold sem__law_frames fs__law_frames
  walk_at "fdh"
  generalize hL : fLoop _ _ _ _ = X
  obtain ⟨δ', rfl, hI⟩ : ∃ δ', X = some (.nx, δ') ∧ (fun (i : Nat) (δ : Env) => ∃ (G' : Sg) (fs : List (Str × Str)) (v6 v7 v8 : Sl), δ = [Sl.ow (some 0) (encG G'), .sh (.dct (kvL ks)), .sh (.int many), .sh (.lst (N.map Dv.str)), .ow none (.lst (fs.map encF)), .sh (.int (1 + w)), v6, v7, v8] ∧
      SgOk G' ∧ G'.n ≤ G1.n + 3 * i ∧ fs.length = i ∧ ∀ p ∈ fs, p.1 ∈ ks.map (·.1) ∧ p.2 ∈ ks.map (·.1) ∧ p.1 ≠ p.2) (rngD 0 (many * c).toNat).length δ' := by
    rw [← hL]
    refine fLoop_inv2 (fun (i : Nat) (δ : Env) => ∃ (G' : Sg) (fs : List (Str × Str)) (v6 v7 v8 : Sl), δ = [Sl.ow (some 0) (encG G'), .sh (.dct (kvL ks)), .sh (.int many), .sh (.lst (N.map Dv.str)), .ow none (.lst (fs.map encF)), .sh (.int (1 + w)), v6, v7, v8] ∧
      SgOk G' ∧ G'.n ≤ G1.n + 3 * i ∧ fs.length = i ∧ ∀ p ∈ fs, p.1 ∈ ks.map (·.1) ∧ p.2 ∈ ks.map (·.1) ∧ p.1 ≠ p.2) ⟨G1, [], .no, .no, .no, rfl, ok1, by omega, rfl, by simp⟩ ?_
    rintro i d δ hd ⟨G2, fs, v6, v7, v8, rfl, ok2, n2, lf, hf⟩
    have hi : i < 300 ∧ 1 < N.length := by
      have := (List.getElem?_eq_some_iff.mp hd).1
      rw [rl] at this
      rcases hcb with ⟨h, h2⟩ | ⟨h, h2⟩
      · rw [h] at this; omega
      · exact ⟨by omega, h2⟩
    obtain ⟨hi, h2⟩ := hi
    refine ⟨_, rfl, ?_⟩
    obtain ⟨d3, G3, e3, a3, b3, ok3, n3⟩ := l__law_draw ok2 (m := 2) (by omega) (by omega) (by omega)
    obtain ⟨q, hq, hq1, hq2⟩ : ∃ q : Int, atI [Dv.int (N.length : Int), .int (1 + w)] d3 = some (.int q) ∧ 0 < q ∧ q ≤ N.length := by
      rcases (show d3 = 0 ∨ d3 = 1 by omega) with h | h
      · subst h; exact ⟨_, rfl, by omega, by omega⟩
      · subst h; exact ⟨_, rfl, by omega, by omega⟩
    obtain ⟨d4, G4, e4, a4, b4, ok4, n4⟩ := l__law_draw ok3 (m := q) hq1 (by omega) (by omega)
    obtain ⟨d5, G5, e5, a5, b5, ok5, n5⟩ := l__law_draw ok4 (m := (N.length : Int) - 1) (by omega) (by omega) (by omega)
    have o1 : oMod (.int (d4 + 1 + d5)) (.int (N.length : Int)) = some (.int ((d4 + 1 + d5) % (N.length : Int))) := oMod_ok (by omega)
    have t0 : 0 ≤ (d4 + 1 + d5) % (N.length : Int) := Int.emod_nonneg _ (by omega)
    have t1 : (d4 + 1 + d5) % (N.length : Int) < (N.length : Int) := Int.emod_lt_of_pos _ (by omega)
    have t2 : (d4 + 1 + d5) % (N.length : Int) ≠ d4 := by
      intro e
      by_cases h : d4 + 1 + d5 < (N.length : Int)
      · rw [Int.emod_eq_of_lt (by omega) h] at e; omega
      · have h1 : (d4 + 1 + d5 - (N.length : Int) + (N.length : Int)) % (N.length : Int) = (d4 + 1 + d5 - (N.length : Int)) % (N.length : Int) := Int.add_emod_right ..
        rw [show d4 + 1 + d5 - (N.length : Int) + (N.length : Int) = d4 + 1 + d5 by omega, Int.emod_eq_of_lt (a := d4 + 1 + d5 - (N.length : Int)) (by omega) (by omega)] at h1
        omega
    generalize (d4 + 1 + d5) % (N.length : Int) = t at *
    obtain ⟨j4, rfl⟩ := Int.eq_ofNat_of_zero_le a4
    obtain ⟨j, rfl⟩ := Int.eq_ofNat_of_zero_le t0
    obtain ⟨y, hy⟩ : ∃ z, N[j4]? = some z := ⟨_, List.getElem?_eq_getElem (by omega)⟩
    obtain ⟨z, hz⟩ : ∃ z, N[j]? = some z := ⟨_, List.getElem?_eq_getElem (by omega)⟩
    have hy2 : atI (N.map Dv.str) (j4 : Int) = some (.str y) := at_nat (by rw [List.getElem?_map, hy]; rfl)
    have hz2 : atI (N.map Dv.str) (j : Int) = some (.str z) := at_nat (by rw [List.getElem?_map, hz]; rfl)
    have hyz : y ≠ z := fun e => by
      subst e
      obtain ⟨q1, q2⟩ := List.getElem?_eq_some_iff.mp hy
      obtain ⟨q3, q4⟩ := List.getElem?_eq_some_iff.mp hz
      have := (List.getElem_inj nd (h₀ := q1) (h₁ := q3)).mp (q2.trans q4.symm)
      omega
    have hfl : (fs.map encF).length < 1000000 := by rw [List.length_map]; omega
    refine ⟨_, ?_, G5, fs ++ [(y, z)], .sh d, .sh (.int (j4 : Int)), .sh (.int (j : Int)), rfl, ok5, by omega, by simp [lf], fun p hp => ?_⟩
    · have he : encF (y, z) = .tup [.str y, .str z] := rfl
      rw [List.map_append, List.map_cons, List.map_nil, he]
      clear hL hf lf hs hmul hc hN
      walk_at "fdh"
    · rcases List.mem_append.mp hp with h | h
      · exact hf p h
      · rw [List.mem_singleton.mp h]
        exact ⟨hm y (List.mem_of_getElem? hy), hm z (List.mem_of_getElem? hz), hyz⟩
  rw [rl] at hI
  obtain ⟨G', fs, v6, v7, v8, rfl, ok', n', lf, hf⟩ := hI
  refine ⟨fs, G', ?_, ⟨by omega, hf⟩, by omega, fun q => by have := hmc.2.2 (by omega); omega, ok', by omega⟩
  clear hL
  unfold encB
  walk_at "fdh"
theorem l_check_position {i : Int} (h0 : -(10 ^ 30) ≤ i) (h1 : i ≤ 10 ^ 30) : sem_check_position [.int i] = some .non := by
  unfold sem_check_position fs_check_position
  have e := l_is_position h0 h1
  clear h0 h1
  walk_at "fdh"
theorem l_is_line {ks : List (Str × Int)} (hk : LineOk ks) : sem_is_line [.dct (kvL ks)] = some (.bl true) := by
  have l1 := hk.len1
  have l2 := hk.len2
  unfold sem_is_line fs_is_line
  walk_at "fd"
  rw [len_kvL]
  have q2 : (1 : Int) ≤ (ks.length : Int) := by omega
  have q3 : (ks.length : Int) ≤ 40 := by omega
  walk_at "fdh"
  obtain ⟨δ', e1, rfl | ⟨v1, v2, rfl⟩⟩ := fLoop_inv (fb := bTup 2 (bsCons (bName 1) (bsCons (bName 2) bsNil))) (ds := Way.ds .items (kvL ks)) (δ := [Sl.sh (.dct (kvL ks)), .no, .no])
    (fs := sIf (tstOr (tstNot (tstB (fCallP sem_is_name (ckLen 1 (aCons (fVar 1) aNil))))) (tstNot (tstB (fCallP sem_is_position (ckLen 1 (aCons (fVar 2) aNil)))))) (sRet (fC (.bl false))) sNext)
    (fun _ δ => δ = [Sl.sh (.dct (kvL ks)), .no, .no] ∨ ∃ v1 v2, δ = [Sl.sh (.dct (kvL ks)), v1, v2]) (.inl rfl) (fun i d δ hd hI => by
      have hm := List.mem_of_getElem? hd
      obtain ⟨x, hx, rfl⟩ := List.mem_map.mp hm
      obtain ⟨p, hp, rfl⟩ := List.mem_map.mp hx
      have n1 := l_is_name (hk.nm p hp)
      have n2 := l_is_position (hk.ps p hp).1 (hk.ps p hp).2
      have : ∃ v1 v2, δ = [Sl.sh (.dct (kvL ks)), v1, v2] := by
        rcases hI with rfl | h
        · exact ⟨_, _, rfl⟩
        · exact h
      obtain ⟨v1, v2, rfl⟩ := this
      refine ⟨[Sl.sh (.dct (kvL ks)), .sh (.str p.1), .sh (.int p.2)], [Sl.sh (.dct (kvL ks)), .sh (.str p.1), .sh (.int p.2)], rfl, ?_, .inr ⟨_, _, rfl⟩⟩
      walk_at "fdh")
  all_goals
    simp only [e1]
    have nd := hk.ndp
    have ll : ks.length ≤ 4000 := by omega
    simp only [fLenSet]
    walk_at "fd"
    simp only [intsOf_vals, nd, List.length_map, ll, and_self, if_true, len_kvL, decide_true]
    walk_at "fd"
    simp only [len_kvL, decide_true]
theorem l_is_known_interval {ks : List (Str × Int)} {z : Str} {s : Span} (hk : LineOk ks) (hz : z ∈ ks.map (·.1)) (h : spanOk ks (posOf ks z) s) : sem_is_known_interval [.dct (kvL ks), .str z, encS s] = some (.bl true) := by
  unfold sem_is_known_interval fs_is_known_interval
  have e0 := lookK_line (posOf_in hz) hk.ndn
  rcases s with _ | ⟨l, h'⟩
  · simp only [encS]; walk_at "fd"
  · have e1 := l_is_pair (encO l) (encO h')
    rcases l with _ | l <;> rcases h' with _ | h' <;> simp only [encS, encO] at e1 ⊢
    · walk_at "fdh"
    · have b2 := h.2 h' rfl
      have e3 := l_is_end b2.1
      have b3 := b2.2
      walk_at "fdh"
    · have b2 := h.1 l rfl
      have e3 := l_is_end b2.1
      have b3 := b2.2
      walk_at "fdh"
    · have b2 := h.1 l rfl
      have e3 := l_is_end b2.1
      have b3 := b2.2
      have c2 := h.2 h' rfl
      have c3 := l_is_end c2.1
      have c4 := c2.2
      walk_at "fdh"
theorem l_send_one {ks : List (Str × Int)} {es : List (Str × Span)} (hk : LineOk ks) (h : StOk ks es) {p : Str × Str} (h1 : p.1 ∈ ks.map (·.1)) (h2 : p.2 ∈ ks.map (·.1)) :
    sem_send_one (.dct (kvS es)) [.dct (kvL ks), .str p.1, .str p.2] = some (.tup [.str (kindE ks es p), encS (some (reachE ks es p))], .dct (kvS (sendE ks es p))) := by
  unfold sem_send_one fs_send_one
  have l2 := hk.len2
  have e0 := (spOf_look hk h h1).1
  have e1 := l_kind_in hk h h1 h2
  have e2 := l_reach_of_kind (spOf es p.2) (posOf ks p.1) (posOf ks p.2)
  have e3 := lookK_line (posOf_in h1) hk.ndn
  have e4 := lookK_line (posOf_in h2) hk.ndn
  have e5 := l_joined (spOf es p.1) (reachS (spOf es p.2) (posOf ks p.1) (posOf ks p.2))
  have e6 : (kvS es).length < 1000000 := by rw [len_kvS, h.len]; omega
  have e7 := putD_setE (s := some (joinS (spOf es p.1) (reachS (spOf es p.2) (posOf ks p.1) (posOf ks p.2)))) (h.pm.mem_iff.mpr h1)
  simp only [kindE, reachE, sendE]
  generalize spOf es p.2 = s2 at *
  walk_at "fdh"
theorem l__law_line {G : Sg} {m : Int} (ok : SgOk G) (m1 : 1 ≤ m) (m2 : m ≤ 40) (hn : G.n < 999990000) :
    ∃ (ks : List (Str × Int)) (G' : Sg), sem__law_line [encG G, .int m] = some (.dct (kvL ks), [encG G']) ∧ LineOk ks ∧ (∀ p ∈ ks, p.1 ∈ POOLS) ∧ (ks.length : Int) = m ∧ SgOk G' ∧ G'.n ≤ G.n + 200 := by
  have big : (2 : Int) ^ 100 > 1000 := by decide +kernel
  obtain ⟨d1, G1, e1, a1, b1, ok1, n1⟩ := l__law_draw ok (m := 4) (by omega) (by omega) (by omega)
  obtain ⟨k1, rfl⟩ := Int.eq_ofNat_of_zero_le a1
  have hk1 : k1 < 4 := by omega
  obtain ⟨hp0, pb0, pb1⟩ := placeS_at k1 hk1
  obtain ⟨hst, sp0, sp1⟩ := stepS_at k1 hk1
  obtain ⟨As, G2, e2, ndA, hA, la, ok2, n2⟩ := l__law_names ok1 (m := m) (by omega) m2 (by omega)
  have q30 := pow30
  have q29 := pow29
  have q28 := pow28
  have q528 := mul528
  unfold sem__law_line fs__law_line
  walk_at "fdh"
  generalize hL : fLoop _ _ _ _ = X
  obtain ⟨δ', rfl, hI⟩ : ∃ δ', X = some (.nx, δ') ∧ (fun (i : Nat) (δ : Env) => ∃ (G' : Sg) (ks : List (Str × Int)) (place : Int) (v : Sl), δ = [Sl.ow (some 0) (encG G'), .sh (.int m), .sh (.int (k1 : Int)), .sh (.int (stepS k1)), .sh (.int place), .ow none (.lst (ks.map encN)), .ow none (.lst []), v] ∧
      SgOk G' ∧ G'.n ≤ G2.n + i ∧ ks.map (·.1) = As.take i ∧ (∀ p ∈ ks, -(10 ^ 30) ≤ p.2 ∧ p.2 < place ∧ p.2 ≤ 10 ^ 30) ∧ (ks.map (·.2)).Nodup ∧ -(10 ^ 30) ≤ place ∧ place ≤ placeS k1 + (i : Int) * stepS k1) (As.map Dv.str).length δ' := by
    rw [← hL]
    refine fLoop_inv2 (fun (i : Nat) (δ : Env) => ∃ (G' : Sg) (ks : List (Str × Int)) (place : Int) (v : Sl), δ = [Sl.ow (some 0) (encG G'), .sh (.int m), .sh (.int (k1 : Int)), .sh (.int (stepS k1)), .sh (.int place), .ow none (.lst (ks.map encN)), .ow none (.lst []), v] ∧
      SgOk G' ∧ G'.n ≤ G2.n + i ∧ ks.map (·.1) = As.take i ∧ (∀ p ∈ ks, -(10 ^ 30) ≤ p.2 ∧ p.2 < place ∧ p.2 ≤ 10 ^ 30) ∧ (ks.map (·.2)).Nodup ∧ -(10 ^ 30) ≤ place ∧ place ≤ placeS k1 + (i : Int) * stepS k1) ⟨G2, [], placeS k1, .no, rfl, ok2, by omega, by simp, by simp, by simp, pb0, by simp⟩ ?_
    rintro i d δ hd ⟨G', ks, place, v, rfl, ok', n', hk, hks, ndp, pl0, pl1⟩
    rw [List.getElem?_map] at hd
    obtain ⟨z, hz, rfl⟩ := Option.map_eq_some_iff.mp hd
    have hi : i < As.length := (List.getElem?_eq_some_iff.mp hz).1
    obtain ⟨d8, G8, e8, a8, b8, ok8, n8⟩ := l__law_draw ok' (m := stepS k1) sp0 sp1 (by omega)
    have lks : ks.length = i := by
      have := congrArg List.length hk
      rw [List.length_map, List.length_take] at this; omega
    have hkl : (ks.map encN).length < 1000000 := by rw [List.length_map]; omega
    have e1' : ((i + 1 : Nat) : Int) * stepS k1 = (i : Int) * stepS k1 + stepS k1 := by rw [Int.natCast_add, Int.add_mul]; simp
    have hle : (i : Int) * stepS k1 ≤ 39 * stepS k1 := Int.mul_le_mul_of_nonneg_right (by omega) (by omega)
    refine ⟨_, rfl, _, ?_, G8, ks ++ [(z, place)], place + 1 + d8, .sh (.str z), rfl, ok8, by omega, ?_, ?_, ?_, by omega, by omega⟩
    · have he : encN (z, place) = .tup [.str z, .int place] := rfl
      rw [List.map_append, List.map_cons, List.map_nil, he]
      clear hk hks ndp pl0 pl1 hL hp0 pb0 pb1 hst q30 q29 q28 q528
      walk_at "fdh"
    · rw [List.map_append, hk, take_snoc hz]; rfl
    · intro p hp
      rcases List.mem_append.mp hp with h | h
      · obtain ⟨q2, q3, q4⟩ := hks p h
        exact ⟨q2, by omega, q4⟩
      · rw [List.mem_singleton.mp h]
        exact ⟨pl0, by show place < _; omega, by show place ≤ _; omega⟩
    · rw [List.map_append, List.nodup_append]
      refine ⟨ndp, by simp, fun a ha b hb e => ?_⟩
      obtain ⟨p, hp, rfl⟩ := List.mem_map.mp ha
      have hb : b = place := by simpa using hb
      have := (hks p hp).2.1
      omega
  rw [List.length_map] at hI
  obtain ⟨G5, ks, place, v, rfl, ok5, n5, hk, hks, ndp, pl0, pl1⟩ := hI
  rw [List.take_length] at hk
  have lks : ks.length = As.length := by have := congrArg List.length hk; rwa [List.length_map] at this
  have okk : LineOk ks := ⟨by omega, by omega, fun p hp => pools_nm _ (hA _ (by rw [← hk]; exact List.mem_map.mpr ⟨p, hp, rfl⟩)), fun p hp => ⟨(hks p hp).1, (hks p hp).2.2⟩, by rw [hk]; exact ndA, ndp⟩
  clear hL hp0 hst q30 q29 q28 q528
  obtain ⟨δ', eW, G6, ls, v6, rfl, ok6, n6, pm⟩ := wLoop_inv (ft := (tstB (fOp oNeX (fVar 5) (fZ (oLst aNil))))) (fs := (sDrop (fOwnL 6 (fApp 6 (fOwnL 5 (fPopAt 5 (fCallM 2 0 sem__law_draw (aCons (fVar 0) (aCons (fCB bLen (aCons (fVar 5) aNil)) aNil)))))))))
    (fun (k : Nat) (δ : Env) => ∃ (G6 : Sg) (ps ls : List (Str × Int)) (v6 : Sl), δ = [Sl.ow (some 0) (encG G6), .sh (.int m), .sh (.int (k1 : Int)), .sh (.int (stepS k1)), .sh (.int place), .ow none (.lst (ps.map encN)), .ow none (.lst (ls.map encN)), v6] ∧ SgOk G6 ∧ G6.n + k ≤ G5.n + ks.length ∧ (ps ++ ls).Perm ks ∧ ps.length = k)
    (fun δ => ∃ (G6 : Sg) (ls : List (Str × Int)) (v6 : Sl), δ = [Sl.ow (some 0) (encG G6), .sh (.int m), .sh (.int (k1 : Int)), .sh (.int (stepS k1)), .sh (.int place), .ow none (.lst []), .ow none (.lst (ls.map encN)), v6] ∧ SgOk G6 ∧ G6.n ≤ G5.n + ks.length ∧ ls.Perm ks)
    (by
      rintro k δ ⟨G6, ps, ls, v6, rfl, ok6, n6, pm, lp⟩
      have hps : ∀ p ∈ ps, p ∈ ks := fun p hp => pm.mem_iff.mp (List.mem_append_left _ hp)
      have lsum : ps.length + ls.length = ks.length := by rw [← pm.length_eq, List.length_append]
      have hne := ne_nilC (Cn.map (f := encN) (k := 1) (l := ps) fun p hp => Cn.pair (Cn.nm (okk.nm p (hps p hp))) (.int _)) (by decide)
      have hemp : (ps.map encN).isEmpty = false := by cases ps with
        | nil => simp at lp
        | cons _ _ => rfl
      rw [hemp] at hne
      have hlp : (ps.map encN).length = ps.length := List.length_map ..
      obtain ⟨d5, G7, e5, a5, b5, ok7, n7⟩ := l__law_draw ok6 (m := (ps.length : Int)) (by omega) (by omega) (by omega)
      obtain ⟨z, hz⟩ : ∃ z, ps[d5.toNat]? = some z := ⟨_, List.getElem?_eq_getElem (by omega)⟩
      have hz2 : (ps.map encN)[d5.toNat]? = some (encN z) := by rw [List.getElem?_map, hz]; rfl
      have her := map_erase encN ps d5.toNat
      have hll : (ls.map encN).length < 1000000 := by rw [List.length_map]; omega
      have hlq : ps.length ≤ 1000000 := by omega
      have pl := erase_perm hz
      refine ⟨[Sl.ow (some 0) (encG G6), .sh (.int m), .sh (.int (k1 : Int)), .sh (.int (stepS k1)), .sh (.int place), .ow none (.lst (ps.map encN)), .ow none (.lst (ls.map encN)), v6], ?_, _, ?_, G7, ps.eraseIdx d5.toNat, ls ++ [z], v6, rfl, ok7, by omega, ?_, by have := pl.length_eq; simp at this; omega⟩
      · clear lp n6
        walk_at "fdh"
      · have he : (ls ++ [z]).map encN = ls.map encN ++ [encN z] := by rw [List.map_append]; rfl
        rw [he]
        clear hne hemp lp n6
        walk_at "fdh"
      · refine List.Perm.trans ?_ pm
        rw [← List.append_assoc]
        refine (List.perm_append_singleton z _).trans ?_
        exact pl.append_right ls)
    (by
      rintro δ ⟨G6, ps, ls, v6, rfl, ok6, n6, pm, lp⟩
      have : ps = [] := List.eq_nil_of_length_eq_zero lp
      subst this
      have hne : oNeX (.lst []) (.lst []) = some (.bl false) := ne_nilG (ds := []) (shp_ints [])
      refine ⟨_, ?_, G6, ls, v6, rfl, ok6, by omega, pm⟩
      simp only [List.map_nil]
      walk_at "fdh")
    (k := ks.length) (n := 100000) (δ := [Sl.ow (some 0) (encG G5), .sh (.int m), .sh (.int (k1 : Int)), .sh (.int (stepS k1)), .sh (.int place), .ow none (.lst (ks.map encN)), .ow none (.lst []), v]) ⟨G5, ks, [], v, rfl, ok5, by omega, by rw [List.append_nil], rfl⟩ (by omega)
  have okl := okk.perm pm
  have eD : bDict [.lst (ls.map encN)] = some (.dct (kvL ls)) := bDict_line okl.ndn
  refine ⟨ls, G6, ?_, okl, fun p hp => hA _ (by rw [← hk]; exact List.mem_map.mpr ⟨p, pm.mem_iff.mp hp, rfl⟩), by rw [pm.length_eq]; omega, ok6, by omega⟩
  walk_at "fdh"
theorem l_check_line {ks : List (Str × Int)} (hk : LineOk ks) : sem_check_line [.dct (kvL ks)] = some .non := by
  unfold sem_check_line fs_check_line
  have e := l_is_line hk
  walk_at "fdh"
theorem l_send_each {ks : List (Str × Int)} {es : List (Str × Span)} {fs : List (Str × Str)} (hk : LineOk ks) (h : StOk ks es) (hf : FrOk ks fs) :
    sem_send_each (.dct (kvS es)) [.dct (kvL ks), encB fs] = some (.lst ((sentE ks es fs).map encT), .dct (kvS (runE ks es fs))) := by
  unfold sem_send_each fs_send_each encB
  have lf := hf.len
  walk_at "fd"
  obtain ⟨δ', e1, v1, v2, rfl⟩ := fLoop_inv (fb := bTup 2 (bsCons (bName 4) (bsCons (bName 5) bsNil))) (ds := fs.map encF) (δ := [Sl.sh (.dct (kvL ks)), .ow (some 0) (.dct (kvS es)), .sh (.lst (fs.map encF)), .ow none (.lst []), .no, .no])
    (fs := sDrop (fOwnL 3 (fApp 3 (fCallM 4 1 sem_send_one (aCons (fVar 0) (aCons (fVar 1) (aCons (fVar 4) (aCons (fVar 5) aNil))))))))
    (fun i δ => ∃ v1 v2, δ = [Sl.sh (.dct (kvL ks)), .ow (some 0) (.dct (kvS (runE ks es (fs.take i)))), .sh (.lst (fs.map encF)), .ow none (.lst ((sentE ks es (fs.take i)).map encT)), v1, v2]) ⟨_, _, rfl⟩ (fun i d δ hd hI => by
      obtain ⟨v1, v2, rfl⟩ := hI
      rw [List.getElem?_map] at hd
      cases hp : fs[i]? with
      | none => rw [hp] at hd; cases hd
      | some p =>
        rw [hp] at hd
        cases hd
        have hm := hf.ok p (List.mem_of_getElem? hp)
        have ok := runE_ok hk (fs := fs.take i) h fun q hq => hf.ok q (List.mem_of_mem_take hq)
        have e := l_send_one hk ok hm.1 hm.2.1
        have el : ((sentE ks es (fs.take i)).map encT).length < 1000000 := by rw [List.length_map, sentE_len, List.length_take]; omega
        refine ⟨[Sl.sh (.dct (kvL ks)), .ow (some 0) (.dct (kvS (runE ks es (fs.take i)))), .sh (.lst (fs.map encF)), .ow none (.lst ((sentE ks es (fs.take i)).map encT)), .sh (.str p.1), .sh (.str p.2)],
          [Sl.sh (.dct (kvL ks)), .ow (some 0) (.dct (kvS (sendE ks (runE ks es (fs.take i)) p))), .sh (.lst (fs.map encF)), .ow none (.lst ((sentE ks es (fs.take i)).map encT ++ [encT (kindE ks (runE ks es (fs.take i)) p, reachE ks (runE ks es (fs.take i)) p)])), .sh (.str p.1), .sh (.str p.2)], rfl, ?_, .sh (.str p.1), .sh (.str p.2), ?_⟩
        · walk_at "fdh"
          first | done | rfl
        · rw [take_snoc hp, runE_snoc, sentE_snoc, List.map_append]; rfl)
  rw [List.length_map, List.take_length] at e1
  simp only [e1]
  walk_at "fd"
theorem l_is_state {ks : List (Str × Int)} {es : List (Str × Span)} (hk : LineOk ks) (h : StOk ks es) : sem_is_state [.dct (kvL ks), .dct (kvS es)] = some (.bl true) := by
  unfold sem_is_state fs_is_state
  have l2 := hk.len2
  have e0 := l_check_line hk
  have e1 := l_has_hosts_of hk h
  walk_at "fdh"
  rw [oLc_all (fun _ => .bl true) (δ1 := [Sl.sh (.dct (kvL ks)), .sh (.dct (kvS es)), .no]) (ds := Way.ds .keys (kvL ks)) rfl (by show (List.map _ _).length ≤ _; rw [List.length_map, len_kvL]; omega)]
  · simp only [getAll, Rv.get]
    rw [bAll_true]
  · intro d hd
    obtain ⟨x, hx, rfl⟩ := List.mem_map.mp hd
    obtain ⟨p, hp, rfl⟩ := List.mem_map.mp hx
    have hz : p.1 ∈ ks.map (·.1) := List.mem_map.mpr ⟨p, hp, rfl⟩
    obtain ⟨e, hm⟩ := spOf_look hk h hz
    have e2 := l_is_known_interval hk hz (h.ok _ hm)
    refine ⟨[Sl.sh (.dct (kvL ks)), .sh (.dct (kvS es)), .sh (.str p.1)], rfl, ?_, rfl⟩
    walk_at "fdh"
theorem l_is_frames {ks : List (Str × Int)} {fs : List (Str × Str)} (hk : LineOk ks) (hf : FrOk ks fs) : sem_is_frames [.dct (kvL ks), encB fs] = some (.bl true) := by
  have l1 := hf.len
  unfold sem_is_frames fs_is_frames encB
  have e := l_check_line hk
  have e2 := l_is_list (fs.map encF)
  have q : ¬ (300 : Int) < (fs.length : Int) := by omega
  walk_at "fdh"
  simp only [List.length_map]
  walk_at "fdh"
  rw [oLc_all (fun _ => .bl true) (δ1 := [Sl.sh (.dct (kvL ks)), .sh (.lst (fs.map encF)), .no]) (ds := fs.map encF) rfl (by rw [List.length_map]; omega)]
  · simp only [getAll, Rv.get]
    rw [bAll_true]
  · intro d hd
    obtain ⟨p, hp, rfl⟩ := List.mem_map.mp hd
    obtain ⟨a, b, c⟩ := hf.ok p hp
    have e3 := l_is_frame hk a b c
    refine ⟨[Sl.sh (.dct (kvL ks)), .sh (.lst (fs.map encF)), .sh (encF p)], rfl, ?_, rfl⟩
    walk_at "fdh"
theorem l_check_state {ks : List (Str × Int)} {es : List (Str × Span)} (hk : LineOk ks) (h : StOk ks es) : sem_check_state [.dct (kvL ks), .dct (kvS es)] = some .non := by
  unfold sem_check_state fs_check_state
  have e := l_is_state hk h
  walk_at "fdh"
theorem l_check_frames {ks : List (Str × Int)} {fs : List (Str × Str)} (hk : LineOk ks) (hf : FrOk ks fs) : sem_check_frames [.dct (kvL ks), encB fs] = some .non := by
  unfold sem_check_frames fs_check_frames
  have e := l_is_frames hk hf
  walk_at "fdh"
theorem l_starting_none {ks : List (Str × Int)} (hk : LineOk ks) : sem_starting_state [.dct (kvL ks), .non] = some (.dct (kvS (silE ks))) := by
  unfold sem_starting_state fs_starting_state
  have e := l_silent_state hk
  walk_at "fdh"
theorem l_starting_some {ks : List (Str × Int)} {es : List (Str × Span)} (hk : LineOk ks) (h : StOk ks es) : sem_starting_state [.dct (kvL ks), .dct (kvS es)] = some (.dct (kvS es)) := by
  unfold sem_starting_state fs_starting_state
  have e := l_check_state hk h
  walk_at "fdh"
  simp only [bDict]
theorem l_kinds_from {ks : List (Str × Int)} {es : List (Str × Span)} {fs : List (Str × Str)} {st : Dv} (hk : LineOk ks) (h : StOk ks es) (hf : FrOk ks fs) (hs : sem_starting_state [.dct (kvL ks), st] = some (.dct (kvS es))) :
    sem_kinds_of [.dct (kvL ks), encB fs, st] = some (.lst ((sentE ks es fs).map fun x => .str x.1)) := by
  unfold sem_kinds_of fs_kinds_of
  have lf := hf.len
  have e1 := l_check_frames hk hf
  have e2 := l_send_each hk h hf
  walk_at "fdh"
  rw [oLc_all (fun d => match d with | .tup [a, _] => a | _ => .non) (δ1 := [Sl.sh (.dct (kvL ks)), .sh (encB fs), .sh st, .sh (.lst ((sentE ks es fs).map encT)), .no, .no]) (ds := (sentE ks es fs).map encT) rfl (by rw [List.length_map, sentE_len]; omega)]
  · simp only [List.map_map]; rfl
  · intro d hd
    obtain ⟨x, hx, rfl⟩ := List.mem_map.mp hd
    exact ⟨[Sl.sh (.dct (kvL ks)), .sh (encB fs), .sh st, .sh (.lst ((sentE ks es fs).map encT)), .sh (.str x.1), .sh (encS (some x.2))], rfl, rfl, rfl⟩
theorem l_known_from {ks : List (Str × Int)} {es : List (Str × Span)} {fs : List (Str × Str)} {st : Dv} (hk : LineOk ks) (h : StOk ks es) (hf : FrOk ks fs) (hs : sem_starting_state [.dct (kvL ks), st] = some (.dct (kvS es))) :
    sem_known_after [.dct (kvL ks), encB fs, st] = some (.dct (kvS (sortE (runE ks es fs)))) := by
  unfold sem_known_after fs_known_after
  have l2 := hk.len2
  have e1 := l_check_frames hk hf
  have e2 := l_send_each hk h hf
  have ok := runE_ok hk (fs := fs) h hf.ok
  have nd := ok.nd hk
  have len := ok.len
  have hss : bSort [.dct (kvS (runE ks es fs))] = some (.lst ((srt leS ((runE ks es fs).map (·.1))).map Dv.str)) := by
    unfold bSort
    simp only [skeys_st, List.length_map]
    rw [if_pos (by omega)]
  walk_at "fdh"
  have lS : (srt leS ((runE ks es fs).map (·.1))).length ≤ 40 := by rw [(srt_perm leS _).length_eq, List.length_map]; omega
  rw [oDc_all (δ1 := [Sl.sh (.dct (kvL ks)), .sh (encB fs), .sh st, .sh (.dct (kvS (runE ks es fs))), .no]) (ds := (srt leS ((runE ks es fs).map (·.1))).map Dv.str) (fun d => d) (fun d => (keyOf d).getD (.inl 0)) (fun d => match d with | .str z => encS (spOf (runE ks es fs) z) | _ => .non) (by walk_at "fdh") (by rw [List.length_map]; omega)]
  · simp only [List.map_map, kvS, sortE]; rfl
  · intro d hd
    obtain ⟨z, hz, rfl⟩ := List.mem_map.mp hd
    have hz2 := ok.pm.mem_iff.mp ((srt_perm leS _).mem_iff.mp hz)
    have e3 := (spOf_look hk ok hz2).1
    refine ⟨[Sl.sh (.dct (kvL ks)), .sh (encB fs), .sh st, .sh (.dct (kvS (runE ks es fs))), .sh (.str z)], rfl, rfl, rfl, ?_, rfl⟩
    walk_at "fdh"
  · rw [List.map_map]
    have : ((fun d => (keyOf d).getD (.inl 0)) ∘ Dv.str) = Sum.inr := rfl
    rw [this]
    exact List.Pairwise.map _ (fun a b h e => h (Sum.inr.inj e)) ((srt_perm leS _).nodup_iff.mpr nd)
theorem l_heard_from {ks : List (Str × Int)} {es : List (Str × Span)} {fs : List (Str × Str)} {st : Dv} {p : Int} (hk : LineOk ks) (h : StOk ks es) (hf : FrOk ks fs) (hs : sem_starting_state [.dct (kvL ks), st] = some (.dct (kvS es))) (h0 : -(10 ^ 30) ≤ p) (h1 : p ≤ 10 ^ 30) :
    ∃ L, sem_heard_at [.dct (kvL ks), encB fs, .int p, st] = some (.lst L) ∧ L.length = hitsN (sentE ks es fs) p := by
  have lf := hf.len
  have e1 := l_check_frames hk hf
  have e2 := l_send_each hk h hf
  have e3 := l_check_position h0 h1
  have hcnt := enum_cnt (f := encT) (P := fun d => match d with | .tup [_, .tup [_, r]] => (match sem_contains [r, .int p] with | some (.bl b) => b | _ => false) | _ => false) (Q := fun x => inSpan (some x.2) p) (fun i x => by
    show (match sem_contains [encS (some x.2), .int p] with | some (.bl b) => b | _ => false) = _
    rw [l_contains]) (sentE ks es fs) 0
  have hl : (enumD ((sentE ks es fs).map encT)).length ≤ 100000 := by unfold enumD; rw [List.length_map, List.length_zipIdx, List.length_map, sentE_len]; omega
  obtain ⟨E, hE⟩ : ∃ E, enumD ((sentE ks es fs).map encT) = E := ⟨_, rfl⟩
  refine ⟨(E.filter (fun d => match d with | .tup [_, .tup [_, r]] => (match sem_contains [r, .int p] with | some (.bl b) => b | _ => false) | _ => false)).map (fun d => match d with | .tup [i, _] => i | _ => .non), ?_, by
    rw [List.length_map, ← hE]; exact hcnt⟩
  have hlc : oLc (itE (aCons (fVar 4) aNil)) (bTup 2 (bsCons (bName 5) (bsCons (bTup 2 (bsCons (bName 6) (bsCons (bName 7) bsNil))) bsNil))) (tstB (fCallP sem_contains (ckLen 2 (aCons (fVar 7) (aCons (fVar 2) aNil))))) (fVar 5) [5, 6, 7] [Sl.sh (.dct (kvL ks)), .sh (encB fs), .sh (.int p), .sh st, .sh (.lst ((sentE ks es fs).map encT)), .no, .no, .no] =
      some (.lst ((E.filter (fun d => match d with | .tup [_, .tup [_, r]] => (match sem_contains [r, .int p] with | some (.bl b) => b | _ => false) | _ => false)).map (fun d => match d with | .tup [i, _] => i | _ => .non)), [Sl.sh (.dct (kvL ks)), .sh (encB fs), .sh (.int p), .sh st, .sh (.lst ((sentE ks es fs).map encT)), .no, .no, .no]) := by
    rw [oLc_pure (δ1 := [Sl.sh (.dct (kvL ks)), .sh (encB fs), .sh (.int p), .sh st, .sh (.lst ((sentE ks es fs).map encT)), .no, .no, .no]) (ds := E) (fun d => match d with | .tup [_, .tup [_, r]] => (match sem_contains [r, .int p] with | some (.bl b) => b | _ => false) | _ => false) (fun d => match d with | .tup [i, _] => i | _ => .non) (by rw [← hE]; rfl) (by rw [← hE]; exact hl) (fun d hd => by
      rw [← hE] at hd
      unfold enumD at hd
      obtain ⟨q, hq, rfl⟩ := List.mem_map.mp hd
      have hq1 := List.fst_mem_of_mem_zipIdx hq
      obtain ⟨x, hx, e⟩ := List.mem_map.mp hq1
      rw [← e]
      have e4 := l_contains (some x.2) p
      refine ⟨[Sl.sh (.dct (kvL ks)), .sh (encB fs), .sh (.int p), .sh st, .sh (.lst ((sentE ks es fs).map encT)), .sh (.int (q.2 : Nat)), .sh (.str x.1), .sh (encS (some x.2))], rfl, ?_, fun _ => rfl, rfl⟩
      show (tstB (fCallP sem_contains (ckLen 2 (aCons (fVar 7) (aCons (fVar 2) aNil))))) _ = some ((match sem_contains [encS (some x.2), .int p] with | some (.bl b) => b | _ => false), _)
      clear hcnt hE hl hs e1 e2 e3 hd hq1
      walk_at "fdh")]
    rfl
  unfold sem_heard_at fs_heard_at
  clear hcnt hl hE h0 h1
  walk_at "fdh"
theorem l_kinds_in_round {ks : List (Str × Int)} {fs : List (Str × Str)} {n : Int} (hk : LineOk ks) (hf : FrOk ks fs) (h0 : 0 ≤ n) (h1 : n ≤ 1000000000000000000000000000000) :
    sem_kinds_in_round [.dct (kvL ks), encB fs, .int n] = some (.lst ((sentE ks (if n = 0 then silE ks else sortE (runE ks (silE ks) fs)) fs).map fun x => .str x.1)) := by
  have e1 := l_check_frames hk hf
  have e2 := l_check_number h0 h1
  have e3 := l_kinds_from hk silE_ok hf (l_starting_none hk)
  have e4 := l_known_from hk silE_ok hf (l_starting_none hk)
  have ok1 := sortE_ok hk (runE_ok hk (fs := fs) (silE_ok (ks := ks)) hf.ok)
  have e5 := l_kinds_from hk ok1 hf (l_starting_some hk ok1)
  unfold sem_kinds_in_round fs_kinds_in_round
  by_cases c : n = 0
  · have cb : decide (n = 0) = true := decide_eq_true c
    rw [if_pos c]
    clear c h0 h1
    walk_at "fdh"
  · have cb : decide (n = 0) = false := decide_eq_false c
    rw [if_neg c]
    clear c h0 h1
    walk_at "fdh"
theorem l_load_after {ks : List (Str × Int)} {fs : List (Str × Str)} {n p : Int} (hk : LineOk ks) (hf : FrOk ks fs) (h0 : 1 ≤ n) (h1 : n ≤ 1000) (p0 : -(10 ^ 30) ≤ p) (p1 : p ≤ 10 ^ 30) :
    sem_load_after [.dct (kvL ks), encB fs, .int n, .int p] = some (.int ((hitsN (sentE ks (silE ks) fs) p : Int) + (hitsN (sentE ks (sortE (runE ks (silE ks) fs)) fs) p : Int) * (n - 1))) := by
  have e1 := l_check_frames hk hf
  have e2 := l_check_number (n := n) (a := 0) (b := 1000000000000000000000000000000) (by omega) (by omega)
  have e6 := l_check_position p0 p1
  obtain ⟨L1, e3, l1⟩ := l_heard_from (p := p) hk silE_ok hf (l_starting_none hk) p0 p1
  have e4 := l_known_from hk silE_ok hf (l_starting_none hk)
  have ok1 := sortE_ok hk (runE_ok hk (fs := fs) (silE_ok (ks := ks)) hf.ok)
  obtain ⟨L2, e5, l2⟩ := l_heard_from (p := p) hk ok1 hf (l_starting_some hk ok1) p0 p1
  have lf := hf.len
  have hl2 : L2.length ≤ 300 := by rw [l2]; unfold hitsN; refine Nat.le_trans (List.length_filter_le _ _) ?_; rw [sentE_len]; exact lf
  have b3 : (1000 : Nat) < 2 ^ 250 := by decide
  have hm : oMul (.int (L2.length : Int)) (.int (n - 1)) = some (.int ((L2.length : Int) * (n - 1))) := by
    refine oMul_ok (Nat.lt_of_le_of_lt ?_ b3) (Nat.lt_of_le_of_lt ?_ b3) <;> omega
  have cb : decide (n = 0) = false := decide_eq_false (by omega)
  rw [← l1, ← l2]
  unfold sem_load_after fs_load_after
  clear h0 h1 p0 p1 l1 l2 lf
  walk_at "fdh"
/-- one frame -/
theorem l_frame {ks : List (Str × Int)} {es : List (Str × Span)} {W : List Int} {wl wh : Int} {M : Str → List Int} {C : Int → Int} {p : Str × Str} {due : List Dv} {vf vp v8 v9 v10 v11 v12 : Sl} {num : Int} {B : Nat}
    (hk : LineOk ks) (h : StOk ks es) (hp : ∀ z ∈ ks.map (·.1), wl ≤ posOf ks z ∧ posOf ks z ≤ wh) (hW : ∀ j, j ∈ W ↔ wl ≤ j ∧ j ≤ wh) (hwh : wh - wl ≤ 1000) (lW : W.length ≤ 1001) (hM : Lrn ks wl wh es M) (hB : ∀ z ∈ ks.map (·.1), (M z).length ≤ B) (b1 : B ≤ 900000)
    (h1 : p.1 ∈ ks.map (·.1)) (h2 : p.2 ∈ ks.map (·.1)) (hn : p.1 ≠ p.2) (ld : due.length < 1000000) :
    ∃ δ2, (sSeq (sAsg (fCallP sem__law_passed (ckLen 4 (aCons (fVar 3) (aCons (fDGet (fVar 4) (fVar 9)) (aCons (fDGet (fVar 0) (fVar 8)) (aCons (fDGet (fVar 0) (fVar 9)) aNil)))))) (bName 10)) (sSeq (sDrop (fOwnL 7 (fApp 7 (fCallP sem__law_kind (ckLen 2 (aCons (fDGet (fVar 4) (fVar 9)) (aCons (fDGet (fVar 0) (fVar 8)) aNil))))))) (sSeq (sPut 4 (fVar 8) (fZ (oOp oCat (fDGet (fVar 4) (fVar 8)) (fZ (oLc (itL (fVar 10)) (bName 11) (tstB (fOp oNotInF (fVar 11) (fDGet (fVar 4) (fVar 8)))) (fVar 11) [11]))))) (sFor (itL (fVar 10)) (bName 11) (sPut 5 (fVar 11) (fOp oAdd (fDGet (fVar 5) (fVar 11)) (fC (.int 1))))))))
      [Sl.sh (.dct (kvL ks)), vf, vp, .sh (.lst (W.map Dv.int)), .ow none (.dct (kvM (ks.map (·.1)) M)), .ow none (.dct (kvC W C)), .sh (.int num), .ow none (.lst due), .sh (.str p.1), .sh (.str p.2), v10, v11, v12] = some (.nx, δ2) ∧
      ∃ (M' : Str → List Int) (v10 v11 v12 : Sl), δ2 = [Sl.sh (.dct (kvL ks)), vf, vp, .sh (.lst (W.map Dv.int)), .ow none (.dct (kvM (ks.map (·.1)) M')), .ow none (.dct (kvC W (fun j => C j + (if inSpan (some (reachE ks es p)) j = true ∧ j ∈ W then 1 else 0)))), .sh (.int num), .ow none (.lst (due ++ [.str (kindE ks es p)])), .sh (.str p.1), .sh (.str p.2), v10, v11, v12] ∧
        Lrn ks wl wh (sendE ks es p) M' ∧ (∀ z ∈ ks.map (·.1), (M' z).length ≤ B + 1001) := by
  have own : spOf es p.2 ≠ none → inSpan (spOf es p.2) (posOf ks p.2) = true := fun n => own_in (h.ok _ (spOf_look hk h h2).2) n
  obtain ⟨ra, rb, q1, q2, HR, HL, hr⟩ := flood_reach hW (hM _ h2) own (hp _ h1) (hp _ h2) (fun e => hn (pos_inj hk h1 h2 e))
  obtain ⟨F, eF, lF, ndF, hF⟩ := l__law_passed q1 (by omega) HR HL
  have hF2 : ∀ j, j ∈ F ↔ (wl ≤ j ∧ j ≤ wh) ∧ inSpan (some (reachE ks es p)) j = true := fun j => by rw [hF, hr]; rfl
  have hk1 := l__law_kind (M p.2) (posOf ks p.1)
  rw [lrn_kind hk h hp hM h1 h2] at hk1
  have k1 := lookK_line (posOf_in h1) hk.ndn
  have k2 := lookK_line (posOf_in h2) hk.ndn
  have m1 := kvM_look (M := M) h1
  have m2 := kvM_look (M := M) h2
  have hput := kvM_put (M := M) (L := M p.1 ++ F.filter (fun j => !decide (j ∈ M p.1))) h1
  have lks := hk.len2
  have lM : (kvM (ks.map (·.1)) M).length < 1000000 := by unfold kvM; rw [List.length_map, List.length_map]; omega
  have lC : ∀ C, (kvC W C).length < 1000000 := fun C => by unfold kvC; rw [List.length_map]; omega
  have bM := hB _ h1
  have lFf := List.length_filter_le (fun j => !decide (j ∈ M p.1)) F
  have hnew := lrn_send hk h hM h1 h2 hF2
  clear HR HL hr hF q1 q2 own hM
  refine sSeq_ex (fun δ => δ = [Sl.sh (.dct (kvL ks)), vf, vp, .sh (.lst (W.map Dv.int)), .ow none (.dct (kvM (ks.map (·.1)) M)), .ow none (.dct (kvC W C)), .sh (.int num), .ow none (.lst due), .sh (.str p.1), .sh (.str p.2), .sh (.lst (F.map Dv.int)), v11, v12]) ?_ ?_
  · refine ⟨_, ?_, rfl⟩
    clear hF2 hnew hp hW hB hk1 hput lC lFf
    walk_at "fdh"
  rintro δ rfl
  refine sSeq_ex (fun δ => δ = [Sl.sh (.dct (kvL ks)), vf, vp, .sh (.lst (W.map Dv.int)), .ow none (.dct (kvM (ks.map (·.1)) M)), .ow none (.dct (kvC W C)), .sh (.int num), .ow none (.lst (due ++ [.str (kindE ks es p)])), .sh (.str p.1), .sh (.str p.2), .sh (.lst (F.map Dv.int)), v11, v12]) ?_ ?_
  · refine ⟨_, ?_, rfl⟩
    unfold kindE
    clear hF2 hnew hp hW hB hput lC lFf
    walk_at "fdh"
  rintro δ rfl
  refine sSeq_ex (fun δ => δ = [Sl.sh (.dct (kvL ks)), vf, vp, .sh (.lst (W.map Dv.int)), .ow none (.dct (kvM (ks.map (·.1)) (fun y => if y = p.1 then M p.1 ++ F.filter (fun j => !decide (j ∈ M p.1)) else M y))), .ow none (.dct (kvC W C)), .sh (.int num), .ow none (.lst (due ++ [.str (kindE ks es p)])), .sh (.str p.1), .sh (.str p.2), .sh (.lst (F.map Dv.int)), .no, v12]) ?_ ?_
  · refine ⟨_, ?_, rfl⟩
    have hlc : oLc (itL (fVar 10)) (bName 11) (tstB (fOp oNotInF (fVar 11) (fDGet (fVar 4) (fVar 8)))) (fVar 11) [11] [Sl.sh (.dct (kvL ks)), vf, vp, .sh (.lst (W.map Dv.int)), .ow none (.dct (kvM (ks.map (·.1)) M)), .ow none (.dct (kvC W C)), .sh (.int num), .ow none (.lst (due ++ [.str (kindE ks es p)])), .sh (.str p.1), .sh (.str p.2), .sh (.lst (F.map Dv.int)), v11, v12] = some (.lst ((F.filter (fun j => !decide (j ∈ M p.1))).map Dv.int), [Sl.sh (.dct (kvL ks)), vf, vp, .sh (.lst (W.map Dv.int)), .ow none (.dct (kvM (ks.map (·.1)) M)), .ow none (.dct (kvC W C)), .sh (.int num), .ow none (.lst (due ++ [.str (kindE ks es p)])), .sh (.str p.1), .sh (.str p.2), .sh (.lst (F.map Dv.int)), .no, v12]) := by
      rw [oLc_pure (fun d => match d with | .int j => !decide (j ∈ M p.1) | _ => false) (fun d => d) (ds := F.map Dv.int) rfl (by rw [List.length_map]; omega) (fun d hd => by
        obtain ⟨j, hj, rfl⟩ := List.mem_map.mp hd
        have e := notInF_ints j (M p.1)
        refine ⟨_, rfl, ?_, fun _ => rfl, rfl⟩
        clear hF2 hnew hp hW hB hput lC lFf hk1 hd hj
        walk_at "fdh")]
      rw [List.map_id', List.filter_map]; rfl
    have lcat : ((M p.1).map Dv.int).length + ((F.filter (fun j => !decide (j ∈ M p.1))).map Dv.int).length ≤ 1000000 := by rw [List.length_map, List.length_map]; omega
    rw [List.map_append] at hput
    generalize F.filter (fun j => !decide (j ∈ M p.1)) = G at hlc hput lcat
    generalize (M p.1).map Dv.int = M1 at m1 hput lcat
    generalize G.map Dv.int = G1 at hlc hput lcat
    clear hF2 hnew hp hW hB lFf hk1 m2
    walk_at "fdh"
  rintro δ rfl
  have eI : itL (fVar 10) [Sl.sh (.dct (kvL ks)), vf, vp, .sh (.lst (W.map Dv.int)), .ow none (.dct (kvM (ks.map (·.1)) (fun y => if y = p.1 then M p.1 ++ F.filter (fun j => !decide (j ∈ M p.1)) else M y))), .ow none (.dct (kvC W C)), .sh (.int num), .ow none (.lst (due ++ [.str (kindE ks es p)])), .sh (.str p.1), .sh (.str p.2), .sh (.lst (F.map Dv.int)), .no, v12] = some (F.map Dv.int, [Sl.sh (.dct (kvL ks)), vf, vp, .sh (.lst (W.map Dv.int)), .ow none (.dct (kvM (ks.map (·.1)) (fun y => if y = p.1 then M p.1 ++ F.filter (fun j => !decide (j ∈ M p.1)) else M y))), .ow none (.dct (kvC W C)), .sh (.int num), .ow none (.lst (due ++ [.str (kindE ks es p)])), .sh (.str p.1), .sh (.str p.2), .sh (.lst (F.map Dv.int)), .no, v12]) := rfl
  unfold sFor
  rw [eI]
  simp only
  have hmem : ∀ j, j ∈ F ↔ (inSpan (some (reachE ks es p)) j = true ∧ j ∈ W) := fun j => by rw [hF2, hW]; exact And.comm
  obtain ⟨δ', eL, v11', rfl⟩ := fLoop_inv2 (ds := F.map Dv.int) (fb := bName 11) (fs := sPut 5 (fVar 11) (fOp oAdd (fDGet (fVar 5) (fVar 11)) (fC (.int 1)))) (δ := [Sl.sh (.dct (kvL ks)), vf, vp, .sh (.lst (W.map Dv.int)), .ow none (.dct (kvM (ks.map (·.1)) (fun y => if y = p.1 then M p.1 ++ F.filter (fun j => !decide (j ∈ M p.1)) else M y))), .ow none (.dct (kvC W C)), .sh (.int num), .ow none (.lst (due ++ [.str (kindE ks es p)])), .sh (.str p.1), .sh (.str p.2), .sh (.lst (F.map Dv.int)), .no, v12])
    (fun (i : Nat) (δ : Env) => ∃ v11, δ = [Sl.sh (.dct (kvL ks)), vf, vp, .sh (.lst (W.map Dv.int)), .ow none (.dct (kvM (ks.map (·.1)) (fun y => if y = p.1 then M p.1 ++ F.filter (fun j => !decide (j ∈ M p.1)) else M y))), .ow none (.dct (kvC W (fun j => C j + (if j ∈ F.take i then 1 else 0)))), .sh (.int num), .ow none (.lst (due ++ [.str (kindE ks es p)])), .sh (.str p.1), .sh (.str p.2), .sh (.lst (F.map Dv.int)), v11, v12])
    ⟨.no, by simp⟩ (by
      rintro i d δ hd ⟨v11, rfl⟩
      rw [List.getElem?_map] at hd
      obtain ⟨t, ht, rfl⟩ := Option.map_eq_some_iff.mp hd
      have tW : t ∈ W := ((hmem t).mp (List.mem_of_getElem? ht)).2
      have tn : t ∉ F.take i := fun q => by
        have e1 := take_snoc ht
        have e2 : (F.take (i + 1)).Nodup := ndF.sublist (List.take_sublist _ _)
        rw [e1, List.nodup_append] at e2
        exact e2.2.2 t q t (by simp) rfl
      have look := kvC_look (C := fun j => C j + (if j ∈ F.take i then 1 else 0)) tW
      have put := kvC_put (C := fun j => C j + (if j ∈ F.take i then 1 else 0)) (c := C t + (if t ∈ F.take i then 1 else 0) + 1) tW
      have hfun : (fun y => if y = t then C t + (if t ∈ F.take i then 1 else 0) + 1 else C y + (if y ∈ F.take i then 1 else 0)) = (fun j => C j + (if j ∈ F.take (i + 1) then (1 : Int) else 0)) := by
        funext y
        rw [take_snoc ht]
        by_cases e : y = t
        · subst e
          rw [if_pos rfl, if_neg tn, if_pos (by simp)]; omega
        · rw [if_neg e]
          simp only [List.mem_append, List.mem_singleton, e, or_false]
      rw [hfun] at put
      have lC2 := lC (fun j => C j + (if j ∈ F.take i then 1 else 0))
      refine ⟨_, rfl, _, ?_, .sh (.int t), rfl⟩
      clear hmem hfun tn ht hd eI hF2 hnew hp hW hB hput lFf hk1 lC m1 m2
      generalize F.take (i + 1) = T1 at put ⊢
      generalize F.take i = T0 at look put lC2 ⊢
      walk_at "fdh")
  refine ⟨_, eL, fun y => if y = p.1 then M p.1 ++ F.filter (fun j => !decide (j ∈ M p.1)) else M y, .sh (.lst (F.map Dv.int)), v11', v12, ?_, hnew, fun z hz => ?_⟩
  · rw [List.length_map, List.take_length]
    have : (fun j => C j + (if j ∈ F then (1 : Int) else 0)) = (fun j => C j + (if inSpan (some (reachE ks es p)) j = true ∧ j ∈ W then 1 else 0)) := by
      funext j
      simp only [hmem j]
    rw [this]
  · show (if z = p.1 then M p.1 ++ F.filter (fun j => !decide (j ∈ M p.1)) else M z).length ≤ _
    have := hB z hz
    split
    · rw [List.length_append]; omega
    · omega
/-- one round -/
theorem l_round {ks : List (Str × Int)} {es : List (Str × Span)} {fs : List (Str × Str)} {W : List Int} {wl wh : Int} {M : Str → List Int} {C : Int → Int} {vp v7 v8 v9 v10 v11 v12 : Sl} {i : Nat} {B : Nat}
    (hk : LineOk ks) (h : StOk ks es) (hf : FrOk ks fs) (hp : ∀ z ∈ ks.map (·.1), wl ≤ posOf ks z ∧ posOf ks z ≤ wh) (hW : ∀ j, j ∈ W ↔ wl ≤ j ∧ j ≤ wh) (w0 : -1000 ≤ wl) (w1 : wh ≤ 1000) (hwh : wh - wl ≤ 1000) (lW : W.length ≤ 1001) (hM : Lrn ks wl wh es M) (hB : ∀ z ∈ ks.map (·.1), (M z).length ≤ B) (b1 : B + 1001 * 20 ≤ 900000) (lf : fs.length ≤ 20) (hi : i < 3)
    (hes : (i = 0 ∧ es = silE ks) ∨ (1 ≤ i ∧ SpEq ks es (sortE (runE ks (silE ks) fs))))
    (hC : ∀ j ∈ W, C j = if i = 0 then 0 else (hitsN (sentE ks (silE ks) fs) j : Int) + (hitsN (sentE ks (sortE (runE ks (silE ks) fs)) fs) j : Int) * ((i : Int) - 1)) :
    ∃ δ2, (sSeq (sAsgO 7 (oLst aNil)) (sSeq (sFor (itL (fVar 1)) (bTup 2 (bsCons (bName 8) (bsCons (bName 9) bsNil))) (sSeq (sAsg (fCallP sem__law_passed (ckLen 4 (aCons (fVar 3) (aCons (fDGet (fVar 4) (fVar 9)) (aCons (fDGet (fVar 0) (fVar 8)) (aCons (fDGet (fVar 0) (fVar 9)) aNil)))))) (bName 10)) (sSeq (sDrop (fOwnL 7 (fApp 7 (fCallP sem__law_kind (ckLen 2 (aCons (fDGet (fVar 4) (fVar 9)) (aCons (fDGet (fVar 0) (fVar 8)) aNil))))))) (sSeq (sPut 4 (fVar 8) (fZ (oOp oCat (fDGet (fVar 4) (fVar 8)) (fZ (oLc (itL (fVar 10)) (bName 11) (tstB (fOp oNotInF (fVar 11) (fDGet (fVar 4) (fVar 8)))) (fVar 11) [11]))))) (sFor (itL (fVar 10)) (bName 11) (sPut 5 (fVar 11) (fOp oAdd (fDGet (fVar 5) (fVar 11)) (fC (.int 1))))))))) (sSeq (sIf (tstB (fOp oNeX (fCallP sem_kinds_in_round (ckLen 3 (aCons (fVar 0) (aCons (fVar 1) (aCons (fVar 6) aNil))))) (fVar 7))) (sRet (fC (.bl false))) sNext) (sIf (tstB (fOp oNeX (fZ (oLc (itL (fVar 3)) (bName 11) tstYes (fCallP sem_load_after (ckLen 4 (aCons (fVar 0) (aCons (fVar 1) (aCons (fOp oAdd (fVar 6) (fC (.int 1))) (aCons (fVar 11) aNil)))))) [11])) (fZ (oLc (itL (fVar 3)) (bName 11) tstYes (fDGet (fVar 5) (fVar 11)) [11])))) (sRet (fC (.bl false))) sNext))))
      [Sl.sh (.dct (kvL ks)), .sh (.lst (fs.map encF)), vp, .sh (.lst (W.map Dv.int)), .ow none (.dct (kvM (ks.map (·.1)) M)), .ow none (.dct (kvC W C)), .sh (.int (i : Int)), v7, v8, v9, v10, v11, v12] = some (.nx, δ2) ∧
      ∃ (M' : Str → List Int) (C' : Int → Int) (v7 v8 v9 v10 v11 v12 : Sl), δ2 = [Sl.sh (.dct (kvL ks)), .sh (.lst (fs.map encF)), vp, .sh (.lst (W.map Dv.int)), .ow none (.dct (kvM (ks.map (·.1)) M')), .ow none (.dct (kvC W C')), .sh (.int (i : Int)), v7, v8, v9, v10, v11, v12] ∧
        Lrn ks wl wh (runE ks es fs) M' ∧ (∀ z ∈ ks.map (·.1), (M' z).length ≤ B + 1001 * 20) ∧ (∀ j ∈ W, C' j = (hitsN (sentE ks (silE ks) fs) j : Int) + (hitsN (sentE ks (sortE (runE ks (silE ks) fs)) fs) j : Int) * (i : Int)) ∧ SpEq ks (runE ks es fs) (sortE (runE ks (silE ks) fs)) := by
  have okS : StOk ks (silE ks) := silE_ok
  have ok1 := runE_ok hk (fs := fs) okS hf.ok
  have okE := sortE_ok hk ok1
  -- what the round sends
  have hsent : sentE ks es fs = sentE ks (if (i : Int) = 0 then silE ks else sortE (runE ks (silE ks) fs)) fs ∧ SpEq ks (runE ks es fs) (sortE (runE ks (silE ks) fs)) := by
    rcases hes with ⟨rfl, rfl⟩ | ⟨h1, hq⟩
    · exact ⟨by rw [if_pos (show ((0 : Nat) : Int) = 0 from rfl)], fun z hz => (sortE_sp hk ok1 z hz).symm⟩
    · obtain ⟨r1, r2⟩ := SpEq.run hk (fs := fs) h okE hq hf.ok
      rw [again hk okS hf.ok] at r1
      exact ⟨by rw [if_neg (by omega)]; exact r2, r1⟩
  obtain ⟨hsent, hq'⟩ := hsent
  have hcount : ∀ j ∈ W, C j + (hitsN (sentE ks es fs) j : Int) = (hitsN (sentE ks (silE ks) fs) j : Int) + (hitsN (sentE ks (sortE (runE ks (silE ks) fs)) fs) j : Int) * (i : Int) := fun j hj => by
    rw [hC j hj, hsent]
    by_cases c : i = 0
    · subst c
      simp
    · rw [if_neg c, if_neg (by omega), Int.mul_sub]; omega
  refine sSeq_ex (fun δ => δ = [Sl.sh (.dct (kvL ks)), .sh (.lst (fs.map encF)), vp, .sh (.lst (W.map Dv.int)), .ow none (.dct (kvM (ks.map (·.1)) M)), .ow none (.dct (kvC W C)), .sh (.int (i : Int)), .ow none (.lst []), v8, v9, v10, v11, v12]) ?_ ?_
  · exact ⟨_, rfl, rfl⟩
  rintro δ rfl
  refine sSeq_ex (fun δ => ∃ (M' : Str → List Int) (C' : Int → Int) (v8 v9 v10 v11 v12 : Sl), δ = [Sl.sh (.dct (kvL ks)), .sh (.lst (fs.map encF)), vp, .sh (.lst (W.map Dv.int)), .ow none (.dct (kvM (ks.map (·.1)) M')), .ow none (.dct (kvC W C')), .sh (.int (i : Int)), .ow none (.lst ((sentE ks es fs).map fun x => .str x.1)), v8, v9, v10, v11, v12] ∧ Lrn ks wl wh (runE ks es fs) M' ∧ (∀ z ∈ ks.map (·.1), (M' z).length ≤ B + 1001 * 20) ∧ (∀ j ∈ W, C' j = C j + (hitsN (sentE ks es fs) j : Int))) ?_ ?_
  · have eI : itL (fVar 1) [Sl.sh (.dct (kvL ks)), .sh (.lst (fs.map encF)), vp, .sh (.lst (W.map Dv.int)), .ow none (.dct (kvM (ks.map (·.1)) M)), .ow none (.dct (kvC W C)), .sh (.int (i : Int)), .ow none (.lst []), v8, v9, v10, v11, v12] = some (fs.map encF, [Sl.sh (.dct (kvL ks)), .sh (.lst (fs.map encF)), vp, .sh (.lst (W.map Dv.int)), .ow none (.dct (kvM (ks.map (·.1)) M)), .ow none (.dct (kvC W C)), .sh (.int (i : Int)), .ow none (.lst []), v8, v9, v10, v11, v12]) := rfl
    unfold sFor
    rw [eI]
    simp only
    obtain ⟨δ', eL, M', C', v8', v9', v10', v11', v12', rfl, q1, q2, q3⟩ := fLoop_inv2 (ds := fs.map encF) (fb := bTup 2 (bsCons (bName 8) (bsCons (bName 9) bsNil))) (fs := (sSeq (sAsg (fCallP sem__law_passed (ckLen 4 (aCons (fVar 3) (aCons (fDGet (fVar 4) (fVar 9)) (aCons (fDGet (fVar 0) (fVar 8)) (aCons (fDGet (fVar 0) (fVar 9)) aNil)))))) (bName 10)) (sSeq (sDrop (fOwnL 7 (fApp 7 (fCallP sem__law_kind (ckLen 2 (aCons (fDGet (fVar 4) (fVar 9)) (aCons (fDGet (fVar 0) (fVar 8)) aNil))))))) (sSeq (sPut 4 (fVar 8) (fZ (oOp oCat (fDGet (fVar 4) (fVar 8)) (fZ (oLc (itL (fVar 10)) (bName 11) (tstB (fOp oNotInF (fVar 11) (fDGet (fVar 4) (fVar 8)))) (fVar 11) [11]))))) (sFor (itL (fVar 10)) (bName 11) (sPut 5 (fVar 11) (fOp oAdd (fDGet (fVar 5) (fVar 11)) (fC (.int 1))))))))) (δ := [Sl.sh (.dct (kvL ks)), .sh (.lst (fs.map encF)), vp, .sh (.lst (W.map Dv.int)), .ow none (.dct (kvM (ks.map (·.1)) M)), .ow none (.dct (kvC W C)), .sh (.int (i : Int)), .ow none (.lst []), v8, v9, v10, v11, v12])
      (fun (k : Nat) (δ : Env) => ∃ (M' : Str → List Int) (C' : Int → Int) (v8 v9 v10 v11 v12 : Sl), δ = [Sl.sh (.dct (kvL ks)), .sh (.lst (fs.map encF)), vp, .sh (.lst (W.map Dv.int)), .ow none (.dct (kvM (ks.map (·.1)) M')), .ow none (.dct (kvC W C')), .sh (.int (i : Int)), .ow none (.lst ((sentE ks es (fs.take k)).map fun x => .str x.1)), v8, v9, v10, v11, v12] ∧ Lrn ks wl wh (runE ks es (fs.take k)) M' ∧ (∀ z ∈ ks.map (·.1), (M' z).length ≤ B + 1001 * k) ∧ (∀ j ∈ W, C' j = C j + (hitsN (sentE ks es (fs.take k)) j : Int)))
      ⟨M, C, v8, v9, v10, v11, v12, rfl, hM, hB, fun j _ => by show C j = C j + ((0 : Nat) : Int); omega⟩ (by
        rintro k d δ hd ⟨M', C', v8, v9, v10, v11, v12, rfl, q1, q2, q3⟩
        rw [List.getElem?_map] at hd
        obtain ⟨p, hpk, rfl⟩ := Option.map_eq_some_iff.mp hd
        have hkk : k < fs.length := (List.getElem?_eq_some_iff.mp hpk).1
        obtain ⟨m1, m2, m3⟩ := hf.ok p (List.mem_of_getElem? hpk)
        have okI := runE_ok hk (fs := fs.take k) h fun q hq => hf.ok q (List.mem_of_mem_take hq)
        have ld : ((sentE ks es (fs.take k)).map fun x => Dv.str x.1).length < 1000000 := by rw [List.length_map, sentE_len, List.length_take]; omega
        obtain ⟨δ2, e, M2, w10, w11, w12, rfl, r1, r2⟩ := l_frame (C := C') (vf := .sh (.lst (fs.map encF))) (vp := vp) (v8 := .no) (v9 := .no) (v10 := v10) (v11 := v11) (v12 := v12) (num := (i : Int)) hk okI hp hW hwh lW q1 q2 (by omega) m1 m2 m3 ld
        refine ⟨[Sl.sh (.dct (kvL ks)), .sh (.lst (fs.map encF)), vp, .sh (.lst (W.map Dv.int)), .ow none (.dct (kvM (ks.map (·.1)) M')), .ow none (.dct (kvC W C')), .sh (.int (i : Int)), .ow none (.lst ((sentE ks es (fs.take k)).map fun x => .str x.1)), .sh (.str p.1), .sh (.str p.2), v10, v11, v12], rfl, _, e, M2, (fun j => C' j + (if inSpan (some (reachE ks (runE ks es (fs.take k)) p)) j = true ∧ j ∈ W then 1 else 0)), .sh (.str p.1), .sh (.str p.2), w10, w11, w12, ?_, ?_, ?_, ?_⟩
        · rw [take_snoc hpk, sentE_snoc, List.map_append]; rfl
        · rw [take_snoc hpk, runE_snoc]; exact r1
        · intro z hz; have := r2 z hz; omega
        · intro j hj
          rw [take_snoc hpk, sentE_snoc, hits_snoc]
          have := q3 j hj
          show C' j + (if inSpan (some (reachE ks (runE ks es (fs.take k)) p)) j = true ∧ j ∈ W then 1 else 0) = _
          by_cases c : inSpan (some (reachE ks (runE ks es (fs.take k)) p)) j = true
          · rw [if_pos ⟨c, hj⟩, if_pos c]; push_cast; omega
          · rw [if_neg (fun q => c q.1), if_neg c]; push_cast; omega)
    rw [List.length_map] at q2
    rw [List.length_map, List.take_length] at q1 q3
    refine ⟨_, eL, M', C', v8', v9', v10', v11', v12', by rw [List.length_map, List.take_length], q1, fun z hz => ?_, q3⟩
    have := q2 z hz; omega
  rintro δ ⟨M', C', v8, v9, v10, v11, v12, rfl, q1, q2, q3⟩
  have hkinds := l_kinds_in_round (n := (i : Int)) hk hf (by omega) (by omega)
  rw [← hsent] at hkinds
  have hnk := ne_kinds (ks := ks) (fs := fs) (es := es)
  have encB_e : encB fs = .lst (fs.map encF) := rfl
  rw [encB_e] at hkinds
  have hC' : ∀ j ∈ W, C' j = (hitsN (sentE ks (silE ks) fs) j : Int) + (hitsN (sentE ks (sortE (runE ks (silE ks) fs)) fs) j : Int) * (i : Int) := fun j hj => by rw [q3 j hj, hcount j hj]
  refine sSeq_ex (fun δ => δ = [Sl.sh (.dct (kvL ks)), .sh (.lst (fs.map encF)), vp, .sh (.lst (W.map Dv.int)), .ow none (.dct (kvM (ks.map (·.1)) M')), .ow none (.dct (kvC W C')), .sh (.int (i : Int)), .ow none (.lst ((sentE ks es fs).map fun x => .str x.1)), v8, v9, v10, v11, v12]) ?_ ?_
  · refine ⟨_, ?_, rfl⟩
    clear q1 q2 q3 hC' hcount hsent hq' hC hes hp hW hM hB
    walk_at "fdh"
  rintro δ rfl
  have lW' : (W.map Dv.int).length ≤ 100000 := by rw [List.length_map]; omega
  have hl1 : oLc (itL (fVar 3)) (bName 11) tstYes (fCallP sem_load_after (ckLen 4 (aCons (fVar 0) (aCons (fVar 1) (aCons (fOp oAdd (fVar 6) (fC (.int 1))) (aCons (fVar 11) aNil)))))) [11] [Sl.sh (.dct (kvL ks)), .sh (.lst (fs.map encF)), vp, .sh (.lst (W.map Dv.int)), .ow none (.dct (kvM (ks.map (·.1)) M')), .ow none (.dct (kvC W C')), .sh (.int (i : Int)), .ow none (.lst ((sentE ks es fs).map fun x => .str x.1)), v8, v9, v10, v11, v12] =
      some (.lst ((W.map C').map Dv.int), [Sl.sh (.dct (kvL ks)), .sh (.lst (fs.map encF)), vp, .sh (.lst (W.map Dv.int)), .ow none (.dct (kvM (ks.map (·.1)) M')), .ow none (.dct (kvC W C')), .sh (.int (i : Int)), .ow none (.lst ((sentE ks es fs).map fun x => .str x.1)), v8, v9, v10, .no, v12]) := by
    rw [oLc_all (fun d => match d with | .int j => .int (C' j) | _ => .non) (ds := W.map Dv.int) rfl lW' (fun d hd => by
      obtain ⟨j, hj, rfl⟩ := List.mem_map.mp hd
      have hjw := (hW j).mp hj
      have e := l_load_after (n := (i : Int) + 1) (p := j) hk hf (by omega) (by omega) (by omega) (by omega)
      rw [show ((i : Int) + 1 - 1) = (i : Int) by omega, ← hC' j hj, encB_e] at e
      refine ⟨_, rfl, ?_, rfl⟩
      clear q1 q2 q3 hC' hcount hsent hq' hC hes hp hW hM hB hkinds hnk hd hj hjw
      walk_at "fdh")]
    rw [List.map_map, List.map_map]; rfl
  have hl2 : oLc (itL (fVar 3)) (bName 11) tstYes (fDGet (fVar 5) (fVar 11)) [11] [Sl.sh (.dct (kvL ks)), .sh (.lst (fs.map encF)), vp, .sh (.lst (W.map Dv.int)), .ow none (.dct (kvM (ks.map (·.1)) M')), .ow none (.dct (kvC W C')), .sh (.int (i : Int)), .ow none (.lst ((sentE ks es fs).map fun x => .str x.1)), v8, v9, v10, .no, v12] =
      some (.lst ((W.map C').map Dv.int), [Sl.sh (.dct (kvL ks)), .sh (.lst (fs.map encF)), vp, .sh (.lst (W.map Dv.int)), .ow none (.dct (kvM (ks.map (·.1)) M')), .ow none (.dct (kvC W C')), .sh (.int (i : Int)), .ow none (.lst ((sentE ks es fs).map fun x => .str x.1)), v8, v9, v10, .no, v12]) := by
    rw [oLc_all (fun d => match d with | .int j => .int (C' j) | _ => .non) (ds := W.map Dv.int) rfl lW' (fun d hd => by
      obtain ⟨j, hj, rfl⟩ := List.mem_map.mp hd
      have look := kvC_look (C := C') hj
      refine ⟨_, rfl, ?_, rfl⟩
      clear q1 q2 q3 hC' hcount hsent hq' hC hes hp hW hM hB hkinds hnk hd hj hl1
      walk_at "fdh")]
    rw [List.map_map, List.map_map]; rfl
  have hne := neL_refl (shp_ints (W.map C'))
  refine ⟨_, ?_, M', C', .ow none (.lst ((sentE ks es fs).map fun x => .str x.1)), v8, v9, v10, .no, v12, rfl, q1, q2, hC', hq'⟩
  clear q1 q2 q3 hC' hcount hsent hq' hC hes hp hW hM hB hkinds hnk
  generalize (W.map C').map Dv.int = VV at hl1 hl2 hne
  walk_at "fdh"
theorem l__law_right {ks : List (Str × Int)} {fs : List (Str × Str)} (hk : LineOk ks) (hf : FrOk ks fs) (lf : fs.length ≤ 20) (hp : ∀ z ∈ ks.map (·.1), -100 ≤ posOf ks z ∧ posOf ks z ≤ 100) :
    sem__law_right [.dct (kvL ks), encB fs] = some (.bl true) := by
  have l1 := hk.len1
  have l2 := hk.len2
  have okS : StOk ks (silE ks) := silE_ok
  -- the sorted positions
  have hiv := intsOf_vals ks
  have lP : (srt leI (ks.map (·.2))).length = ks.length := by rw [(srt_perm leI _).length_eq, List.length_map]
  have pw := srt_pw totI (ks.map (·.2))
  have mP : ∀ j, j ∈ srt leI (ks.map (·.2)) ↔ j ∈ ks.map (·.2) := fun j => (srt_perm leI _).mem_iff
  have hlv : (ks.map (·.2)).length < 64 := by rw [List.length_map]; omega
  generalize hPe : srt leI (ks.map (·.2)) = P at lP pw mP
  obtain ⟨a, P', ha⟩ : ∃ a P', P = a :: P' := by
    cases P with
    | nil => simp at lP; omega
    | cons a P' => exact ⟨a, P', rfl⟩
  obtain ⟨rs, b, hb⟩ : ∃ rs b, P = rs ++ [b] := by
    rcases List.eq_nil_or_concat P with e | ⟨rs, b, e⟩
    · rw [e] at lP; simp at lP; omega
    · exact ⟨rs, b, by rw [e, List.concat_eq_append]⟩
  have hin : ∀ j ∈ P, a ≤ j ∧ j ≤ b := fun j hj => by
    refine ⟨?_, ?_⟩
    · rw [ha] at pw hj
      rcases List.mem_cons.mp hj with e | hj
      · omega
      · exact of_decide_eq_true ((List.pairwise_cons.mp pw).1 j hj)
    · rw [hb] at pw hj
      rcases List.mem_append.mp hj with hj | hj
      · exact of_decide_eq_true ((List.pairwise_append.mp pw).2.2 j hj b (by simp))
      · have := List.mem_singleton.mp hj; omega
  have x0 : atI (P.map Dv.int) 0 = some (.int a) := by rw [ha]; exact at_nat (k := 0) rfl
  have x1 : atI (P.map Dv.int) (-1) = some (.int b) := by rw [hb, List.map_append]; exact at_last
  have small : ∀ j ∈ P, -100 ≤ j ∧ j ≤ 100 := fun j hj => by
    obtain ⟨q, hq, rfl⟩ := List.mem_map.mp ((mP j).mp hj)
    have := hp q.1 (List.mem_map.mpr ⟨q, hq, rfl⟩)
    rwa [posOf_eq hk.ndn hq] at this
  have sa := small a (by rw [ha]; simp)
  have sb := small b (by rw [hb]; simp)
  have ab := hin a (by rw [ha]; simp)
  have hz : ∀ z ∈ ks.map (·.1), a ≤ posOf ks z ∧ posOf ks z ≤ b := fun z hz => hin _ ((mP _).mpr (pos_in hz))
  -- the window
  obtain ⟨n, hn⟩ : ∃ n, (b + 4 - (a - 3)).toNat = n := ⟨_, rfl⟩
  have hW : ∀ j, j ∈ rngI (a - 3) n ↔ a - 3 ≤ j ∧ j ≤ b + 3 := fun j => by rw [rngI_mem]; omega
  have lW := rngI_len (a - 3) n
  have hWD := rngD_ints (a - 3) n
  have ndW := rngI_nd (a - 3) n
  generalize hWe : rngI (a - 3) n = W at hW lW hWD ndW
  have r1 : b + 4 ≤ 1000000 := by omega
  have r2 : -1000000 ≤ b + 4 := by omega
  have r3 : a - 3 ≤ 1000000 := by omega
  have r4 : -1000000 ≤ a - 3 := by omega
  have hD1 : oLc (itD .keys 0) (bName 12) tstYes (fTup (aCons (fVar 12) (aCons (fZ (oLst aNil)) aNil))) [12] [Sl.sh (.dct (kvL ks)), .sh (.lst (fs.map encF)), .sh (.lst (P.map Dv.int)), .sh (.lst (W.map Dv.int)), .no, .no, .no, .no, .no, .no, .no, .no, .no] = some (.lst ((ks.map (·.1)).map fun z => .tup [.str z, .lst []]), [Sl.sh (.dct (kvL ks)), .sh (.lst (fs.map encF)), .sh (.lst (P.map Dv.int)), .sh (.lst (W.map Dv.int)), .no, .no, .no, .no, .no, .no, .no, .no, .no]) := by
    rw [oLc_all (fun d => .tup [d, .lst []]) (ds := Way.ds .keys (kvL ks)) rfl (by rw [keys_line, List.length_map, List.length_map]; omega) (fun d hd => by
      rw [keys_line] at hd
      obtain ⟨z, hz, rfl⟩ := List.mem_map.mp hd
      exact ⟨_, rfl, rfl, rfl⟩)]
    rw [keys_line, List.map_map]; rfl
  have hD2 : oLc (itL (fVar 3)) (bName 11) tstYes (fTup (aCons (fVar 11) (aCons (fC (.int 0)) aNil))) [11] [Sl.sh (.dct (kvL ks)), .sh (.lst (fs.map encF)), .sh (.lst (P.map Dv.int)), .sh (.lst (W.map Dv.int)), .no, .no, .no, .no, .no, .no, .no, .no, .no] = some (.lst (W.map fun j => .tup [.int j, .int 0]), [Sl.sh (.dct (kvL ks)), .sh (.lst (fs.map encF)), .sh (.lst (P.map Dv.int)), .sh (.lst (W.map Dv.int)), .no, .no, .no, .no, .no, .no, .no, .no, .no]) := by
    rw [oLc_all (fun d => .tup [d, .int 0]) (ds := W.map Dv.int) rfl (by rw [List.length_map, lW]; omega) (fun d hd => by
      obtain ⟨j, hj, rfl⟩ := List.mem_map.mp hd
      exact ⟨_, rfl, rfl, rfl⟩)]
    rw [List.map_map]; rfl
  have hB1 : bDict [.lst ((ks.map (·.1)).map fun z => .tup [.str z, .lst []])] = some (.dct (kvM (ks.map (·.1)) (fun _ => []))) := by
    have := bDict_M hk.ndn (fun _ => [])
    exact this
  have hB2 : bDict [.lst (W.map fun j => .tup [.int j, .int 0])] = some (.dct (kvC W (fun _ => 0))) := bDict_C ndW (fun _ => 0)
  have t1 : (3 : Int) ≤ 1000000 := by decide
  have t2 : (-1000000 : Int) ≤ 3 := by decide
  have t3 : (3 : Int).toNat = 3 := rfl
  have rl3 := rng_len 3
  have hround := fun (i : Nat) (es : List (Str × Span)) (M : Str → List Int) (C : Int → Int) (B : Nat) (v7 v8 v9 v10 v11 v12 : Sl) (h : StOk ks es) (hM : Lrn ks (a - 3) (b + 3) es M) (hB : ∀ z ∈ ks.map (·.1), (M z).length ≤ B) (b1 : B + 1001 * 20 ≤ 900000) (hi : i < 3) (hes) (hC) => l_round (W := W) (vp := .sh (.lst (P.map Dv.int))) (C := C) (v7 := v7) (v8 := v8) (v9 := v9) (v10 := v10) (v11 := v11) (v12 := v12) (i := i) hk h hf (fun z hz' => by have := hz z hz'; omega) hW (by omega) (by omega) (by omega) (by omega) hM hB b1 lf hi hes hC
  have hL0 : Lrn ks (a - 3) (b + 3) (silE ks) (fun _ => []) := lrn_sil hk
  show sem__law_right [.dct (kvL ks), .lst (fs.map encF)] = _
  unfold sem__law_right fs__law_right
  clear hz small hin mP pw ha hb hWe ndW hp sa sb ab hW
  have hloop : ∃ δ', fLoop (bName 6) (sSeq (sAsgO 7 (oLst aNil)) (sSeq (sFor (itL (fVar 1)) (bTup 2 (bsCons (bName 8) (bsCons (bName 9) bsNil))) (sSeq (sAsg (fCallP sem__law_passed (ckLen 4 (aCons (fVar 3) (aCons (fDGet (fVar 4) (fVar 9)) (aCons (fDGet (fVar 0) (fVar 8)) (aCons (fDGet (fVar 0) (fVar 9)) aNil)))))) (bName 10)) (sSeq (sDrop (fOwnL 7 (fApp 7 (fCallP sem__law_kind (ckLen 2 (aCons (fDGet (fVar 4) (fVar 9)) (aCons (fDGet (fVar 0) (fVar 8)) aNil))))))) (sSeq (sPut 4 (fVar 8) (fZ (oOp oCat (fDGet (fVar 4) (fVar 8)) (fZ (oLc (itL (fVar 10)) (bName 11) (tstB (fOp oNotInF (fVar 11) (fDGet (fVar 4) (fVar 8)))) (fVar 11) [11]))))) (sFor (itL (fVar 10)) (bName 11) (sPut 5 (fVar 11) (fOp oAdd (fDGet (fVar 5) (fVar 11)) (fC (.int 1))))))))) (sSeq (sIf (tstB (fOp oNeX (fCallP sem_kinds_in_round (ckLen 3 (aCons (fVar 0) (aCons (fVar 1) (aCons (fVar 6) aNil))))) (fVar 7))) (sRet (fC (.bl false))) sNext) (sIf (tstB (fOp oNeX (fZ (oLc (itL (fVar 3)) (bName 11) tstYes (fCallP sem_load_after (ckLen 4 (aCons (fVar 0) (aCons (fVar 1) (aCons (fOp oAdd (fVar 6) (fC (.int 1))) (aCons (fVar 11) aNil)))))) [11])) (fZ (oLc (itL (fVar 3)) (bName 11) tstYes (fDGet (fVar 5) (fVar 11)) [11])))) (sRet (fC (.bl false))) sNext)))) (rngD 0 3)
      [Sl.sh (.dct (kvL ks)), .sh (.lst (fs.map encF)), .sh (.lst (P.map Dv.int)), .sh (.lst (W.map Dv.int)), .ow none (.dct (kvM (ks.map (·.1)) (fun _ => []))), .ow none (.dct (kvC W (fun _ => 0))), .no, .no, .no, .no, .no, .no, .no] = some (.nx, δ') ∧ True := by
    obtain ⟨δ', e, _⟩ := fLoop_inv2 (ds := rngD 0 3) (fb := bName 6) (fs := (sSeq (sAsgO 7 (oLst aNil)) (sSeq (sFor (itL (fVar 1)) (bTup 2 (bsCons (bName 8) (bsCons (bName 9) bsNil))) (sSeq (sAsg (fCallP sem__law_passed (ckLen 4 (aCons (fVar 3) (aCons (fDGet (fVar 4) (fVar 9)) (aCons (fDGet (fVar 0) (fVar 8)) (aCons (fDGet (fVar 0) (fVar 9)) aNil)))))) (bName 10)) (sSeq (sDrop (fOwnL 7 (fApp 7 (fCallP sem__law_kind (ckLen 2 (aCons (fDGet (fVar 4) (fVar 9)) (aCons (fDGet (fVar 0) (fVar 8)) aNil))))))) (sSeq (sPut 4 (fVar 8) (fZ (oOp oCat (fDGet (fVar 4) (fVar 8)) (fZ (oLc (itL (fVar 10)) (bName 11) (tstB (fOp oNotInF (fVar 11) (fDGet (fVar 4) (fVar 8)))) (fVar 11) [11]))))) (sFor (itL (fVar 10)) (bName 11) (sPut 5 (fVar 11) (fOp oAdd (fDGet (fVar 5) (fVar 11)) (fC (.int 1))))))))) (sSeq (sIf (tstB (fOp oNeX (fCallP sem_kinds_in_round (ckLen 3 (aCons (fVar 0) (aCons (fVar 1) (aCons (fVar 6) aNil))))) (fVar 7))) (sRet (fC (.bl false))) sNext) (sIf (tstB (fOp oNeX (fZ (oLc (itL (fVar 3)) (bName 11) tstYes (fCallP sem_load_after (ckLen 4 (aCons (fVar 0) (aCons (fVar 1) (aCons (fOp oAdd (fVar 6) (fC (.int 1))) (aCons (fVar 11) aNil)))))) [11])) (fZ (oLc (itL (fVar 3)) (bName 11) tstYes (fDGet (fVar 5) (fVar 11)) [11])))) (sRet (fC (.bl false))) sNext))))) (δ := [Sl.sh (.dct (kvL ks)), .sh (.lst (fs.map encF)), .sh (.lst (P.map Dv.int)), .sh (.lst (W.map Dv.int)), .ow none (.dct (kvM (ks.map (·.1)) (fun _ => []))), .ow none (.dct (kvC W (fun _ => 0))), .no, .no, .no, .no, .no, .no, .no])
      (fun (i : Nat) (δ : Env) => ∃ (es : List (Str × Span)) (M : Str → List Int) (C : Int → Int) (v6 v7 v8 v9 v10 v11 v12 : Sl), δ = [Sl.sh (.dct (kvL ks)), .sh (.lst (fs.map encF)), .sh (.lst (P.map Dv.int)), .sh (.lst (W.map Dv.int)), .ow none (.dct (kvM (ks.map (·.1)) M)), .ow none (.dct (kvC W C)), v6, v7, v8, v9, v10, v11, v12] ∧ StOk ks es ∧ Lrn ks (a - 3) (b + 3) es M ∧ (∀ z ∈ ks.map (·.1), (M z).length ≤ 20020 * i) ∧ ((i = 0 ∧ es = silE ks) ∨ (1 ≤ i ∧ SpEq ks es (sortE (runE ks (silE ks) fs)))) ∧ (∀ j ∈ W, C j = if i = 0 then 0 else (hitsN (sentE ks (silE ks) fs) j : Int) + (hitsN (sentE ks (sortE (runE ks (silE ks) fs)) fs) j : Int) * ((i : Int) - 1)))
      ⟨silE ks, fun _ => [], fun _ => 0, .no, .no, .no, .no, .no, .no, .no, rfl, okS, hL0, fun z _ => by simp, .inl ⟨rfl, rfl⟩, fun j _ => by rw [if_pos rfl]⟩ (by
        rintro i d δ hd ⟨es, M, C, v6, v7, v8, v9, v10, v11, v12, rfl, h, hM, hB, hes, hC⟩
        have hi : i < 3 := by
          have := (List.getElem?_eq_some_iff.mp hd).1
          rw [rl3] at this; exact this
        have hdi : d = .int (i : Int) := by
          rcases (show i = 0 ∨ i = 1 ∨ i = 2 by omega) with rfl | rfl | rfl <;> exact (Option.some.inj hd).symm
        subst hdi
        obtain ⟨δ2, e, M', C', w7, w8, w9, w10, w11, w12, rfl, q1, q2, q3, q4⟩ := hround i es M C (20020 * i) v7 v8 v9 v10 v11 v12 h hM hB (by omega) hi hes hC
        refine ⟨_, rfl, _, e, runE ks es fs, M', C', _, w7, w8, w9, w10, w11, w12, rfl, runE_ok hk h hf.ok, q1, fun z hz => by have := q2 z hz; omega, .inr ⟨by omega, q4⟩, fun j hj => ?_⟩
        rw [if_neg (by omega), q3 j hj]
        push_cast
        rw [show (i : Int) + 1 - 1 = (i : Int) by omega])
    exact ⟨δ', e, trivial⟩
  obtain ⟨δ', hloop, _⟩ := hloop
  clear hround hL0 okS
  walk_at "fdh"
def LL : List (Str × Int) := [(Str.ofString "a", 0), (Str.ofString "b", 2), (Str.ofString "c", 1)]
def FF : List (Str × Str) := [(Str.ofString "a", Str.ofString "b"), (Str.ofString "b", Str.ofString "a"), (Str.ofString "c", Str.ofString "b"), (Str.ofString "a", Str.ofString "c"), (Str.ofString "b", Str.ofString "c")]
theorem LL_ok : LineOk LL := ⟨by decide, by decide, by decide +kernel, by decide +kernel, by decide +kernel, by decide +kernel⟩
theorem FF_ok : FrOk LL FF := ⟨by decide, by decide +kernel⟩
theorem LL_p : ∀ z ∈ LL.map (·.1), -100 ≤ posOf LL z ∧ posOf LL z ≤ 100 := by decide +kernel
theorem LL_right : sem__law_right [.dct (kvL LL), encB FF] = some (.bl true) := l__law_right LL_ok FF_ok (by decide) LL_p
theorem LL_kv : kvL LL = [(.inr (Str.ofString "a"), .int 0), (.inr (Str.ofString "b"), .int 2), (.inr (Str.ofString "c"), .int 1)] := rfl
theorem FF_e : encB FF = .lst [.tup [.str (Str.ofString "a"), .str (Str.ofString "b")], .tup [.str (Str.ofString "b"), .str (Str.ofString "a")], .tup [.str (Str.ofString "c"), .str (Str.ofString "b")], .tup [.str (Str.ofString "a"), .str (Str.ofString "c")], .tup [.str (Str.ofString "b"), .str (Str.ofString "c")]] := rfl
theorem LL_last : sem__law_right [.dct [(.inr (Str.ofString "a"), .int 0), (.inr (Str.ofString "b"), .int 2), (.inr (Str.ofString "c"), .int 1)], .lst [.tup [.str (Str.ofString "a"), .str (Str.ofString "b")], .tup [.str (Str.ofString "b"), .str (Str.ofString "a")], .tup [.str (Str.ofString "c"), .str (Str.ofString "b")], .tup [.str (Str.ofString "a"), .str (Str.ofString "c")], .tup [.str (Str.ofString "b"), .str (Str.ofString "c")]]] = some (.bl true) := by
  have := LL_right
  rw [LL_kv, FF_e] at this
  exact this
theorem law_true : ∀ ns : List Int, ns.length ≤ 63 → sem_law [.scr ns] = some (.bl true) := by
  intro ns hl
  have big : (2 : Int) ^ 100 > 1000 := by decide +kernel
  obtain ⟨G, eG, ok, n0⟩ := l__law_spring hl
  have hlast := LL_last
  have m1 : mergeD [] [(Sum.inr (Str.ofString "a"), Dv.int 0), (Sum.inr (Str.ofString "b"), Dv.int 2), (Sum.inr (Str.ofString "c"), Dv.int 1)] = [(Sum.inr (Str.ofString "a"), Dv.int 0), (Sum.inr (Str.ofString "b"), Dv.int 2), (Sum.inr (Str.ofString "c"), Dv.int 1)] := mergeD_app (acc := []) (by decide +kernel)
  unfold sem_law fs_law
  obtain ⟨c5, hc5, hc0, hc9⟩ : ∃ c5 : Int, bMin2 [.int 5, .int (ns.length : Int)] = some (.int c5) ∧ 0 ≤ c5 ∧ c5 ≤ 5 := by
    refine ⟨_, rfl, ?_⟩
    split <;> omega
  have hmul : oMul (.int 2) (.int c5) = some (.int (2 * c5)) := oMul_ok (by decide) (by omega)
  have r1 : 4 + 2 * c5 ≤ 1000000 := by omega
  have r2 : -1000000 ≤ 4 + 2 * c5 := by omega
  have rl := rng_len (4 + 2 * c5).toNat
  unfold bMin2 at hc5
  walk_at "fdh"
  generalize hL : fLoop _ _ _ _ = X
  obtain ⟨δ', rfl, hI⟩ : ∃ δ', X = some (.nx, δ') ∧ (fun (i : Nat) (δ : Env) => ∃ (G' : Sg) (v2 v3 v4 v5 v6 : Sl), δ = [Sl.sh (.scr ns), .ow none (encG G'), v2, v3, v4, v5, v6] ∧ SgOk G' ∧ G'.n ≤ 10000 * i) (rngD 0 (4 + 2 * c5).toNat).length δ' := by
    rw [← hL]
    refine fLoop_inv2 (fun (i : Nat) (δ : Env) => ∃ (G' : Sg) (v2 v3 v4 v5 v6 : Sl), δ = [Sl.sh (.scr ns), .ow none (encG G'), v2, v3, v4, v5, v6] ∧ SgOk G' ∧ G'.n ≤ 10000 * i) ⟨G, .no, .no, .no, .no, .no, rfl, ok, by omega⟩ ?_
    rintro i d δ hd ⟨G1, v2, v3, v4, v5, v6, rfl, ok1, n1⟩
    have hi : i < 14 := by
      have := (List.getElem?_eq_some_iff.mp hd).1
      rw [rl] at this; omega
    obtain ⟨k, rfl, kb⟩ : ∃ k : Int, d = .int k ∧ k.natAbs < 100 := by
      obtain ⟨j, hj, e⟩ := List.mem_map.mp (List.mem_of_getElem? hd)
      have := List.mem_range.mp hj
      exact ⟨_, e.symm, by omega⟩
    refine ⟨_, rfl, ?_⟩
    clear hL hc5 hmul eG hlast m1
    obtain ⟨d1, G2, e1, a1, b1, ok2, n2⟩ := l__law_draw ok1 (m := 5) (by omega) (by omega) (by omega)
    obtain ⟨ks, G5, e5, hk, _, lk, ok5, n5⟩ := l__law_line (m := 1 + d1) ok2 (by omega) (by omega) (by omega)
    refine sSeq_ex (fun δ => δ = [Sl.sh (.scr ns), .ow none (encG G5), .sh (.int k), .sh (.dct (kvL ks)), .ow none (.dct []), v5, v6]) ?_ ?_
    · refine ⟨_, ?_, rfl⟩
      clear lk
      walk_at "fdh"
    rintro δ rfl
    have hsrt := bSort_line hk
    have ndN := srt_nd hk
    obtain ⟨N, hN⟩ : ∃ N, srt leS (ks.map (·.1)) = N := ⟨_, rfl⟩
    have lN : ks.length = N.length := by rw [← hN, (srt_perm leS _).length_eq, List.length_map]
    have l1 := hk.len1
    have hmN : ∀ z ∈ N, z ∈ ks.map (·.1) := fun z hz => by rw [← hN] at hz; exact (srt_perm leS _).mem_iff.mp hz
    rw [hN] at hsrt ndN
    have lN5 : N.length ≤ 5 := by omega
    have eI : itE (aCons (fZ (oCB bSort (aCons (fVar 3) aNil))) aNil) [Sl.sh (.scr ns), .ow none (encG G5), .sh (.int k), .sh (.dct (kvL ks)), .ow none (.dct []), v5, v6] = some (enumD (N.map Dv.str), [Sl.sh (.scr ns), .ow none (encG G5), .sh (.int k), .sh (.dct (kvL ks)), .ow none (.dct []), v5, v6]) := by
      clear lN hmN ndN e1 e5
      walk_at "fdh"
    have lE : (enumD (N.map Dv.str)).length = N.length := by unfold enumD; rw [List.length_map, List.length_zipIdx, List.length_map]
    refine sSeq_ex (fun δ => ∃ (G6 : Sg) (nk : List (Str × Int)) (v5 v6 : Sl), δ = [Sl.sh (.scr ns), .ow none (encG G6), .sh (.int k), .sh (.dct (kvL ks)), .ow none (.dct (kvL nk)), v5, v6] ∧ SgOk G6 ∧ G6.n ≤ G5.n + 5 ∧ nk.map (·.1) = N ∧ (∀ (r : Nat) (q : Str × Int), nk[r]? = some q → 3 * (((r : Int) * 2 + k) % 5) - 7 ≤ q.2 ∧ q.2 ≤ 3 * (((r : Int) * 2 + k) % 5) - 5)) ?_ ?_
    · unfold sFor
      rw [eI]
      simp only
      obtain ⟨δ', eL, G6, nk, v5', v6', rfl, ok6, n6, hnk, hq⟩ := fLoop_inv2 (ds := enumD (N.map Dv.str)) (fb := bTup 2 (bsCons (bName 5) (bsCons (bName 6) bsNil))) (fs := sPut 4 (fVar 6) (fOp oSub (fOp oAdd (fOp oMul (fC (.int 3)) (fOp oMod (fOp oAdd (fOp oMul (fVar 5) (fC (.int 2))) (fVar 2)) (fC (.int 5)))) (fCallM 2 0 sem__law_draw (aCons (fVar 1) (aCons (fC (.int 3)) aNil)))) (fC (.int 7)))) (δ := [Sl.sh (.scr ns), .ow none (encG G5), .sh (.int k), .sh (.dct (kvL ks)), .ow none (.dct []), v5, v6])
        (fun (j : Nat) (δ : Env) => ∃ (G6 : Sg) (nk : List (Str × Int)) (v5 v6 : Sl), δ = [Sl.sh (.scr ns), .ow none (encG G6), .sh (.int k), .sh (.dct (kvL ks)), .ow none (.dct (kvL nk)), v5, v6] ∧ SgOk G6 ∧ G6.n ≤ G5.n + j ∧ nk.map (·.1) = N.take j ∧ (∀ (r : Nat) (q : Str × Int), nk[r]? = some q → 3 * (((r : Int) * 2 + k) % 5) - 7 ≤ q.2 ∧ q.2 ≤ 3 * (((r : Int) * 2 + k) % 5) - 5))
        ⟨G5, [], v5, v6, rfl, ok5, by omega, rfl, fun r q h => by simp at h⟩ (by
          rintro j d δ hd ⟨G6, nk, v5, v6, rfl, ok6, n6, hnk, hq⟩
          have hj : j < N.length := by
            have := (List.getElem?_eq_some_iff.mp hd).1
            rw [lE] at this; exact this
          obtain ⟨z, hz⟩ : ∃ z, N[j]? = some z := ⟨_, List.getElem?_eq_getElem hj⟩
          have hdz : d = .tup [.int (j : Int), .str z] := by
            unfold enumD at hd
            rw [List.getElem?_map, List.getElem?_zipIdx, List.getElem?_map, hz] at hd
            simp at hd
            exact hd.symm
          subst hdz
          obtain ⟨d3, G7, e7, a7, b7, ok7, n7⟩ := l__law_draw ok6 (m := 3) (by omega) (by omega) (by omega)
          have o1 : oMul (.int (j : Int)) (.int 2) = some (.int ((j : Int) * 2)) := oMul_ok (Nat.lt_of_lt_of_le (show ((j : Int)).natAbs < 100 by omega) (by decide)) (by decide)
          have o2 : oMod (.int ((j : Int) * 2 + k)) (.int 5) = some (.int (((j : Int) * 2 + k) % 5)) := oMod_ok (by decide)
          have o3 : oMul (.int 3) (.int (((j : Int) * 2 + k) % 5)) = some (.int (3 * (((j : Int) * 2 + k) % 5))) := oMul_ok (by decide) (Nat.lt_of_lt_of_le (show (((j : Int) * 2 + k) % 5).natAbs < 100 by omega) (by decide))
          have lnk : nk.length = j := by
            have := congrArg List.length hnk
            rw [List.length_map, List.length_take] at this; omega
          have zn : (Sum.inr z : Key) ∉ (kvL nk).map (·.1) := fun q => by
            have e : (kvL nk).map (·.1) = (nk.map (·.1)).map Sum.inr := by unfold kvL; rw [List.map_map, List.map_map]; rfl
            rw [e, hnk] at q
            obtain ⟨y, hy, ey⟩ := List.mem_map.mp q
            cases ey
            have e1 := take_snoc hz
            have e2 : (N.take (j + 1)).Nodup := ndN.sublist (List.take_sublist _ _)
            rw [e1, List.nodup_append] at e2
            exact e2.2.2 _ hy _ (by simp) rfl
          have put := putD_new (d := Dv.int (3 * (((j : Int) * 2 + k) % 5) + d3 - 7)) zn
          have lkv : (kvL nk).length < 1000000 := by rw [len_kvL]; omega
          refine ⟨_, rfl, [Sl.sh (.scr ns), .ow none (encG G7), .sh (.int k), .sh (.dct (kvL ks)), .ow none (.dct (kvL (nk ++ [(z, 3 * (((j : Int) * 2 + k) % 5) + d3 - 7)]))), .sh (.int (j : Int)), .sh (.str z)], ?_, G7, nk ++ [(z, 3 * (((j : Int) * 2 + k) % 5) + d3 - 7)], _, _, rfl, ok7, by omega, ?_, ?_⟩
          · have e : kvL (nk ++ [(z, 3 * (((j : Int) * 2 + k) % 5) + d3 - 7)]) = kvL nk ++ [(.inr z, .int (3 * (((j : Int) * 2 + k) % 5) + d3 - 7))] := by unfold kvL; rw [List.map_append]; rfl
            rw [e]
            clear hq hnk lnk hd hz zn eI lE hsrt lN hmN e1 e5
            walk_at "fdh"
          · rw [List.map_append, hnk, take_snoc hz]; rfl
          · intro r q hr
            by_cases c : r < nk.length
            · rw [List.getElem?_append_left c] at hr
              exact hq r q hr
            · have : r = nk.length := by
                have := (List.getElem?_eq_some_iff.mp hr).1
                rw [List.length_append, List.length_singleton] at this; omega
              subst this
              rw [List.getElem?_append_right (Nat.le_refl _), Nat.sub_self] at hr
              cases hr
              rw [lnk]
              show _ ≤ 3 * (((j : Int) * 2 + k) % 5) + d3 - 7 ∧ 3 * (((j : Int) * 2 + k) % 5) + d3 - 7 ≤ _
              omega)
      rw [lE] at n6 hnk
      rw [List.take_length] at hnk
      exact ⟨_, eL, G6, nk, v5', v6', rfl, ok6, by omega, hnk, hq⟩
    rintro δ ⟨G6, nk, v5, v6, rfl, ok6, n6, hnk, hq⟩
    have lnk : nk.length = N.length := by rw [← hnk, List.length_map]
    have hin : ∀ q ∈ nk, -7 ≤ q.2 ∧ q.2 ≤ 7 := fun q h => by
      obtain ⟨r, hr, e⟩ := List.mem_iff_getElem.mp h
      have := hq r q (by rw [List.getElem?_eq_getElem hr, e])
      omega
    have okn : LineOk nk := by
      refine ⟨by omega, by omega, fun q h => ?_, fun q h => ?_, by rw [hnk]; exact ndN, ?_⟩
      · have hz := hmN q.1 (by rw [← hnk]; exact List.mem_map.mpr ⟨q, h, rfl⟩)
        obtain ⟨p, hp, e⟩ := List.mem_map.mp hz
        rw [← e]; exact hk.nm p hp
      · have := hin q h
        omega
      · rw [List.Nodup, List.pairwise_iff_getElem]
        intro r1 r2 h1 h2 hlt
        rw [List.length_map] at h1 h2
        have q1 := hq r1 _ (List.getElem?_eq_getElem h1)
        have q2 := hq r2 _ (List.getElem?_eq_getElem h2)
        rw [List.getElem_map, List.getElem_map]
        omega
    obtain ⟨d7, G7, e7, a7, b7, ok7, n7⟩ := l__law_draw ok6 (m := 13) (by omega) (by omega) (by omega)
    obtain ⟨fs, G8, e8, hf, lf, _, ok8, n8⟩ := l__law_frames okn ok7 a7 (by omega) (by omega)
    have e9 := l__law_right okn hf (by omega) (fun z hz => by
      obtain ⟨q, hq', rfl⟩ := List.mem_map.mp hz
      rw [posOf_eq okn.ndn hq']
      have := hin q hq'; omega)
    refine ⟨[Sl.sh (.scr ns), .ow none (encG G8), .sh (.int k), .sh (.dct (kvL ks)), .sh (.dct (kvL nk)), v5, v6], ?_, G8, _, _, _, _, _, rfl, ok8, by omega⟩
    clear hq hnk lnk hin hsrt lN hmN eI lE e1 e5 lf hN
    walk_at "fdh"
  obtain ⟨G', v2, v3, v4, v5, v6, rfl, ok', n'⟩ := hI
  clear hL
  walk_at "fdh"
structure Tx (mg : Str → Option Value) : Prop where
  b_abs : mg "abs" = none
  b_all : mg "all" = none
  b_bool : mg "bool" = none
  b_dict : mg "dict" = none
  b_enumerate : mg "enumerate" = none
  b_int : mg "int" = none
  b_isinstance : mg "isinstance" = none
  b_len : mg "len" = none
  b_list : mg "list" = none
  b_max : mg "max" = none
  b_min : mg "min" = none
  b_range : mg "range" = none
  b_set : mg "set" = none
  b_sorted : mg "sorted" = none
  b_str : mg "str" = none
  b_tuple : mg "tuple" = none
  b_type : mg "type" = none
  g_ALL : ∃ t, mg "ALL" = some (.str "all" t)
  g_DIRECT : ∃ t, mg "DIRECT" = some (.str "direct" t)
  g_FARTHEST : ∃ t, mg "FARTHEST" = some (.int (1000000000000000000000000000000) t)
  g_FLOOD : ∃ t, mg "FLOOD" = some (.str "flood" t)
  g_MOST_FRAMES : ∃ t, mg "MOST_FRAMES" = some (.int (300) t)
  g_MOST_HOSTS : ∃ t, mg "MOST_HOSTS" = some (.int (40) t)
  g_MOST_LETTERS : ∃ t, mg "MOST_LETTERS" = some (.int (8) t)
  g_MOST_ROUNDS : ∃ t, mg "MOST_ROUNDS" = some (.int (1000000000000000000000000000000) t)
section
variable {P : Program} {w : World} {K : PySem.W.Frag} {mg : Str → Option Value} {base : Heap}
theorem ok_is_integer (T : Tx mg) (D : At K mg "is_integer" s_is_integer ["value"]) : Dfn P w K mg base "is_integer" ["value"] 1 (spP K 1 sem_is_integer) := by
  refine dfn D sc_is_integer (len_P rfl) (fun X f cdv A outer s H vs Q E hX hr h => ?_)
  subst hX
  refine ⟨_, (pss_one (ps_ret (pe_and (pe_callB call_isi (by rfl) T.b_isinstance (by decide +kernel) (pa_cons (pvl 0) (pa_cons (pe_bltn (v := .ty "int") (by rfl) T.b_int boot_int rfl) pa_nil))) (pe_one (pe_not (pe_callB call_isi (by rfl) T.b_isinstance (by decide +kernel) (pa_cons (pvl 0) (pa_cons (pe_bltn (v := .ty "bool") (by rfl) T.b_bool (by decide +kernel) rfl) pa_nil)))))))), ?_⟩
  exact run_P (fs := fs_is_integer) (ds_ret (de_and (de_isi (by decide) (de_var 0)) (de_not (de_isi (by decide) (de_var 0))))) rfl h
theorem ok_is_name (T : Tx mg) (D : At K mg "is_name" s_is_name ["value"]) : Dfn P w K mg base "is_name" ["value"] 1 (spP K 1 sem_is_name) := by
  refine dfn D sc_is_name (len_P rfl) (fun X f cdv A outer s H vs Q E hX hr h => ?_)
  subst hX
  refine ⟨_, (pss_cons (ps_if (PW.pt (pw_or (pt_not (pt_val (pe_callB call_isi (by rfl) T.b_isinstance (by decide +kernel) (pa_cons (pvl 0) (pa_cons (pe_bltn (v := .ty "str") (by rfl) T.b_str (by decide +kernel) rfl) pa_nil))))) (pw_or1 (pt_not (pt_chain opLe opLe pe_int (pe_callB call_lenX (by rfl) T.b_len PySem.boot_len (pa_cons (pvl 0) pa_nil)) (pe_glob (v := .int (8)) (by rfl) (Exists.choose_spec T.g_MOST_LETTERS) ⟨_, rfl⟩)))))) (pss_one (ps_ret pe_bl)) pss_nil) (pss_one (ps_ret (pe_callB (cr_all rfl) (by rfl) T.b_all (by decide +kernel) (pa_cons (pe_lc (own := [("letter", 1)]) (g := gName 1) (tt := tYes) rfl sc_is_name.nd (pi_str (pvl 0)) (blkOk_by (own := [("letter", 1)]) (N := nn_is_name) (sc := defScope s_is_name) (by decide +kernel)) (fun _ _ _ _ _ => (pg_name (i := 1) sc_is_name.nd rfl (Or.inl rfl))) (fun _ _ _ _ _ => pts_nil) (blk_e fun _ _ _ _ _ => (pe_chain opLe opLe pe_str (pvl 1) pe_str))) pa_nil))))), ?_⟩
  exact run_P (fs := fs_is_name) (ds_seq (ds_if (dt_or (dt_not (dt_b (de_isi (by decide) (de_var 0)))) (dt_not (dt_b (de_chain r2_le r2_le (de_c (IsC.int _)) (de_cb cb_len (da_cons (de_var 0) da_nil)) (de_c (IsC.int _)))))) (ds_ret (de_c (IsC.bl _))) ds_next) (ds_ret (de_cb cb_all (da_cons (DEO.frz (do_lc (di_str (de_var 0)) (dg_name 1) (by decide) dt_yes (de_all fun _ _ _ _ _ => (de_chain r2_le r2_le (de_c (IsC.str _)) (de_var 1) (de_c (IsC.str _)))))) da_nil)))) rfl h
theorem ok_is_list (T : Tx mg) (D : At K mg "is_list" s_is_list ["value"]) : Dfn P w K mg base "is_list" ["value"] 1 (spP K 1 sem_is_list) := by
  refine dfn D sc_is_list (len_P rfl) (fun X f cdv A outer s H vs Q E hX hr h => ?_)
  subst hX
  refine ⟨_, (pss_one (ps_ret (pe_cmpR (opEq hr.units) (pe_callTy call_typeX (by rfl) T.b_type (by decide +kernel) (pa_cons (pvl 0) pa_nil)) (pe_bltn (v := .ty "list") (by rfl) T.b_list boot_list rfl) (nomark _)))), ?_⟩
  exact run_P (fs := fs_is_list) (ds_ret (de_tyEq (by decide) (de_var 0))) rfl h
theorem ok_is_pair (T : Tx mg) (D : At K mg "is_pair" s_is_pair ["value"]) : Dfn P w K mg base "is_pair" ["value"] 1 (spP K 1 sem_is_pair) := by
  refine dfn D sc_is_pair (len_P rfl) (fun X f cdv A outer s H vs Q E hX hr h => ?_)
  subst hX
  refine ⟨_, (pss_one (ps_ret (pe_and (pe_cmpR (opEq hr.units) (pe_callTy call_typeX (by rfl) T.b_type (by decide +kernel) (pa_cons (pvl 0) pa_nil)) (pe_bltn (v := .ty "tuple") (by rfl) T.b_tuple boot_tuple rfl) (nomark _)) (pe_one (pe_cmpR (opEqX (hu70 hr)) (pe_callB call_lenX (by rfl) T.b_len PySem.boot_len (pa_cons (pvl 0) pa_nil)) pe_int (nomark _)))))), ?_⟩
  exact run_P (fs := fs_is_pair) (ds_ret (de_and (de_tyEq (by decide) (de_var 0)) (de_op r2_eqX (de_cb cb_len (da_cons (de_var 0) da_nil)) (de_c (IsC.int _))))) rfl h
theorem ok_contains (T : Tx mg) (D : At K mg "contains" s_contains ["interval", "position"]) : Dfn P w K mg base "contains" ["interval", "position"] 1 (spP K 2 sem_contains) := by
  refine dfn D sc_contains (len_P rfl) (fun X f cdv A outer s H vs Q E hX hr h => ?_)
  subst hX
  refine ⟨_, (pss_cons (ps_if (pt_cmpR opIs (pvl 0) pe_non (nomark _)) (pss_one (ps_ret pe_bl)) pss_nil) (pss_cons (ps_asg (pvl 0) (pg_tup rfl (pgs_cons (pg_name (i := 2) sc_contains.nd rfl (Or.inl rfl)) (pgs_cons (pg_name (i := 3) sc_contains.nd rfl (Or.inl rfl)) pgs_nil)))) (pss_one (ps_ret (pe_and (pe_or (pe_cmpR opIs (pvl 2) pe_non (nomark _)) (pe_one (pe_cmpR opLe (pvl 2) (pvl 1) (nomark _)))) (pe_one (pe_or (pe_cmpR opIs (pvl 3) pe_non (nomark _)) (pe_one (pe_cmpR opLe (pvl 1) (pvl 3) (nomark _)))))))))), ?_⟩
  exact run_P (fs := fs_contains) (ds_seq (ds_if (dt_b (de_op r2_is (de_var 0) (de_c IsC.non))) (ds_ret (de_c (IsC.bl _))) ds_next) (ds_seq (ds_asg (de_var 0) (dg_tup (dgs_cons (dg_name 2) (dgs_cons (dg_name 3) dgs_nil)))) (ds_ret (de_and (de_or (de_op r2_is (de_var 2) (de_c IsC.non)) (de_op r2_le (de_var 2) (de_var 1))) (de_or (de_op r2_is (de_var 3) (de_c IsC.non)) (de_op r2_le (de_var 1) (de_var 3))))))) rfl h
theorem ok_joined (T : Tx mg) (D : At K mg "joined" s_joined ["interval", "other"]) : Dfn P w K mg base "joined" ["interval", "other"] 1 (spP K 2 sem_joined) := by
  refine dfn D sc_joined (len_P rfl) (fun X f cdv A outer s H vs Q E hX hr h => ?_)
  subst hX
  refine ⟨_, (pss_cons (ps_if (pt_cmpR opIs (pvl 0) pe_non (nomark _)) (pss_one (ps_ret (pvl 1))) pss_nil) (pss_cons (ps_set (i := 2) sc_joined.nd rfl (Or.inl rfl) pe_non) (pss_cons (ps_if (PW.pt (pw_and (pt_cmpR opIsNot (pe_ix ix_seq (pvl 0) pe_int (fun _ _ => rfl)) pe_non (nomark _)) (pw_and1 (pt_cmpR opIsNot (pe_ix ix_seq (pvl 1) pe_int (fun _ _ => rfl)) pe_non (nomark _))))) (pss_one (ps_set (i := 2) sc_joined.nd rfl (Or.inl rfl) (pe_callB (call_min2 rfl) (by rfl) T.b_min (by decide +kernel) (pa_cons (pe_ix ix_seq (pvl 0) pe_int (fun _ _ => rfl)) (pa_cons (pe_ix ix_seq (pvl 1) pe_int (fun _ _ => rfl)) pa_nil))))) pss_nil) (pss_cons (ps_set (i := 3) sc_joined.nd rfl (Or.inl rfl) pe_non) (pss_cons (ps_if (PW.pt (pw_and (pt_cmpR opIsNot (pe_ix ix_seq (pvl 0) pe_int (fun _ _ => rfl)) pe_non (nomark _)) (pw_and1 (pt_cmpR opIsNot (pe_ix ix_seq (pvl 1) pe_int (fun _ _ => rfl)) pe_non (nomark _))))) (pss_one (ps_set (i := 3) sc_joined.nd rfl (Or.inl rfl) (pe_callB (call_max2 rfl) (by rfl) T.b_max (by decide +kernel) (pa_cons (pe_ix ix_seq (pvl 0) pe_int (fun _ _ => rfl)) (pa_cons (pe_ix ix_seq (pvl 1) pe_int (fun _ _ => rfl)) pa_nil))))) pss_nil) (pss_one (ps_ret (pe_tup (pa_cons (pvl 2) (pa_cons (pvl 3) pa_nil)))))))))), ?_⟩
  exact run_P (fs := fs_joined) (ds_seq (ds_if (dt_b (de_op r2_is (de_var 0) (de_c IsC.non))) (ds_ret (de_var 1)) ds_next) (ds_seq (ds_asg (de_c IsC.non) (dg_name 2)) (ds_seq (ds_if (dt_and (dt_b (de_op r2_isNot (de_op r2_ix (de_var 0) (de_c (IsC.int _))) (de_c IsC.non))) (dt_b (de_op r2_isNot (de_op r2_ix (de_var 1) (de_c (IsC.int _))) (de_c IsC.non)))) (ds_asg (de_cb cb_min2 (da_cons (de_op r2_ix (de_var 0) (de_c (IsC.int _))) (da_cons (de_op r2_ix (de_var 1) (de_c (IsC.int _))) da_nil))) (dg_name 2)) ds_next) (ds_seq (ds_asg (de_c IsC.non) (dg_name 3)) (ds_seq (ds_if (dt_and (dt_b (de_op r2_isNot (de_op r2_ix (de_var 0) (de_c (IsC.int _))) (de_c IsC.non))) (dt_b (de_op r2_isNot (de_op r2_ix (de_var 1) (de_c (IsC.int _))) (de_c IsC.non)))) (ds_asg (de_cb cb_max2 (da_cons (de_op r2_ix (de_var 0) (de_c (IsC.int _))) (da_cons (de_op r2_ix (de_var 1) (de_c (IsC.int _))) da_nil))) (dg_name 3)) ds_next) (ds_ret (de_tup (da_cons (de_var 2) (da_cons (de_var 3) da_nil))))))))) rfl h
theorem ok_has_hosts_of (T : Tx mg) (D : At K mg "has_hosts_of" s_has_hosts_of ["line", "value"]) : Dfn P w K mg base "has_hosts_of" ["line", "value"] 1 (spP K 2 sem_has_hosts_of) := by
  refine dfn D sc_has_hosts_of (len_P rfl) (fun X f cdv A outer s H vs Q E hX hr h => ?_)
  subst hX
  refine ⟨_, (pss_cons (ps_if (PW.pt (pw_or (pt_not (pt_val (pe_callB call_isi (by rfl) T.b_isinstance (by decide +kernel) (pa_cons (pvc 1) (pa_cons (pe_bltn (v := .ty "dict") (by rfl) T.b_dict boot_dict rfl) pa_nil))))) (pw_or1 (pt_cmpR (opNeX (hu70 hr)) (pe_callB call_lenX (by rfl) T.b_len PySem.boot_len (pa_cons (pvc 1) pa_nil)) (pe_callB call_lenX (by rfl) T.b_len PySem.boot_len (pa_cons (pvl 0) pa_nil)) (nomark _))))) (pss_one (ps_ret pe_bl)) pss_nil) (pss_one (ps_ret (pe_callB (cr_all rfl) (by rfl) T.b_all (by decide +kernel) (pa_cons (PE.or (pe_lock (pe_lc (own := [("host", 2)]) (g := gName 2) (tt := tYes) rfl sc_has_hosts_of.nd (pi_keys (pvl 0)) (blkOk_by (own := [("host", 2)]) (N := nn_has_hosts_of) (sc := defScope s_has_hosts_of) (by decide +kernel)) (fun _ _ _ _ _ => (pg_name (i := 2) sc_has_hosts_of.nd rfl (Or.inl rfl))) (fun _ _ _ _ _ => pts_nil) (blk_e fun _ _ _ _ _ => (pe_cmp (pc_din (hu_of hr) (pvl 2) (pvc 1)))))) (pe_lc (own := [("host", 2)]) (g := gName 2) (tt := tYes) rfl sc_has_hosts_of.nd (pi_keys (pvl 0)) (blkOk_by (own := [("host", 2)]) (N := nn_has_hosts_of) (sc := defScope s_has_hosts_of) (by decide +kernel)) (fun _ _ _ _ _ => (pg_name (i := 2) sc_has_hosts_of.nd rfl (Or.inl rfl))) (fun _ _ _ _ _ => pts_nil) (blk_e fun _ _ _ _ _ => (pe_cmp (pc_din (hu_of hr) (pvl 2) (pvc 1)))))) pa_nil))))), ?_⟩
  exact run_P (fs := fs_has_hosts_of) (ds_seq (ds_if (dt_or (dt_not (dt_b (de_isi (by decide) (de_var 1)))) (dt_b (de_op r2_neX (de_cb cb_len (da_cons (de_var 1) da_nil)) (de_cb cb_len (da_cons (de_var 0) da_nil))))) (ds_ret (de_c (IsC.bl _))) ds_next) (ds_ret (de_cb cb_all (da_cons (DEO.frz (do_lcD .keys 0 (dg_name 2) (by decide) dt_yes (de_all fun _ _ _ _ _ => (de_din (de_var 2) (de_var 1))))) da_nil)))) rfl h
theorem ok_is_host (T : Tx mg) (D : At K mg "is_host" s_is_host ["line", "value"]) : Dfn P w K mg base "is_host" ["line", "value"] 1 (spP K 2 sem_is_host) := by
  refine dfn D sc_is_host (len_P rfl) (fun X f cdv A outer s H vs Q E hX hr h => ?_)
  subst hX
  refine ⟨_, (pss_one (ps_ret (pe_and (pe_callB call_isi (by rfl) T.b_isinstance (by decide +kernel) (pa_cons (pvl 1) (pa_cons (pe_bltn (v := .ty "str") (by rfl) T.b_str (by decide +kernel) rfl) pa_nil))) (pe_one (pe_cmp (pc_din (hu_of hr) (pvl 1) (pvl 0))))))), ?_⟩
  exact run_P (fs := fs_is_host) (ds_ret (de_and (de_isi (by decide) (de_var 1)) (de_din (de_var 1) (de_var 0)))) rfl h
theorem ok_silent_state (T : Tx mg) (D : At K mg "silent_state" s_silent_state ["line"]) : Dfn P w K mg base "silent_state" ["line"] 1 (spO K 1 sem_silent_state) := by
  refine dfn D sc_silent_state (len_O rfl) (fun X f cdv A outer s H vs Q E hX hr h => ?_)
  subst hX
  refine ⟨_, (pss_one (ps_ret (PE.or (pe_lock (pe_dc (own := [("host", 1)]) (g := gName 1) (tt := tYes) rfl sc_silent_state.nd (pi_keys (pvl 0)) (blkOk_by (own := [("host", 1)]) (N := nn_silent_state) (sc := defScope s_silent_state) (by decide +kernel)) (fun _ _ _ _ _ => (pg_name (i := 1) sc_silent_state.nd rfl (Or.inl rfl))) (fun _ _ _ _ _ => pts_nil) (blk_e fun _ _ _ _ _ => (pvl 1)) (blk_e fun _ _ _ _ _ => pe_non))) (pe_dc (own := [("host", 1)]) (g := gName 1) (tt := tYes) rfl sc_silent_state.nd (pi_keys (pvl 0)) (blkOk_by (own := [("host", 1)]) (N := nn_silent_state) (sc := defScope s_silent_state) (by decide +kernel)) (fun _ _ _ _ _ => (pg_name (i := 1) sc_silent_state.nd rfl (Or.inl rfl))) (fun _ _ _ _ _ => pts_nil) (blk_e fun _ _ _ _ _ => (pvl 1)) (blk_e fun _ _ _ _ _ => pe_non))))), ?_⟩
  exact run_O (fs := fs_silent_state) (ds_retO (do_dcD .keys 0 (dg_name 1) (by decide) dt_yes (de_all fun _ _ _ _ _ => (de_var 1)) (de_all fun _ _ _ _ _ => (de_c IsC.non)))) rfl h
theorem ok_reach_of_kind (T : Tx mg) (D : At K mg "reach_of_kind" s_reach_of_kind ["kind", "start", "end"]) : Dfn P w K mg base "reach_of_kind" ["kind", "start", "end"] 1 (spP K 3 sem_reach_of_kind) := by
  refine dfn D sc_reach_of_kind (len_P rfl) (fun X f cdv A outer s H vs Q E hX hr h => ?_)
  subst hX
  refine ⟨_, (pss_cons (ps_if (pt_cmpR (opEqX (hu70 hr)) (pvl 0) (pe_glob (v := .str "all") (by rfl) (Exists.choose_spec T.g_ALL) ⟨_, rfl⟩) (nomark _)) (pss_one (ps_ret (pe_tup (pa_cons pe_non (pa_cons pe_non pa_nil))))) pss_nil) (pss_cons (ps_if (pt_cmpR (opEqX (hu70 hr)) (pvl 0) (pe_glob (v := .str "direct") (by rfl) (Exists.choose_spec T.g_DIRECT) ⟨_, rfl⟩) (nomark _)) (pss_one (ps_ret (pe_tup (pa_cons (pe_callB (call_min2 rfl) (by rfl) T.b_min (by decide +kernel) (pa_cons (pvl 1) (pa_cons (pvl 2) pa_nil))) (pa_cons (pe_callB (call_max2 rfl) (by rfl) T.b_max (by decide +kernel) (pa_cons (pvl 1) (pa_cons (pvl 2) pa_nil))) pa_nil))))) pss_nil) (pss_cons (ps_if (pt_cmpR opLt (pvl 1) (pvl 2) (nomark _)) (pss_one (ps_ret (pe_tup (pa_cons pe_non (pa_cons (pvl 2) pa_nil))))) pss_nil) (pss_one (ps_ret (pe_tup (pa_cons (pvl 2) (pa_cons pe_non pa_nil)))))))), ?_⟩
  exact run_P (fs := fs_reach_of_kind) (ds_seq (ds_if (dt_b (de_op r2_eqX (de_var 0) (de_c (IsC.str _)))) (ds_ret (de_tup (da_cons (de_c IsC.non) (da_cons (de_c IsC.non) da_nil)))) ds_next) (ds_seq (ds_if (dt_b (de_op r2_eqX (de_var 0) (de_c (IsC.str _)))) (ds_ret (de_tup (da_cons (de_cb cb_min2 (da_cons (de_var 1) (da_cons (de_var 2) da_nil))) (da_cons (de_cb cb_max2 (da_cons (de_var 1) (da_cons (de_var 2) da_nil))) da_nil)))) ds_next) (ds_seq (ds_if (dt_b (de_op r2_lt (de_var 1) (de_var 2))) (ds_ret (de_tup (da_cons (de_c IsC.non) (da_cons (de_var 2) da_nil)))) ds_next) (ds_ret (de_tup (da_cons (de_var 2) (da_cons (de_c IsC.non) da_nil))))))) rfl h
theorem ok__law_spring (T : Tx mg) (D : At K mg "_law_spring" s__law_spring ["script"]) : Dfn P w K mg base "_law_spring" ["script"] 1 (spO K 1 sem__law_spring) := by
  refine dfn D sc__law_spring (len_O rfl) (fun X f cdv A outer s H vs Q E hX hr h => ?_)
  subst hX
  refine ⟨_, (pss_cons (ps_asg (pe_tup (pa_cons pe_int (pa_cons pe_int pa_nil))) (pg_tup rfl (pgs_cons (pg_name (i := 1) sc__law_spring.nd rfl (Or.inl rfl)) (pgs_cons (pg_name (i := 2) sc__law_spring.nd rfl (Or.inl rfl)) pgs_nil)))) (pss_cons (ps_for PassesOwn.never rfl (pi_list (pe_slice sl_list (pvl 0) po_none (po_some pe_int))) (pg_name (i := 3) sc__law_spring.nd rfl (Or.inl rfl)) (pss_cons (ps_if (pt_cmpR opGe (pe_callB call_abs (by rfl) T.b_abs (by decide +kernel) (pa_cons (pvl 3) pa_nil)) (pe_op opPow pe_int pe_int) (nomark _)) (pss_one (ps_set (i := 1) sc__law_spring.nd rfl (Or.inl rfl) (pe_op opAdd (pe_op opMul (pvl 1) (pe_op opPow pe_int pe_int)) (pe_op opMod (pe_callB call_abs (by rfl) T.b_abs (by decide +kernel) (pa_cons (pvl 3) pa_nil)) (pe_op opPow pe_int pe_int))))) pss_nil) (pss_one (ps_set (i := 2) sc__law_spring.nd rfl (Or.inl rfl) (pe_op opMod (pe_op opAdd (pe_op opAdd (pe_op opMul (pvl 2) pe_int) (pe_op opMod (pvl 3) pe_int)) pe_int) pe_int))))) (pss_one (ps_ret (pe_lst (pa_cons (pvl 1) (pa_cons (pvl 2) (pa_cons pe_int pa_nil)))))))), ?_⟩
  exact run_O (fs := fs__law_spring) (ds_seq (ds_asg (de_tup (da_cons (de_c (IsC.int _)) (da_cons (de_c (IsC.int _)) da_nil))) (dg_tup (dgs_cons (dg_name 1) (dgs_cons (dg_name 2) dgs_nil)))) (ds_seq (ds_for (di_list (DEO.frz (do_sl (de_var 0) dp_no (dp_at (de_c (IsC.int _)))))) (dg_name 3) (ds_seq (ds_if (dt_b (de_op r2_ge (de_cb cb_abs (da_cons (de_var 3) da_nil)) (de_op r2_pow (de_c (IsC.int _)) (de_c (IsC.int _))))) (ds_asg (de_op r2_add (de_op r2_mul (de_var 1) (de_op r2_pow (de_c (IsC.int _)) (de_c (IsC.int _)))) (de_op r2_mod (de_cb cb_abs (da_cons (de_var 3) da_nil)) (de_op r2_pow (de_c (IsC.int _)) (de_c (IsC.int _))))) (dg_name 1)) ds_next) (ds_asg (de_op r2_mod (de_op r2_add (de_op r2_add (de_op r2_mul (de_var 2) (de_c (IsC.int _))) (de_op r2_mod (de_var 3) (de_c (IsC.int _)))) (de_c (IsC.int _))) (de_c (IsC.int _))) (dg_name 2)))) (ds_retO (do_lst (da_cons (de_var 1) (da_cons (de_var 2) (da_cons (de_c (IsC.int _)) da_nil))))))) rfl h
theorem ok__law_draw (T : Tx mg) (D : At K mg "_law_draw" s__law_draw ["spring", "many"]) : Dfn P w K mg base "_law_draw" ["spring", "many"] 1 (spM K 2 0 sem__law_draw) := by
  refine dfn D sc__law_draw (len_M rfl) (fun X f cdv A outer s H vs Q E hX hr h => ?_)
  subst hX
  refine ⟨_, (pss_cons (ps_if (pt_cmpR opGt (pe_ix ix_seq (pvl 0) pe_int (fun _ _ => rfl)) pe_int (nomark _)) (pss_cons (ps_set (i := 2) sc__law_draw.nd rfl (Or.inl rfl) (pe_op opMod (pe_ix ix_seq (pvl 0) pe_int (fun _ _ => rfl)) (pvl 1))) (pss_cons (ps_asg (pe_op opFdv (pe_ix ix_seq (pvl 0) pe_int (fun _ _ => rfl)) (pvl 1)) (pg_sub (pvl 0) pe_int set_list)) (pss_one (ps_ret (pvl 2))))) pss_nil) (pss_cons (ps_asg (pe_op opAdd (pe_ix ix_seq (pvl 0) pe_int (fun _ _ => rfl)) pe_int) (pg_sub (pvl 0) pe_int set_list)) (pss_cons (ps_set (i := 3) sc__law_draw.nd rfl (Or.inl rfl) (pe_op opMod (pe_op opMul (pe_ix ix_seq (pvl 0) pe_int (fun _ _ => rfl)) (pe_ix ix_seq (pvl 0) pe_int (fun _ _ => rfl))) pe_int)) (pss_cons (ps_asg (pe_op opMod (pe_op opAdd (pe_op opAdd (pvl 3) (pe_op opMul (pe_op opMul pe_int (pe_ix ix_seq (pvl 0) pe_int (fun _ _ => rfl))) (pe_ix ix_seq (pvl 0) pe_int (fun _ _ => rfl)))) pe_int) pe_int) (pg_sub (pvl 0) pe_int set_list)) (pss_one (ps_ret (pe_op opMod (pe_op opFdv (pe_ix ix_seq (pvl 0) pe_int (fun _ _ => rfl)) pe_int) (pvl 1)))))))), ?_⟩
  exact run_M (fs := fs__law_draw) (ds_seq (ds_if (dt_b (de_op r2_gt (de_op r2_ix (de_var 0) (de_c (IsC.int _))) (de_c (IsC.int _)))) (ds_seq (ds_asg (de_op r2_mod (de_op r2_ix (de_var 0) (de_c (IsC.int _))) (de_var 1)) (dg_name 2)) (ds_seq (ds_setL (i := 0) (de_c (IsC.int _)) (de_op r2_fdv (de_op r2_ix (de_var 0) (de_c (IsC.int _))) (de_var 1))) (ds_ret (de_var 2)))) ds_next) (ds_seq (ds_setL (i := 0) (de_c (IsC.int _)) (de_op r2_add (de_op r2_ix (de_var 0) (de_c (IsC.int _))) (de_c (IsC.int _)))) (ds_seq (ds_asg (de_op r2_mod (de_op r2_mul (de_op r2_ix (de_var 0) (de_c (IsC.int _))) (de_op r2_ix (de_var 0) (de_c (IsC.int _)))) (de_c (IsC.int _))) (dg_name 3)) (ds_seq (ds_setL (i := 0) (de_c (IsC.int _)) (de_op r2_mod (de_op r2_add (de_op r2_add (de_var 3) (de_op r2_mul (de_op r2_mul (de_c (IsC.int _)) (de_op r2_ix (de_var 0) (de_c (IsC.int _)))) (de_op r2_ix (de_var 0) (de_c (IsC.int _))))) (de_c (IsC.int _))) (de_c (IsC.int _)))) (ds_ret (de_op r2_mod (de_op r2_fdv (de_op r2_ix (de_var 0) (de_c (IsC.int _))) (de_c (IsC.int _))) (de_var 1))))))) rfl h
theorem ok__law_passed (T : Tx mg) (D : At K mg "_law_passed" s__law_passed ["window", "knows", "start", "goal"]) : Dfn P w K mg base "_law_passed" ["window", "knows", "start", "goal"] 1 (spP K 4 sem__law_passed) := by
  refine dfn D sc__law_passed (len_P rfl) (fun X f cdv A outer s H vs Q E hX hr h => ?_)
  subst hX
  refine ⟨_, (pss_cons (ps_par (i := 4) (j := 5) (by rfl) sc__law_passed.nd rfl rfl (by decide) rfl rfl (pa_cons (pe_lst (pa_cons (pvl 2) pa_nil)) (pa_cons (pe_lst (pa_cons (pe_tup (pa_cons (pvl 2) (pa_cons pe_int pa_nil))) pa_nil)) pa_nil)) (by rfl)) (pss_cons (ps_while PassesOwn.never (pt_cmpR (opNeX (hu70 hr)) (pvl 5) (pe_lst pa_nil) (nomark _)) (pss_cons (ps_asg (pe_bm0 PySem.F.plainAttrs_list PySem.F.slot_list_pop PySem.F.type_list_pop mt_pop (pvl 5)) (pg_tup rfl (pgs_cons (pg_name (i := 6) sc__law_passed.nd rfl (Or.inl rfl)) (pgs_cons (pg_name (i := 7) sc__law_passed.nd rfl (Or.inl rfl)) pgs_nil)))) (pss_cons (ps_set (i := 8) sc__law_passed.nd rfl (Or.inl rfl) (pe_lst (pa_cons (pe_un un_neg pe_int) (pa_cons pe_int pa_nil)))) (pss_cons (ps_if (pt_cmpR op_in_seq (pvl 6) (pvl 1) rfl) (pss_one (ps_set (i := 8) sc__law_passed.nd rfl (Or.inl rfl) (pe_ifExp (pt_cmpR (opEqX (hu70 hr)) (pvl 6) (pvl 3) (nomark _)) (pe_lst pa_nil) (pe_lst (pa_cons (pe_ifExp (pt_cmpR opGt (pvl 3) (pvl 6) (nomark _)) pe_int (pe_un un_neg pe_int)) pa_nil))))) pss_nil) (pss_one (ps_for PassesOwn.never rfl (pi_list (pvl 8)) (pg_name (i := 9) sc__law_passed.nd rfl (Or.inl rfl)) (pss_one (ps_if (PW.pt (pw_and (pt_cmpR (opNeX (hu70 hr)) (pvl 9) (pe_op opSub pe_int (pvl 7)) (nomark _)) (pw_and (pt_cmpR op_in_seq (pe_op opAdd (pvl 6) (pvl 9)) (pvl 0) rfl) (pw_and1 (pt_cmpR op_notIn_seq (pe_op opAdd (pvl 6) (pvl 9)) (pvl 4) rfl))))) (pss_cons (ps_expr (pe_bm PySem.F.plainAttrs_list PySem.F.slot_list_append PySem.F.type_list_append mt_append (pvl 4) (pa_cons (pe_op opAdd (pvl 6) (pvl 9)) pa_nil))) (pss_one (ps_expr (pe_bm PySem.F.plainAttrs_list PySem.F.slot_list_append PySem.F.type_list_append mt_append (pvl 5) (pa_cons (pe_tup (pa_cons (pe_op opAdd (pvl 6) (pvl 9)) (pa_cons (pvl 9) pa_nil))) pa_nil))))) pss_nil)))))))) (pss_one (ps_ret (pvl 4))))), ?_⟩
  exact run_P (fs := fs__law_passed) (ds_seq (ds_parO (do_consO (do_lst (da_cons (de_var 2) da_nil)) (do_consO (do_lst (da_cons (de_tup (da_cons (de_var 2) (da_cons (de_c (IsC.int _)) da_nil))) da_nil)) do_nil))) (ds_seq (ds_while 100000 (dt_b (de_op r2_neX (de_var 5) (DEO.frz (do_lst da_nil)))) (ds_seq (ds_asg (de_pop0 (i := 5)) (dg_tup (dgs_cons (dg_name 6) (dgs_cons (dg_name 7) dgs_nil)))) (ds_seq (ds_asg (DEO.frz (do_lst (da_cons (de_neg (de_c (IsC.int _))) (da_cons (de_c (IsC.int _)) da_nil)))) (dg_name 8)) (ds_seq (ds_if (dt_b (de_op r2_inF (de_var 6) (de_var 1))) (ds_asg (de_if (dt_b (de_op r2_eqX (de_var 6) (de_var 3))) (DEO.frz (do_lst da_nil)) (DEO.frz (do_lst (da_cons (de_if (dt_b (de_op r2_gt (de_var 3) (de_var 6))) (de_c (IsC.int _)) (de_neg (de_c (IsC.int _)))) da_nil)))) (dg_name 8)) ds_next) (ds_for (di_list (de_var 8)) (dg_name 9) (ds_if (dt_and (dt_b (de_op r2_neX (de_var 9) (de_op r2_sub (de_c (IsC.int _)) (de_var 7)))) (dt_and (dt_b (de_op r2_inF (de_op r2_add (de_var 6) (de_var 9)) (de_var 0))) (dt_b (de_op r2_notInF (de_op r2_add (de_var 6) (de_var 9)) (de_var 4))))) (ds_seq (ds_drop (de_app (i := 4) (de_op r2_add (de_var 6) (de_var 9)))) (ds_drop (de_app (i := 5) (de_tup (da_cons (de_op r2_add (de_var 6) (de_var 9)) (da_cons (de_var 9) da_nil)))))) ds_next)))))) (ds_ret (de_var 4)))) rfl h
theorem ok__law_kind (T : Tx mg) (D : At K mg "_law_kind" s__law_kind ["knows", "start"]) : Dfn P w K mg base "_law_kind" ["knows", "start"] 1 (spP K 2 sem__law_kind) := by
  refine dfn D sc__law_kind (len_P rfl) (fun X f cdv A outer s H vs Q E hX hr h => ?_)
  subst hX
  refine ⟨_, (pss_cons (ps_if (pt_cmpR (opEqX (hu70 hr)) (pvl 0) (pe_lst pa_nil) (nomark _)) (pss_one (ps_ret pe_str)) pss_nil) (pss_one (ps_ret (pe_ifExp (pt_cmpR op_in_seq (pvl 1) (pvl 0) rfl) pe_str pe_str)))), ?_⟩
  exact run_P (fs := fs__law_kind) (ds_seq (ds_if (dt_b (de_op r2_eqX (de_var 0) (DEO.frz (do_lst da_nil)))) (ds_ret (de_c (IsC.str _))) ds_next) (ds_ret (de_if (dt_b (de_op r2_inF (de_var 1) (de_var 0))) (de_c (IsC.str _)) (de_c (IsC.str _))))) rfl h
theorem ok_is_position (T : Tx mg) (D : At K mg "is_position" s_is_position ["value"]) (D_is_integer : Dfn P w K mg base "is_integer" ["value"] 1 (spP K 1 sem_is_integer)) : Dfn P w K mg base "is_position" ["value"] 2 (spP K 1 sem_is_position) := by
  refine dfn D sc_is_position (len_P rfl) (fun X f cdv A outer s H vs Q E hX hr h => ?_)
  subst hX
  refine ⟨_, (pss_one (ps_ret (pe_and (pe_callD D_is_integer (hr.mono (by decide)) (by rfl) (pa_cons (pvl 0) pa_nil)) (pe_one (pe_chain opLe opLe (pe_un un_neg (pe_glob (v := .int (1000000000000000000000000000000)) (by rfl) (Exists.choose_spec T.g_FARTHEST) ⟨_, rfl⟩)) (pvl 0) (pe_glob (v := .int (1000000000000000000000000000000)) (by rfl) (Exists.choose_spec T.g_FARTHEST) ⟨_, rfl⟩)))))), ?_⟩
  exact run_P (fs := fs_is_position) (ds_ret (de_and (de_callP (n := 1) (da_cons (de_var 0) da_nil)) (de_chain r2_le r2_le (de_neg (de_c (IsC.int _))) (de_var 0) (de_c (IsC.int _))))) rfl h
theorem ok_check_number (T : Tx mg) (D : At K mg "check_number" s_check_number ["number", "least", "most"]) (D_is_integer : Dfn P w K mg base "is_integer" ["value"] 1 (spP K 1 sem_is_integer)) : Dfn P w K mg base "check_number" ["number", "least", "most"] 2 (spP K 3 sem_check_number) := by
  refine dfn D sc_check_number (len_P rfl) (fun X f cdv A outer s H vs Q E hX hr h => ?_)
  subst hX
  refine ⟨_, (pss_one (ps_if (PW.pt (pw_or (pt_not (pt_val (pe_callD D_is_integer (hr.mono (by decide)) (by rfl) (pa_cons (pvl 0) pa_nil)))) (pw_or1 (pt_not (pt_chain opLe opLe (pvl 1) (pvl 0) (pvl 2)))))) (pss_one ps_never) pss_nil)), ?_⟩
  exact run_P (fs := fs_check_number) (ds_if (dt_or (dt_not (dt_b (de_callP (n := 1) (da_cons (de_var 0) da_nil)))) (dt_not (dt_b (de_chain r2_le r2_le (de_var 1) (de_var 0) (de_var 2))))) ds_never ds_next) rfl h
theorem ok_is_end (T : Tx mg) (D : At K mg "is_end" s_is_end ["line", "value"]) (D_is_integer : Dfn P w K mg base "is_integer" ["value"] 1 (spP K 1 sem_is_integer)) : Dfn P w K mg base "is_end" ["line", "value"] 2 (spP K 2 sem_is_end) := by
  refine dfn D sc_is_end (len_P rfl) (fun X f cdv A outer s H vs Q E hX hr h => ?_)
  subst hX
  refine ⟨_, (pss_one (ps_ret (pe_and (pe_callD D_is_integer (hr.mono (by decide)) (by rfl) (pa_cons (pvl 1) pa_nil)) (pe_one (pe_cmpR op_in_seq (pvl 1) (pe_listValues rfl (pvl 0) (by rfl) T.b_list boot_list) rfl))))), ?_⟩
  exact run_P (fs := fs_is_end) (ds_ret (de_and (de_callP (n := 1) (da_cons (de_var 1) da_nil)) (de_op r2_inF (de_var 1) (DEO.frz (do_listVals (de_var 0)))))) rfl h
theorem ok_is_frame (T : Tx mg) (D : At K mg "is_frame" s_is_frame ["line", "value"]) (D_is_host : Dfn P w K mg base "is_host" ["line", "value"] 1 (spP K 2 sem_is_host)) (D_is_pair : Dfn P w K mg base "is_pair" ["value"] 1 (spP K 1 sem_is_pair)) : Dfn P w K mg base "is_frame" ["line", "value"] 2 (spP K 2 sem_is_frame) := by
  refine dfn D sc_is_frame (len_P rfl) (fun X f cdv A outer s H vs Q E hX hr h => ?_)
  subst hX
  refine ⟨_, (pss_cons (ps_if (pt_not (pt_val (pe_callD D_is_pair (hr.mono (by decide)) (by rfl) (pa_cons (pvl 1) pa_nil)))) (pss_one (ps_ret pe_bl)) pss_nil) (pss_cons (ps_asg (pvl 1) (pg_tup rfl (pgs_cons (pg_name (i := 2) sc_is_frame.nd rfl (Or.inl rfl)) (pgs_cons (pg_name (i := 3) sc_is_frame.nd rfl (Or.inl rfl)) pgs_nil)))) (pss_one (ps_ret (pe_and (pe_callD D_is_host (hr.mono (by decide)) (by rfl) (pa_cons (pvl 0) (pa_cons (pvl 2) pa_nil))) (pe_and (pe_callD D_is_host (hr.mono (by decide)) (by rfl) (pa_cons (pvl 0) (pa_cons (pvl 3) pa_nil))) (pe_one (pe_cmpR (opNeX (hu70 hr)) (pvl 2) (pvl 3) (nomark _))))))))), ?_⟩
  exact run_P (fs := fs_is_frame) (ds_seq (ds_if (dt_not (dt_b (de_callP (n := 1) (da_cons (de_var 1) da_nil)))) (ds_ret (de_c (IsC.bl _))) ds_next) (ds_seq (ds_asg (de_var 1) (dg_tup (dgs_cons (dg_name 2) (dgs_cons (dg_name 3) dgs_nil)))) (ds_ret (de_and (de_callP (n := 2) (da_cons (de_var 0) (da_cons (de_var 2) da_nil))) (de_and (de_callP (n := 2) (da_cons (de_var 0) (da_cons (de_var 3) da_nil))) (de_op r2_neX (de_var 2) (de_var 3))))))) rfl h
theorem ok_kind_in (T : Tx mg) (D : At K mg "kind_in" s_kind_in ["line", "state", "sender", "target"]) (D_contains : Dfn P w K mg base "contains" ["interval", "position"] 1 (spP K 2 sem_contains)) : Dfn P w K mg base "kind_in" ["line", "state", "sender", "target"] 2 (spP K 4 sem_kind_in) := by
  refine dfn D sc_kind_in (len_P rfl) (fun X f cdv A outer s H vs Q E hX hr h => ?_)
  subst hX
  refine ⟨_, (pss_cons (ps_if (pt_cmpR opIs (pe_dget (hu_of hr) (pvl 1) (pvl 3) (fun _ _ => rfl)) pe_non (nomark _)) (pss_one (ps_ret (pe_glob (v := .str "all") (by rfl) (Exists.choose_spec T.g_ALL) ⟨_, rfl⟩))) pss_nil) (pss_cons (ps_if (pt_val (pe_callD D_contains (hr.mono (by decide)) (by rfl) (pa_cons (pe_dget (hu_of hr) (pvl 1) (pvl 3) (fun _ _ => rfl)) (pa_cons (pe_dget (hu_of hr) (pvl 0) (pvl 2) (fun _ _ => rfl)) pa_nil)))) (pss_one (ps_ret (pe_glob (v := .str "direct") (by rfl) (Exists.choose_spec T.g_DIRECT) ⟨_, rfl⟩))) pss_nil) (pss_one (ps_ret (pe_glob (v := .str "flood") (by rfl) (Exists.choose_spec T.g_FLOOD) ⟨_, rfl⟩))))), ?_⟩
  exact run_P (fs := fs_kind_in) (ds_seq (ds_if (dt_b (de_op r2_is (de_dget (de_var 1) (de_var 3)) (de_c IsC.non))) (ds_ret (de_c (IsC.str _))) ds_next) (ds_seq (ds_if (dt_b (de_callP (n := 2) (da_cons (de_dget (de_var 1) (de_var 3)) (da_cons (de_dget (de_var 0) (de_var 2)) da_nil)))) (ds_ret (de_c (IsC.str _))) ds_next) (ds_ret (de_c (IsC.str _))))) rfl h
theorem ok__law_names (T : Tx mg) (D : At K mg "_law_names" s__law_names ["spring", "many"]) (D__law_draw : Dfn P w K mg base "_law_draw" ["spring", "many"] 1 (spM K 2 0 sem__law_draw)) : Dfn P w K mg base "_law_names" ["spring", "many"] 2 (spM K 2 0 sem__law_names) := by
  refine dfn D sc__law_names (len_M rfl) (fun X f cdv A outer s H vs Q E hX hr h => ?_)
  subst hX
  refine ⟨_, (pss_cons (ps_set (i := 2) sc__law_names.nd rfl (Or.inr rfl) (pe_op opAdd (pe_callTy (call_listX rfl) (by rfl) T.b_list boot_list (pa_cons pe_str pa_nil)) (pe_lst (pa_cons pe_str (pa_cons pe_str (pa_cons pe_str (pa_cons pe_str (pa_cons pe_str (pa_cons pe_str (pa_cons pe_str (pa_cons pe_str pa_nil))))))))))) (pss_cons (ps_set (i := 2) sc__law_names.nd rfl (Or.inr rfl) (pe_op opAdd (pvc 2) (pe_lst (pa_cons pe_str (pa_cons pe_str (pa_cons pe_str (pa_cons pe_str (pa_cons pe_str (pa_cons pe_str pa_nil))))))))) (pss_one (ps_ret (pe_lc (own := [("turn", 3)]) (g := gName 3) (tt := tYes) rfl sc__law_names.nd (pi_range1 (by rfl) T.b_range (pa_cons (pvl 1) pa_nil)) (blkOk_by (own := [("turn", 3)]) (N := nn__law_names) (sc := defScope s__law_names) (by decide +kernel)) (fun _ _ _ _ _ => (pg_name (i := 3) sc__law_names.nd rfl (Or.inl rfl))) (fun _ _ _ _ _ => pts_nil) (blk_e fun _ _ _ _ _ => (pe_bm PySem.F.plainAttrs_list PySem.F.slot_list_pop PySem.F.type_list_pop mt_popAt (pvc 2) (pa_cons (pe_callD D__law_draw (hr.mono (by decide)) (by rfl) (pa_cons (pvc 0) (pa_cons (pe_callB call_lenX (by rfl) T.b_len PySem.boot_len (pa_cons (pvc 2) pa_nil)) pa_nil))) pa_nil)))))))), ?_⟩
  exact run_M (fs := fs__law_names) (ds_seq (ds_asgO (i := 2) (do_op r2_cat (DEO.frz (do_cb co_list (da_cons (de_c (IsC.str _)) da_nil))) (DEO.frz (do_lst (da_cons (de_c (IsC.str _)) (da_cons (de_c (IsC.str _)) (da_cons (de_c (IsC.str _)) (da_cons (de_c (IsC.str _)) (da_cons (de_c (IsC.str _)) (da_cons (de_c (IsC.str _)) (da_cons (de_c (IsC.str _)) (da_cons (de_c (IsC.str _)) da_nil)))))))))))) (ds_seq (ds_asgO (i := 2) (do_op r2_cat (de_var 2) (DEO.frz (do_lst (da_cons (de_c (IsC.str _)) (da_cons (de_c (IsC.str _)) (da_cons (de_c (IsC.str _)) (da_cons (de_c (IsC.str _)) (da_cons (de_c (IsC.str _)) (da_cons (de_c (IsC.str _)) da_nil)))))))))) (ds_ret (DEO.frz (do_lc (di_rng1 (da_cons (de_var 1) da_nil)) (dg_name 3) (by decide) dt_yes (de_all fun _ _ _ _ _ => (de_popAt (i := 2) (de_callM (n := 2) (p := 0) (da_cons (de_var 0) (da_cons (de_cb cb_len (da_cons (de_var 2) da_nil)) da_nil)))))))))) rfl h
theorem ok__law_frames (T : Tx mg) (D : At K mg "_law_frames" s__law_frames ["spring", "line", "many"]) (D__law_draw : Dfn P w K mg base "_law_draw" ["spring", "many"] 1 (spM K 2 0 sem__law_draw)) : Dfn P w K mg base "_law_frames" ["spring", "line", "many"] 2 (spU K [(.i .fl .fl), .f, .f] .fl sem__law_frames) := by
  refine dfn D sc__law_frames (len_U rfl) (fun X f cdv A outer s H vs Q E hX hr h => ?_)
  subst hX
  refine ⟨_, (pss_cons (ps_par (i := 3) (j := 4) (by rfl) sc__law_frames.nd rfl rfl (by decide) rfl rfl (pa_cons (pe_callB (call_sortX rfl) (by rfl) T.b_sorted (by decide +kernel) (pa_cons (pvl 1) pa_nil)) (pa_cons (pe_lst pa_nil) pa_nil)) (by rfl)) (pss_cons (ps_set (i := 5) sc__law_frames.nd rfl (Or.inl rfl) (pe_op opAdd pe_int (pe_callD D__law_draw (hr.mono (by decide)) (by rfl) (pa_cons (pvl 0) (pa_cons (pe_callB call_lenX (by rfl) T.b_len PySem.boot_len (pa_cons (pvl 3) pa_nil)) pa_nil))))) (pss_cons (ps_for PassesOwn.never rfl (pi_range1 (by rfl) T.b_range (pa_cons (pe_op opMul (pvl 2) (pe_callTy call_int1 (by rfl) T.b_int boot_int (pa_cons (pe_cmpR opGt (pe_callB call_lenX (by rfl) T.b_len PySem.boot_len (pa_cons (pvl 3) pa_nil)) pe_int (nomark _)) pa_nil))) pa_nil)) (pg_name (i := 6) sc__law_frames.nd rfl (Or.inl rfl)) (pss_cons (ps_set (i := 7) sc__law_frames.nd rfl (Or.inl rfl) (pe_callD D__law_draw (hr.mono (by decide)) (by rfl) (pa_cons (pvl 0) (pa_cons (pe_ix ix_seq (pe_lst (pa_cons (pe_callB call_lenX (by rfl) T.b_len PySem.boot_len (pa_cons (pvl 3) pa_nil)) (pa_cons (pvl 5) pa_nil))) (pe_callD D__law_draw (hr.mono (by decide)) (by rfl) (pa_cons (pvl 0) (pa_cons pe_int pa_nil))) (fun _ _ => rfl)) pa_nil)))) (pss_cons (ps_set (i := 8) sc__law_frames.nd rfl (Or.inl rfl) (pe_op opMod (pe_op opAdd (pe_op opAdd (pvl 7) pe_int) (pe_callD D__law_draw (hr.mono (by decide)) (by rfl) (pa_cons (pvl 0) (pa_cons (pe_op opSub (pe_callB call_lenX (by rfl) T.b_len PySem.boot_len (pa_cons (pvl 3) pa_nil)) pe_int) pa_nil)))) (pe_callB call_lenX (by rfl) T.b_len PySem.boot_len (pa_cons (pvl 3) pa_nil)))) (pss_one (ps_expr (pe_bm PySem.F.plainAttrs_list PySem.F.slot_list_append PySem.F.type_list_append mt_append (pvl 4) (pa_cons (pe_tup (pa_cons (pe_ix ix_seq (pvl 3) (pvl 7) (fun _ _ => rfl)) (pa_cons (pe_ix ix_seq (pvl 3) (pvl 8) (fun _ _ => rfl)) pa_nil))) pa_nil))))))) (pss_one (ps_ret (pvl 4)))))), ?_⟩
  exact run_U (ps := [(.i .fl .fl), .f, .f]) (r := .fl) rfl (fs := fs__law_frames) (ds_seq (ds_parO (do_consE (DEO.frz (do_cb co_sort (da_cons (de_var 1) da_nil))) (do_consO (do_lst da_nil) do_nil))) (ds_seq (ds_asg (de_op r2_add (de_c (IsC.int _)) (de_callM (n := 2) (p := 0) (da_cons (de_var 0) (da_cons (de_cb cb_len (da_cons (de_var 3) da_nil)) da_nil)))) (dg_name 5)) (ds_seq (ds_for (di_rng1 (da_cons (de_op r2_mul (de_var 2) (de_cb cb_int1 (da_cons (de_op r2_gt (de_cb cb_len (da_cons (de_var 3) da_nil)) (de_c (IsC.int _))) da_nil))) da_nil)) (dg_name 6) (ds_seq (ds_asg (de_callM (n := 2) (p := 0) (da_cons (de_var 0) (da_cons (de_op r2_ix (DEO.frz (do_lst (da_cons (de_cb cb_len (da_cons (de_var 3) da_nil)) (da_cons (de_var 5) da_nil)))) (de_callM (n := 2) (p := 0) (da_cons (de_var 0) (da_cons (de_c (IsC.int _)) da_nil)))) da_nil))) (dg_name 7)) (ds_seq (ds_asg (de_op r2_mod (de_op r2_add (de_op r2_add (de_var 7) (de_c (IsC.int _))) (de_callM (n := 2) (p := 0) (da_cons (de_var 0) (da_cons (de_op r2_sub (de_cb cb_len (da_cons (de_var 3) da_nil)) (de_c (IsC.int _))) da_nil)))) (de_cb cb_len (da_cons (de_var 3) da_nil))) (dg_name 8)) (ds_drop (de_app (i := 4) (de_tup (da_cons (de_op r2_ix (de_var 3) (de_var 7)) (da_cons (de_op r2_ix (de_var 3) (de_var 8)) da_nil)))))))) (ds_retA 4)))) rfl h
theorem ok_check_position (T : Tx mg) (D : At K mg "check_position" s_check_position ["position"]) (D_is_position : Dfn P w K mg base "is_position" ["value"] 2 (spP K 1 sem_is_position)) : Dfn P w K mg base "check_position" ["position"] 3 (spP K 1 sem_check_position) := by
  refine dfn D sc_check_position (len_P rfl) (fun X f cdv A outer s H vs Q E hX hr h => ?_)
  subst hX
  refine ⟨_, (pss_one (ps_if (pt_not (pt_val (pe_callD D_is_position (hr.mono (by decide)) (by rfl) (pa_cons (pvl 0) pa_nil)))) (pss_one ps_never) pss_nil)), ?_⟩
  exact run_P (fs := fs_check_position) (ds_if (dt_not (dt_b (de_callP (n := 1) (da_cons (de_var 0) da_nil)))) ds_never ds_next) rfl h
theorem ok_is_line (T : Tx mg) (D : At K mg "is_line" s_is_line ["value"]) (D_is_name : Dfn P w K mg base "is_name" ["value"] 1 (spP K 1 sem_is_name)) (D_is_position : Dfn P w K mg base "is_position" ["value"] 2 (spP K 1 sem_is_position)) : Dfn P w K mg base "is_line" ["value"] 3 (spP K 1 sem_is_line) := by
  refine dfn D sc_is_line (len_P rfl) (fun X f cdv A outer s H vs Q E hX hr h => ?_)
  subst hX
  refine ⟨_, (pss_cons (ps_if (PW.pt (pw_or (pt_not (pt_val (pe_callB call_isi (by rfl) T.b_isinstance (by decide +kernel) (pa_cons (pvl 0) (pa_cons (pe_bltn (v := .ty "dict") (by rfl) T.b_dict boot_dict rfl) pa_nil))))) (pw_or1 (pt_not (pt_chain opLe opLe pe_int (pe_callB call_lenX (by rfl) T.b_len PySem.boot_len (pa_cons (pvl 0) pa_nil)) (pe_glob (v := .int (40)) (by rfl) (Exists.choose_spec T.g_MOST_HOSTS) ⟨_, rfl⟩)))))) (pss_one (ps_ret pe_bl)) pss_nil) (pss_cons (PS.or (ps_lock (ps_for PassesOwn.never rfl (pi_items (pvl 0)) (pg_tup rfl (pgs_cons (pg_name (i := 1) sc_is_line.nd rfl (Or.inl rfl)) (pgs_cons (pg_name (i := 2) sc_is_line.nd rfl (Or.inl rfl)) pgs_nil))) (pss_one (ps_if (PW.pt (pw_or (pt_not (pt_val (pe_callD D_is_name (hr.mono (by decide)) (by rfl) (pa_cons (pvl 1) pa_nil)))) (pw_or1 (pt_not (pt_val (pe_callD D_is_position (hr.mono (by decide)) (by rfl) (pa_cons (pvl 2) pa_nil))))))) (pss_one (ps_ret pe_bl)) pss_nil)))) (ps_for PassesOwn.never rfl (pi_items (pvl 0)) (pg_tup rfl (pgs_cons (pg_name (i := 1) sc_is_line.nd rfl (Or.inl rfl)) (pgs_cons (pg_name (i := 2) sc_is_line.nd rfl (Or.inl rfl)) pgs_nil))) (pss_one (ps_if (PW.pt (pw_or (pt_not (pt_val (pe_callD D_is_name (hr.mono (by decide)) (by rfl) (pa_cons (pvl 1) pa_nil)))) (pw_or1 (pt_not (pt_val (pe_callD D_is_position (hr.mono (by decide)) (by rfl) (pa_cons (pvl 2) pa_nil))))))) (pss_one (ps_ret pe_bl)) pss_nil)))) (pss_one (ps_ret (pe_cmpR (opEqX (hu70 hr)) (RZ.pe_lenSetI (by rfl) T.b_len (by rfl) T.b_set (pe_listValues rfl (pvl 0) (by rfl) T.b_list boot_list)) (pe_callB call_lenX (by rfl) T.b_len PySem.boot_len (pa_cons (pvl 0) pa_nil)) (nomark _)))))), ?_⟩
  exact run_P (fs := fs_is_line) (ds_seq (ds_if (dt_or (dt_not (dt_b (de_isi (by decide) (de_var 0)))) (dt_not (dt_b (de_chain r2_le r2_le (de_c (IsC.int _)) (de_cb cb_len (da_cons (de_var 0) da_nil)) (de_c (IsC.int _)))))) (ds_ret (de_c (IsC.bl _))) ds_next) (ds_seq (ds_forD .items 0 (dg_tup (dgs_cons (dg_name 1) (dgs_cons (dg_name 2) dgs_nil))) (ds_if (dt_or (dt_not (dt_b (de_callP (n := 1) (da_cons (de_var 1) da_nil)))) (dt_not (dt_b (de_callP (n := 1) (da_cons (de_var 2) da_nil))))) (ds_ret (de_c (IsC.bl _))) ds_next)) (ds_ret (de_op r2_eqX (de_lenSet (DEO.frz (do_listVals (de_var 0)))) (de_cb cb_len (da_cons (de_var 0) da_nil)))))) rfl h
theorem ok_is_known_interval (T : Tx mg) (D : At K mg "is_known_interval" s_is_known_interval ["line", "host", "value"]) (D_is_end : Dfn P w K mg base "is_end" ["line", "value"] 2 (spP K 2 sem_is_end)) (D_is_pair : Dfn P w K mg base "is_pair" ["value"] 1 (spP K 1 sem_is_pair)) : Dfn P w K mg base "is_known_interval" ["line", "host", "value"] 3 (spP K 3 sem_is_known_interval) := by
  refine dfn D sc_is_known_interval (len_P rfl) (fun X f cdv A outer s H vs Q E hX hr h => ?_)
  subst hX
  refine ⟨_, (pss_cons (ps_if (pt_cmpR opIs (pvl 2) pe_non (nomark _)) (pss_one (ps_ret pe_bl)) pss_nil) (pss_cons (ps_if (pt_not (pt_val (pe_callD D_is_pair (hr.mono (by decide)) (by rfl) (pa_cons (pvl 2) pa_nil)))) (pss_one (ps_ret pe_bl)) pss_nil) (pss_cons (ps_asg (pvl 2) (pg_tup rfl (pgs_cons (pg_name (i := 3) sc_is_known_interval.nd rfl (Or.inl rfl)) (pgs_cons (pg_name (i := 4) sc_is_known_interval.nd rfl (Or.inl rfl)) pgs_nil)))) (pss_cons (ps_set (i := 5) sc_is_known_interval.nd rfl (Or.inl rfl) (pe_dget (hu_of hr) (pvl 0) (pvl 1) (fun _ _ => rfl))) (pss_cons (ps_set (i := 6) sc_is_known_interval.nd rfl (Or.inl rfl) (pe_or (pe_cmpR opIs (pvl 3) pe_non (nomark _)) (pe_one (pe_and (pe_callD D_is_end (hr.mono (by decide)) (by rfl) (pa_cons (pvl 0) (pa_cons (pvl 3) pa_nil))) (pe_one (pe_cmpR opLe (pvl 3) (pvl 5) (nomark _))))))) (pss_cons (ps_set (i := 7) sc_is_known_interval.nd rfl (Or.inl rfl) (pe_or (pe_cmpR opIs (pvl 4) pe_non (nomark _)) (pe_one (pe_and (pe_callD D_is_end (hr.mono (by decide)) (by rfl) (pa_cons (pvl 0) (pa_cons (pvl 4) pa_nil))) (pe_one (pe_cmpR opGe (pvl 4) (pvl 5) (nomark _))))))) (pss_one (ps_ret (pe_and (pvl 6) (pe_one (pvl 7))))))))))), ?_⟩
  exact run_P (fs := fs_is_known_interval) (ds_seq (ds_if (dt_b (de_op r2_is (de_var 2) (de_c IsC.non))) (ds_ret (de_c (IsC.bl _))) ds_next) (ds_seq (ds_if (dt_not (dt_b (de_callP (n := 1) (da_cons (de_var 2) da_nil)))) (ds_ret (de_c (IsC.bl _))) ds_next) (ds_seq (ds_asg (de_var 2) (dg_tup (dgs_cons (dg_name 3) (dgs_cons (dg_name 4) dgs_nil)))) (ds_seq (ds_asg (de_dget (de_var 0) (de_var 1)) (dg_name 5)) (ds_seq (ds_asg (de_or (de_op r2_is (de_var 3) (de_c IsC.non)) (de_and (de_callP (n := 2) (da_cons (de_var 0) (da_cons (de_var 3) da_nil))) (de_op r2_le (de_var 3) (de_var 5)))) (dg_name 6)) (ds_seq (ds_asg (de_or (de_op r2_is (de_var 4) (de_c IsC.non)) (de_and (de_callP (n := 2) (da_cons (de_var 0) (da_cons (de_var 4) da_nil))) (de_op r2_ge (de_var 4) (de_var 5)))) (dg_name 7)) (ds_ret (de_and (de_var 6) (de_var 7))))))))) rfl h
theorem ok_send_one (T : Tx mg) (D : At K mg "send_one" s_send_one ["line", "known", "sender", "target"]) (D_joined : Dfn P w K mg base "joined" ["interval", "other"] 1 (spP K 2 sem_joined)) (D_kind_in : Dfn P w K mg base "kind_in" ["line", "state", "sender", "target"] 2 (spP K 4 sem_kind_in)) (D_reach_of_kind : Dfn P w K mg base "reach_of_kind" ["kind", "start", "end"] 1 (spP K 3 sem_reach_of_kind)) : Dfn P w K mg base "send_one" ["line", "known", "sender", "target"] 3 (spM K 4 1 sem_send_one) := by
  refine dfn D sc_send_one (len_M rfl) (fun X f cdv A outer s H vs Q E hX hr h => ?_)
  subst hX
  refine ⟨_, (pss_cons (ps_set (i := 4) sc_send_one.nd rfl (Or.inl rfl) (pe_callD D_kind_in (hr.mono (by decide)) (by rfl) (pa_cons (pvl 0) (pa_cons (pvl 1) (pa_cons (pvl 2) (pa_cons (pvl 3) pa_nil)))))) (pss_cons (ps_set (i := 5) sc_send_one.nd rfl (Or.inl rfl) (pe_callD D_reach_of_kind (hr.mono (by decide)) (by rfl) (pa_cons (pvl 4) (pa_cons (pe_dget (hu_of hr) (pvl 0) (pvl 2) (fun _ _ => rfl)) (pa_cons (pe_dget (hu_of hr) (pvl 0) (pvl 3) (fun _ _ => rfl)) pa_nil))))) (pss_cons (ps_dput (hu_of hr) (pvl 1) (pvl 2) (pe_callD D_joined (hr.mono (by decide)) (by rfl) (pa_cons (pe_dget (hu_of hr) (pvl 1) (pvl 2) (fun _ _ => rfl)) (pa_cons (pvl 5) pa_nil))) rfl) (pss_one (ps_ret (pe_tup (pa_cons (pvl 4) (pa_cons (pvl 5) pa_nil)))))))), ?_⟩
  exact run_M (fs := fs_send_one) (ds_seq (ds_asg (de_callB (n := 4) (p := 1) (da_cons (de_var 0) (da_cons (de_var 1) (da_cons (de_var 2) (da_cons (de_var 3) da_nil))))) (dg_name 4)) (ds_seq (ds_asg (de_callP (n := 3) (da_cons (de_var 4) (da_cons (de_dget (de_var 0) (de_var 2)) (da_cons (de_dget (de_var 0) (de_var 3)) da_nil)))) (dg_name 5)) (ds_seq (ds_put (i := 1) (de_var 2) (de_callP (n := 2) (da_cons (de_dget (de_var 1) (de_var 2)) (da_cons (de_var 5) da_nil)))) (ds_ret (de_tup (da_cons (de_var 4) (da_cons (de_var 5) da_nil))))))) rfl h
theorem ok__law_line (T : Tx mg) (D : At K mg "_law_line" s__law_line ["spring", "many"]) (D__law_draw : Dfn P w K mg base "_law_draw" ["spring", "many"] 1 (spM K 2 0 sem__law_draw)) (D__law_names : Dfn P w K mg base "_law_names" ["spring", "many"] 2 (spM K 2 0 sem__law_names)) : Dfn P w K mg base "_law_line" ["spring", "many"] 3 (spU K [(.i .fl .fl), .f] .fl sem__law_line) := by
  refine dfn D sc__law_line (len_U rfl) (fun X f cdv A outer s H vs Q E hX hr h => ?_)
  subst hX
  refine ⟨_, (pss_cons (ps_set (i := 2) sc__law_line.nd rfl (Or.inl rfl) (pe_callD D__law_draw (hr.mono (by decide)) (by rfl) (pa_cons (pvl 0) (pa_cons pe_int pa_nil)))) (pss_cons (ps_par (i := 3) (j := 4) (by rfl) sc__law_line.nd rfl rfl (by decide) rfl rfl (pa_cons (pe_ix ix_seq (pe_lst (pa_cons pe_int (pa_cons pe_int (pa_cons (pe_op opPow pe_int pe_int) (pa_cons (pe_op opMul pe_int (pe_op opPow pe_int pe_int)) pa_nil))))) (pvl 2) (fun _ _ => rfl)) (pa_cons (pe_ix ix_seq (pe_lst (pa_cons (pe_un un_neg pe_int) (pa_cons (pe_un un_neg pe_int) (pa_cons (pe_un un_neg (pe_op opPow pe_int pe_int)) (pa_cons (pe_un un_neg (pe_op opPow pe_int pe_int)) pa_nil))))) (pvl 2) (fun _ _ => rfl)) pa_nil)) (by rfl)) (pss_cons (ps_par (i := 5) (j := 6) (by rfl) sc__law_line.nd rfl rfl (by decide) rfl rfl (pa_cons (pe_lst pa_nil) (pa_cons (pe_lst pa_nil) pa_nil)) (by rfl)) (pss_cons (ps_for PassesOwn.never rfl (pi_list (pe_callD D__law_names (hr.mono (by decide)) (by rfl) (pa_cons (pvl 0) (pa_cons (pvl 1) pa_nil)))) (pg_name (i := 7) sc__law_line.nd rfl (Or.inl rfl)) (pss_cons (ps_expr (pe_bm PySem.F.plainAttrs_list PySem.F.slot_list_append PySem.F.type_list_append mt_append (pvl 5) (pa_cons (pe_tup (pa_cons (pvl 7) (pa_cons (pvl 4) pa_nil))) pa_nil))) (pss_one (ps_set (i := 4) sc__law_line.nd rfl (Or.inl rfl) (pe_op opAdd (pe_op opAdd (pvl 4) pe_int) (pe_callD D__law_draw (hr.mono (by decide)) (by rfl) (pa_cons (pvl 0) (pa_cons (pvl 3) pa_nil)))))))) (pss_cons (ps_while PassesOwn.never (pt_cmpR (opNeX (hu70 hr)) (pvl 5) (pe_lst pa_nil) (nomark _)) (pss_one (ps_expr (pe_bm PySem.F.plainAttrs_list PySem.F.slot_list_append PySem.F.type_list_append mt_append (pvl 6) (pa_cons (pe_bm PySem.F.plainAttrs_list PySem.F.slot_list_pop PySem.F.type_list_pop mt_popAt (pvl 5) (pa_cons (pe_callD D__law_draw (hr.mono (by decide)) (by rfl) (pa_cons (pvl 0) (pa_cons (pe_callB call_lenX (by rfl) T.b_len PySem.boot_len (pa_cons (pvl 5) pa_nil)) pa_nil))) pa_nil)) pa_nil))))) (pss_one (ps_ret (pe_callTy (call_dictX rfl) (by rfl) T.b_dict boot_dict (pa_cons (pvl 6) pa_nil))))))))), ?_⟩
  exact run_U (ps := [(.i .fl .fl), .f]) (r := .fl) rfl (fs := fs__law_line) (ds_seq (ds_asg (de_callM (n := 2) (p := 0) (da_cons (de_var 0) (da_cons (de_c (IsC.int _)) da_nil))) (dg_name 2)) (ds_seq (ds_par (da_cons (de_op r2_ix (DEO.frz (do_lst (da_cons (de_c (IsC.int _)) (da_cons (de_c (IsC.int _)) (da_cons (de_op r2_pow (de_c (IsC.int _)) (de_c (IsC.int _))) (da_cons (de_op r2_mul (de_c (IsC.int _)) (de_op r2_pow (de_c (IsC.int _)) (de_c (IsC.int _)))) da_nil)))))) (de_var 2)) (da_cons (de_op r2_ix (DEO.frz (do_lst (da_cons (de_neg (de_c (IsC.int _))) (da_cons (de_neg (de_c (IsC.int _))) (da_cons (de_neg (de_op r2_pow (de_c (IsC.int _)) (de_c (IsC.int _)))) (da_cons (de_neg (de_op r2_pow (de_c (IsC.int _)) (de_c (IsC.int _)))) da_nil)))))) (de_var 2)) da_nil))) (ds_seq (ds_parO (do_consO (do_lst da_nil) (do_consO (do_lst da_nil) do_nil))) (ds_seq (ds_for (di_list (de_callM (n := 2) (p := 0) (da_cons (de_var 0) (da_cons (de_var 1) da_nil)))) (dg_name 7) (ds_seq (ds_drop (de_app (i := 5) (de_tup (da_cons (de_var 7) (da_cons (de_var 4) da_nil))))) (ds_asg (de_op r2_add (de_op r2_add (de_var 4) (de_c (IsC.int _))) (de_callM (n := 2) (p := 0) (da_cons (de_var 0) (da_cons (de_var 3) da_nil)))) (dg_name 4)))) (ds_seq (ds_while 100000 (dt_b (de_op r2_neX (de_var 5) (DEO.frz (do_lst da_nil)))) (ds_drop (de_app (i := 6) (de_popAt (i := 5) (de_callM (n := 2) (p := 0) (da_cons (de_var 0) (da_cons (de_cb cb_len (da_cons (de_var 5) da_nil)) da_nil))))))) (ds_retO (do_cb co_dict (da_cons (de_var 6) da_nil)))))))) rfl h
theorem ok_check_line (T : Tx mg) (D : At K mg "check_line" s_check_line ["line"]) (D_is_line : Dfn P w K mg base "is_line" ["value"] 3 (spP K 1 sem_is_line)) : Dfn P w K mg base "check_line" ["line"] 4 (spP K 1 sem_check_line) := by
  refine dfn D sc_check_line (len_P rfl) (fun X f cdv A outer s H vs Q E hX hr h => ?_)
  subst hX
  refine ⟨_, (pss_one (ps_if (pt_not (pt_val (pe_callD D_is_line (hr.mono (by decide)) (by rfl) (pa_cons (pvl 0) pa_nil)))) (pss_one ps_never) pss_nil)), ?_⟩
  exact run_P (fs := fs_check_line) (ds_if (dt_not (dt_b (de_callP (n := 1) (da_cons (de_var 0) da_nil)))) ds_never ds_next) rfl h
theorem ok_send_each (T : Tx mg) (D : At K mg "send_each" s_send_each ["line", "known", "frames"]) (D_send_one : Dfn P w K mg base "send_one" ["line", "known", "sender", "target"] 3 (spM K 4 1 sem_send_one)) : Dfn P w K mg base "send_each" ["line", "known", "frames"] 4 (spM K 3 1 sem_send_each) := by
  refine dfn D sc_send_each (len_M rfl) (fun X f cdv A outer s H vs Q E hX hr h => ?_)
  subst hX
  refine ⟨_, (pss_cons (ps_set (i := 3) sc_send_each.nd rfl (Or.inl rfl) (pe_lst pa_nil)) (pss_cons (ps_for PassesOwn.never rfl (pi_list (pvl 2)) (pg_tup rfl (pgs_cons (pg_name (i := 4) sc_send_each.nd rfl (Or.inl rfl)) (pgs_cons (pg_name (i := 5) sc_send_each.nd rfl (Or.inl rfl)) pgs_nil))) (pss_one (ps_expr (pe_bm PySem.F.plainAttrs_list PySem.F.slot_list_append PySem.F.type_list_append mt_append (pvl 3) (pa_cons (pe_callD D_send_one (hr.mono (by decide)) (by rfl) (pa_cons (pvl 0) (pa_cons (pvl 1) (pa_cons (pvl 4) (pa_cons (pvl 5) pa_nil))))) pa_nil))))) (pss_one (ps_ret (pvl 3))))), ?_⟩
  exact run_M (fs := fs_send_each) (ds_seq (ds_asgO (i := 3) (do_lst da_nil)) (ds_seq (ds_for (di_list (de_var 2)) (dg_tup (dgs_cons (dg_name 4) (dgs_cons (dg_name 5) dgs_nil))) (ds_drop (de_app (i := 3) (de_callM (n := 4) (p := 1) (da_cons (de_var 0) (da_cons (de_var 1) (da_cons (de_var 4) (da_cons (de_var 5) da_nil)))))))) (ds_ret (de_var 3)))) rfl h
theorem ok_is_state (T : Tx mg) (D : At K mg "is_state" s_is_state ["line", "value"]) (D_check_line : Dfn P w K mg base "check_line" ["line"] 4 (spP K 1 sem_check_line)) (D_has_hosts_of : Dfn P w K mg base "has_hosts_of" ["line", "value"] 1 (spP K 2 sem_has_hosts_of)) (D_is_known_interval : Dfn P w K mg base "is_known_interval" ["line", "host", "value"] 3 (spP K 3 sem_is_known_interval)) : Dfn P w K mg base "is_state" ["line", "value"] 5 (spP K 2 sem_is_state) := by
  refine dfn D sc_is_state (len_P rfl) (fun X f cdv A outer s H vs Q E hX hr h => ?_)
  subst hX
  refine ⟨_, (pss_cons (ps_expr (pe_callD D_check_line (hr.mono (by decide)) (by rfl) (pa_cons (pvc 0) pa_nil))) (pss_cons (ps_if (pt_not (pt_val (pe_callD D_has_hosts_of (hr.mono (by decide)) (by rfl) (pa_cons (pvc 0) (pa_cons (pvc 1) pa_nil))))) (pss_one (ps_ret pe_bl)) pss_nil) (pss_one (ps_ret (pe_callB (cr_all rfl) (by rfl) T.b_all (by decide +kernel) (pa_cons (PE.or (pe_lock (pe_lc (own := [("host", 2)]) (g := gName 2) (tt := tYes) rfl sc_is_state.nd (pi_keys (pvc 0)) (blkOk_by (own := [("host", 2)]) (N := nn_is_state) (sc := defScope s_is_state) (by decide +kernel)) (fun _ _ _ _ _ => (pg_name (i := 2) sc_is_state.nd rfl (Or.inl rfl))) (fun _ _ _ _ _ => pts_nil) (blk_e fun _ _ _ _ _ => (pe_callD D_is_known_interval (hr.mono (by decide)) (by rfl) (pa_cons (pvc 0) (pa_cons (pvl 2) (pa_cons (pe_dget (hu_of hr) (pvc 1) (pvl 2) (fun _ _ => rfl)) pa_nil))))))) (pe_lc (own := [("host", 2)]) (g := gName 2) (tt := tYes) rfl sc_is_state.nd (pi_keys (pvc 0)) (blkOk_by (own := [("host", 2)]) (N := nn_is_state) (sc := defScope s_is_state) (by decide +kernel)) (fun _ _ _ _ _ => (pg_name (i := 2) sc_is_state.nd rfl (Or.inl rfl))) (fun _ _ _ _ _ => pts_nil) (blk_e fun _ _ _ _ _ => (pe_callD D_is_known_interval (hr.mono (by decide)) (by rfl) (pa_cons (pvc 0) (pa_cons (pvl 2) (pa_cons (pe_dget (hu_of hr) (pvc 1) (pvl 2) (fun _ _ => rfl)) pa_nil))))))) pa_nil)))))), ?_⟩
  exact run_P (fs := fs_is_state) (ds_seq (ds_drop (de_callP (n := 1) (da_cons (de_var 0) da_nil))) (ds_seq (ds_if (dt_not (dt_b (de_callP (n := 2) (da_cons (de_var 0) (da_cons (de_var 1) da_nil))))) (ds_ret (de_c (IsC.bl _))) ds_next) (ds_ret (de_cb cb_all (da_cons (DEO.frz (do_lcD .keys 0 (dg_name 2) (by decide) dt_yes (de_all fun _ _ _ _ _ => (de_callP (n := 3) (da_cons (de_var 0) (da_cons (de_var 2) (da_cons (de_dget (de_var 1) (de_var 2)) da_nil))))))) da_nil))))) rfl h
theorem ok_is_frames (T : Tx mg) (D : At K mg "is_frames" s_is_frames ["line", "value"]) (D_check_line : Dfn P w K mg base "check_line" ["line"] 4 (spP K 1 sem_check_line)) (D_is_frame : Dfn P w K mg base "is_frame" ["line", "value"] 2 (spP K 2 sem_is_frame)) (D_is_list : Dfn P w K mg base "is_list" ["value"] 1 (spP K 1 sem_is_list)) : Dfn P w K mg base "is_frames" ["line", "value"] 5 (spP K 2 sem_is_frames) := by
  refine dfn D sc_is_frames (len_P rfl) (fun X f cdv A outer s H vs Q E hX hr h => ?_)
  subst hX
  refine ⟨_, (pss_cons (ps_expr (pe_callD D_check_line (hr.mono (by decide)) (by rfl) (pa_cons (pvc 0) pa_nil))) (pss_cons (ps_if (PW.pt (pw_or (pt_not (pt_val (pe_callD D_is_list (hr.mono (by decide)) (by rfl) (pa_cons (pvl 1) pa_nil)))) (pw_or1 (pt_cmpR opGt (pe_callB call_lenX (by rfl) T.b_len PySem.boot_len (pa_cons (pvl 1) pa_nil)) (pe_glob (v := .int (300)) (by rfl) (Exists.choose_spec T.g_MOST_FRAMES) ⟨_, rfl⟩) (nomark _))))) (pss_one (ps_ret pe_bl)) pss_nil) (pss_one (ps_ret (pe_callB (cr_all rfl) (by rfl) T.b_all (by decide +kernel) (pa_cons (pe_lc (own := [("item", 2)]) (g := gName 2) (tt := tYes) rfl sc_is_frames.nd (pi_list (pvl 1)) (blkOk_by (own := [("item", 2)]) (N := nn_is_frames) (sc := defScope s_is_frames) (by decide +kernel)) (fun _ _ _ _ _ => (pg_name (i := 2) sc_is_frames.nd rfl (Or.inl rfl))) (fun _ _ _ _ _ => pts_nil) (blk_e fun _ _ _ _ _ => (pe_callD D_is_frame (hr.mono (by decide)) (by rfl) (pa_cons (pvc 0) (pa_cons (pvl 2) pa_nil))))) pa_nil)))))), ?_⟩
  exact run_P (fs := fs_is_frames) (ds_seq (ds_drop (de_callP (n := 1) (da_cons (de_var 0) da_nil))) (ds_seq (ds_if (dt_or (dt_not (dt_b (de_callP (n := 1) (da_cons (de_var 1) da_nil)))) (dt_b (de_op r2_gt (de_cb cb_len (da_cons (de_var 1) da_nil)) (de_c (IsC.int _))))) (ds_ret (de_c (IsC.bl _))) ds_next) (ds_ret (de_cb cb_all (da_cons (DEO.frz (do_lc (di_list (de_var 1)) (dg_name 2) (by decide) dt_yes (de_all fun _ _ _ _ _ => (de_callP (n := 2) (da_cons (de_var 0) (da_cons (de_var 2) da_nil)))))) da_nil))))) rfl h
theorem ok_check_state (T : Tx mg) (D : At K mg "check_state" s_check_state ["line", "state"]) (D_is_state : Dfn P w K mg base "is_state" ["line", "value"] 5 (spP K 2 sem_is_state)) : Dfn P w K mg base "check_state" ["line", "state"] 6 (spP K 2 sem_check_state) := by
  refine dfn D sc_check_state (len_P rfl) (fun X f cdv A outer s H vs Q E hX hr h => ?_)
  subst hX
  refine ⟨_, (pss_one (ps_if (pt_not (pt_val (pe_callD D_is_state (hr.mono (by decide)) (by rfl) (pa_cons (pvl 0) (pa_cons (pvl 1) pa_nil))))) (pss_one ps_never) pss_nil)), ?_⟩
  exact run_P (fs := fs_check_state) (ds_if (dt_not (dt_b (de_callP (n := 2) (da_cons (de_var 0) (da_cons (de_var 1) da_nil))))) ds_never ds_next) rfl h
theorem ok_check_frames (T : Tx mg) (D : At K mg "check_frames" s_check_frames ["line", "frames"]) (D_is_frames : Dfn P w K mg base "is_frames" ["line", "value"] 5 (spP K 2 sem_is_frames)) : Dfn P w K mg base "check_frames" ["line", "frames"] 6 (spP K 2 sem_check_frames) := by
  refine dfn D sc_check_frames (len_P rfl) (fun X f cdv A outer s H vs Q E hX hr h => ?_)
  subst hX
  refine ⟨_, (pss_one (ps_if (pt_not (pt_val (pe_callD D_is_frames (hr.mono (by decide)) (by rfl) (pa_cons (pvl 0) (pa_cons (pvl 1) pa_nil))))) (pss_one ps_never) pss_nil)), ?_⟩
  exact run_P (fs := fs_check_frames) (ds_if (dt_not (dt_b (de_callP (n := 2) (da_cons (de_var 0) (da_cons (de_var 1) da_nil))))) ds_never ds_next) rfl h
theorem ok_starting_state (T : Tx mg) (D : At K mg "starting_state" s_starting_state ["line", "start"]) (D_check_state : Dfn P w K mg base "check_state" ["line", "state"] 6 (spP K 2 sem_check_state)) (D_silent_state : Dfn P w K mg base "silent_state" ["line"] 1 (spO K 1 sem_silent_state)) : Dfn P w K mg base "starting_state" ["line", "start"] 7 (spO K 2 sem_starting_state) := by
  refine dfn D sc_starting_state (len_O rfl) (fun X f cdv A outer s H vs Q E hX hr h => ?_)
  subst hX
  refine ⟨_, (pss_cons (ps_if (pt_cmpR opIs (pvl 1) pe_non (nomark _)) (pss_one (ps_ret (pe_callD D_silent_state (hr.mono (by decide)) (by rfl) (pa_cons (pvl 0) pa_nil)))) pss_nil) (pss_cons (ps_expr (pe_callD D_check_state (hr.mono (by decide)) (by rfl) (pa_cons (pvl 0) (pa_cons (pvl 1) pa_nil)))) (pss_one (ps_ret (pe_callTy (call_dictX rfl) (by rfl) T.b_dict boot_dict (pa_cons (pvl 1) pa_nil)))))), ?_⟩
  exact run_O (fs := fs_starting_state) (ds_seq (ds_if (dt_b (de_op r2_is (de_var 1) (de_c IsC.non))) (ds_retO (do_call (n := 1) (da_cons (de_var 0) da_nil))) ds_next) (ds_seq (ds_drop (de_callP (n := 2) (da_cons (de_var 0) (da_cons (de_var 1) da_nil)))) (ds_retO (do_cb co_dict (da_cons (de_var 1) da_nil))))) rfl h
theorem ok_kinds_of (T : Tx mg) (D : AtK K mg "kinds_of" s_kinds_of ["line", "frames", "start"] 2 ["start"] [.non]) (D_check_frames : Dfn P w K mg base "check_frames" ["line", "frames"] 6 (spP K 2 sem_check_frames)) (D_send_each : Dfn P w K mg base "send_each" ["line", "known", "frames"] 4 (spM K 3 1 sem_send_each)) (D_starting_state : Dfn P w K mg base "starting_state" ["line", "start"] 7 (spO K 2 sem_starting_state)) : DfnK P w K mg base "kinds_of" ["line", "frames", "start"] 2 ["start"] [.non] 8 (spO K 3 sem_kinds_of) := by
  refine dfnK D sc_kinds_of (len_O rfl) (fun X f cdv A outer s H vs Q E hX hr h => ?_)
  subst hX
  refine ⟨_, (pss_cons (ps_expr (pe_callD D_check_frames (hr.mono (by decide)) (by rfl) (pa_cons (pvl 0) (pa_cons (pvl 1) pa_nil)))) (pss_cons (ps_set (i := 3) sc_kinds_of.nd rfl (Or.inl rfl) (pe_callD D_send_each (hr.mono (by decide)) (by rfl) (pa_cons (pvl 0) (pa_cons (pe_callD D_starting_state (hr.mono (by decide)) (by rfl) (pa_cons (pvl 0) (pa_cons (pvl 2) pa_nil))) (pa_cons (pvl 1) pa_nil))))) (pss_one (ps_ret (pe_lc (own := [("kind", 4), ("_", 5)])  (tt := tYes) rfl sc_kinds_of.nd (pi_list (pvl 3)) (blkOk_by (own := [("kind", 4), ("_", 5)]) (N := nn_kinds_of) (sc := defScope s_kinds_of) (by decide +kernel)) (blk_g fun _ _ _ _ _ => (pg_tup rfl (pgs_cons (pg_name (i := 4) sc_kinds_of.nd rfl (Or.inl rfl)) (pgs_cons (pg_name (i := 5) sc_kinds_of.nd rfl (Or.inl rfl)) pgs_nil)))) (fun _ _ _ _ _ => pts_nil) (blk_e fun _ _ _ _ _ => (pvl 4))))))), ?_⟩
  exact run_O (fs := fs_kinds_of) (ds_seq (ds_drop (de_callP (n := 2) (da_cons (de_var 0) (da_cons (de_var 1) da_nil)))) (ds_seq (ds_asg (de_callMO (n := 3) (p := 1) (do_consE (de_var 0) (do_consO (do_call (n := 2) (da_cons (de_var 0) (da_cons (de_var 2) da_nil))) (do_consE (de_var 1) do_nil)))) (dg_name 3)) (ds_retO (do_lc (di_list (de_var 3)) (dg_all fun _ _ _ _ _ => (dg_tup (dgs_cons (dg_name 4) (dgs_cons (dg_name 5) dgs_nil)))) (by decide) dt_yes (de_all fun _ _ _ _ _ => (de_var 4)))))) rfl h
theorem ok_known_after (T : Tx mg) (D : AtK K mg "known_after" s_known_after ["line", "frames", "start"] 2 ["start"] [.non]) (D_check_frames : Dfn P w K mg base "check_frames" ["line", "frames"] 6 (spP K 2 sem_check_frames)) (D_send_each : Dfn P w K mg base "send_each" ["line", "known", "frames"] 4 (spM K 3 1 sem_send_each)) (D_starting_state : Dfn P w K mg base "starting_state" ["line", "start"] 7 (spO K 2 sem_starting_state)) : DfnK P w K mg base "known_after" ["line", "frames", "start"] 2 ["start"] [.non] 8 (spO K 3 sem_known_after) := by
  refine dfnK D sc_known_after (len_O rfl) (fun X f cdv A outer s H vs Q E hX hr h => ?_)
  subst hX
  refine ⟨_, (pss_cons (ps_expr (pe_callD D_check_frames (hr.mono (by decide)) (by rfl) (pa_cons (pvl 0) (pa_cons (pvl 1) pa_nil)))) (pss_cons (ps_set (i := 3) sc_known_after.nd rfl (Or.inr rfl) (pe_callD D_starting_state (hr.mono (by decide)) (by rfl) (pa_cons (pvl 0) (pa_cons (pvl 2) pa_nil)))) (pss_cons (ps_expr (pe_callD D_send_each (hr.mono (by decide)) (by rfl) (pa_cons (pvl 0) (pa_cons (pvc 3) (pa_cons (pvl 1) pa_nil))))) (pss_one (ps_ret (pe_dc (own := [("host", 4)]) (g := gName 4) (tt := tYes) rfl sc_known_after.nd (pi_list (pe_callB (call_sortX rfl) (by rfl) T.b_sorted (by decide +kernel) (pa_cons (pvc 3) pa_nil))) (blkOk_by (own := [("host", 4)]) (N := nn_known_after) (sc := defScope s_known_after) (by decide +kernel)) (fun _ _ _ _ _ => (pg_name (i := 4) sc_known_after.nd rfl (Or.inl rfl))) (fun _ _ _ _ _ => pts_nil) (blk_e fun _ _ _ _ _ => (pvl 4)) (blk_e fun _ _ _ _ _ => (pe_dget (hu_of hr) (pvc 3) (pvl 4) (fun _ _ => rfl))))))))), ?_⟩
  exact run_O (fs := fs_known_after) (ds_seq (ds_drop (de_callP (n := 2) (da_cons (de_var 0) (da_cons (de_var 1) da_nil)))) (ds_seq (ds_asgO (i := 3) (do_call (n := 2) (da_cons (de_var 0) (da_cons (de_var 2) da_nil)))) (ds_seq (ds_drop (de_callM (n := 3) (p := 1) (da_cons (de_var 0) (da_cons (de_var 3) (da_cons (de_var 1) da_nil))))) (ds_frz (i := 3) (ds_retO (do_dc (di_list (DEO.frz (do_cb co_sort (da_cons (de_var 3) da_nil)))) (dg_name 4) (by decide) dt_yes (de_all fun _ _ _ _ _ => (de_var 4)) (de_all fun _ _ _ _ _ => (de_dget (de_var 3) (de_var 4))))))))) rfl h
theorem ok_heard_at (T : Tx mg) (D : AtK K mg "heard_at" s_heard_at ["line", "frames", "position", "start"] 3 ["start"] [.non]) (D_check_frames : Dfn P w K mg base "check_frames" ["line", "frames"] 6 (spP K 2 sem_check_frames)) (D_check_position : Dfn P w K mg base "check_position" ["position"] 3 (spP K 1 sem_check_position)) (D_contains : Dfn P w K mg base "contains" ["interval", "position"] 1 (spP K 2 sem_contains)) (D_send_each : Dfn P w K mg base "send_each" ["line", "known", "frames"] 4 (spM K 3 1 sem_send_each)) (D_starting_state : Dfn P w K mg base "starting_state" ["line", "start"] 7 (spO K 2 sem_starting_state)) : DfnK P w K mg base "heard_at" ["line", "frames", "position", "start"] 3 ["start"] [.non] 8 (spP K 4 sem_heard_at) := by
  refine dfnK D sc_heard_at (len_P rfl) (fun X f cdv A outer s H vs Q E hX hr h => ?_)
  subst hX
  refine ⟨_, (pss_cons (ps_expr (pe_callD D_check_frames (hr.mono (by decide)) (by rfl) (pa_cons (pvl 0) (pa_cons (pvl 1) pa_nil)))) (pss_cons (ps_expr (pe_callD D_check_position (hr.mono (by decide)) (by rfl) (pa_cons (pvc 2) pa_nil))) (pss_cons (ps_set (i := 4) sc_heard_at.nd rfl (Or.inl rfl) (pe_callD D_send_each (hr.mono (by decide)) (by rfl) (pa_cons (pvl 0) (pa_cons (pe_callD D_starting_state (hr.mono (by decide)) (by rfl) (pa_cons (pvl 0) (pa_cons (pvl 3) pa_nil))) (pa_cons (pvl 1) pa_nil))))) (pss_one (ps_ret (pe_lc (own := [("index", 5), ("_", 6), ("reach", 7)])   rfl sc_heard_at.nd (pi_enum (by rfl) T.b_enumerate (pa_cons (pvl 4) pa_nil)) (blkOk_by (own := [("index", 5), ("_", 6), ("reach", 7)]) (N := nn_heard_at) (sc := defScope s_heard_at) (by decide +kernel)) (blk_g fun _ _ _ _ _ => (pg_tup rfl (pgs_cons (pg_name (i := 5) sc_heard_at.nd rfl (Or.inl rfl)) (pgs_cons (pg_tup rfl (pgs_cons (pg_name (i := 6) sc_heard_at.nd rfl (Or.inl rfl)) (pgs_cons (pg_name (i := 7) sc_heard_at.nd rfl (Or.inl rfl)) pgs_nil))) pgs_nil)))) (blk_t fun _ _ _ _ _ => (pts_one (pt_val (pe_callD D_contains (hr.mono (by decide)) (by rfl) (pa_cons (pvl 7) (pa_cons (pvc 2) pa_nil)))))) (blk_e fun _ _ _ _ _ => (pvl 5)))))))), ?_⟩
  exact run_P (fs := fs_heard_at) (ds_seq (ds_drop (de_callP (n := 2) (da_cons (de_var 0) (da_cons (de_var 1) da_nil)))) (ds_seq (ds_drop (de_callP (n := 1) (da_cons (de_var 2) da_nil))) (ds_seq (ds_asg (de_callMO (n := 3) (p := 1) (do_consE (de_var 0) (do_consO (do_call (n := 2) (da_cons (de_var 0) (da_cons (de_var 3) da_nil))) (do_consE (de_var 1) do_nil)))) (dg_name 4)) (ds_ret (DEO.frz (do_lc (di_enum (da_cons (de_var 4) da_nil)) (dg_all fun _ _ _ _ _ => (dg_tup (dgs_cons (dg_name 5) (dgs_cons (dg_tup (dgs_cons (dg_name 6) (dgs_cons (dg_name 7) dgs_nil))) dgs_nil)))) (by decide) (dt_all fun _ _ _ _ _ => (dt_b (de_callP (n := 2) (da_cons (de_var 7) (da_cons (de_var 2) da_nil))))) (de_all fun _ _ _ _ _ => (de_var 5)))))))) rfl h
theorem ok_kinds_in_round (T : Tx mg) (D : At K mg "kinds_in_round" s_kinds_in_round ["line", "frames", "number"]) (D_check_frames : Dfn P w K mg base "check_frames" ["line", "frames"] 6 (spP K 2 sem_check_frames)) (D_check_number : Dfn P w K mg base "check_number" ["number", "least", "most"] 2 (spP K 3 sem_check_number)) (D_kinds_of : DfnK P w K mg base "kinds_of" ["line", "frames", "start"] 2 ["start"] [.non] 8 (spO K 3 sem_kinds_of)) (D_known_after : DfnK P w K mg base "known_after" ["line", "frames", "start"] 2 ["start"] [.non] 8 (spO K 3 sem_known_after)) : Dfn P w K mg base "kinds_in_round" ["line", "frames", "number"] 9 (spP K 3 sem_kinds_in_round) := by
  refine dfn D sc_kinds_in_round (len_P rfl) (fun X f cdv A outer s H vs Q E hX hr h => ?_)
  subst hX
  refine ⟨_, (pss_cons (ps_expr (pe_callD D_check_frames (hr.mono (by decide)) (by rfl) (pa_cons (pvl 0) (pa_cons (pvl 1) pa_nil)))) (pss_cons (ps_expr (pe_callD D_check_number (hr.mono (by decide)) (by rfl) (pa_cons (pvl 2) (pa_cons pe_int (pa_cons (pe_glob (v := .int (1000000000000000000000000000000)) (by rfl) (Exists.choose_spec T.g_MOST_ROUNDS) ⟨_, rfl⟩) pa_nil))))) (pss_cons (ps_if (pt_cmpR (opEqX (hu70 hr)) (pvl 2) pe_int (nomark _)) (pss_one (ps_ret (pe_callKD D_kinds_of (hr.mono (by decide)) (by rfl) (pa_cons (pvl 0) (pa_cons (pvl 1) pa_nil))))) pss_nil) (pss_one (ps_ret (pe_callKN D_kinds_of (hr.mono (by decide)) (by rfl) (pa_cons (pvl 0) (pa_cons (pvl 1) pa_nil)) (pk_cons (pe_callKD D_known_after (hr.mono (by decide)) (by rfl) (pa_cons (pvl 0) (pa_cons (pvl 1) pa_nil))) pk_nil))))))), ?_⟩
  exact run_P (fs := fs_kinds_in_round) (ds_seq (ds_drop (de_callP (n := 2) (da_cons (de_var 0) (da_cons (de_var 1) da_nil)))) (ds_seq (ds_drop (de_callP (n := 3) (da_cons (de_var 2) (da_cons (de_c (IsC.int _)) (da_cons (de_c (IsC.int _)) da_nil))))) (ds_seq (ds_if (dt_b (de_op r2_eqX (de_var 2) (de_c (IsC.int _)))) (ds_ret (DEO.frz (do_call (n := 3) (da_more (.cons IsC.non .nil) (da_cons (de_var 0) (da_cons (de_var 1) da_nil)))))) ds_next) (ds_ret (DEO.frz (do_call (n := 3) (da_app (n := 2) (m := 1) (da_cons (de_var 0) (da_cons (de_var 1) da_nil)) (da_cons (DEO.frz (do_call (n := 3) (da_more (.cons IsC.non .nil) (da_cons (de_var 0) (da_cons (de_var 1) da_nil))))) da_nil)))))))) rfl h
theorem ok_load_after (T : Tx mg) (D : At K mg "load_after" s_load_after ["line", "frames", "count", "position"]) (D_check_frames : Dfn P w K mg base "check_frames" ["line", "frames"] 6 (spP K 2 sem_check_frames)) (D_check_number : Dfn P w K mg base "check_number" ["number", "least", "most"] 2 (spP K 3 sem_check_number)) (D_check_position : Dfn P w K mg base "check_position" ["position"] 3 (spP K 1 sem_check_position)) (D_heard_at : DfnK P w K mg base "heard_at" ["line", "frames", "position", "start"] 3 ["start"] [.non] 8 (spP K 4 sem_heard_at)) (D_known_after : DfnK P w K mg base "known_after" ["line", "frames", "start"] 2 ["start"] [.non] 8 (spO K 3 sem_known_after)) : Dfn P w K mg base "load_after" ["line", "frames", "count", "position"] 9 (spP K 4 sem_load_after) := by
  refine dfn D sc_load_after (len_P rfl) (fun X f cdv A outer s H vs Q E hX hr h => ?_)
  subst hX
  refine ⟨_, (pss_cons (ps_expr (pe_callD D_check_frames (hr.mono (by decide)) (by rfl) (pa_cons (pvl 0) (pa_cons (pvl 1) pa_nil)))) (pss_cons (ps_expr (pe_callD D_check_number (hr.mono (by decide)) (by rfl) (pa_cons (pvl 2) (pa_cons pe_int (pa_cons (pe_glob (v := .int (1000000000000000000000000000000)) (by rfl) (Exists.choose_spec T.g_MOST_ROUNDS) ⟨_, rfl⟩) pa_nil))))) (pss_cons (ps_expr (pe_callD D_check_position (hr.mono (by decide)) (by rfl) (pa_cons (pvl 3) pa_nil))) (pss_cons (ps_if (pt_cmpR (opEqX (hu70 hr)) (pvl 2) pe_int (nomark _)) (pss_one (ps_ret pe_int)) pss_nil) (pss_cons (ps_set (i := 4) sc_load_after.nd rfl (Or.inl rfl) (pe_callKD D_heard_at (hr.mono (by decide)) (by rfl) (pa_cons (pvl 0) (pa_cons (pvl 1) (pa_cons (pvl 3) pa_nil))))) (pss_cons (ps_set (i := 5) sc_load_after.nd rfl (Or.inl rfl) (pe_callKN D_heard_at (hr.mono (by decide)) (by rfl) (pa_cons (pvl 0) (pa_cons (pvl 1) (pa_cons (pvl 3) pa_nil))) (pk_cons (pe_callKD D_known_after (hr.mono (by decide)) (by rfl) (pa_cons (pvl 0) (pa_cons (pvl 1) pa_nil))) pk_nil))) (pss_one (ps_ret (pe_op opAdd (pe_callB call_lenX (by rfl) T.b_len PySem.boot_len (pa_cons (pvl 4) pa_nil)) (pe_op opMul (pe_callB call_lenX (by rfl) T.b_len PySem.boot_len (pa_cons (pvl 5) pa_nil)) (pe_op opSub (pvl 2) pe_int))))))))))), ?_⟩
  exact run_P (fs := fs_load_after) (ds_seq (ds_drop (de_callP (n := 2) (da_cons (de_var 0) (da_cons (de_var 1) da_nil)))) (ds_seq (ds_drop (de_callP (n := 3) (da_cons (de_var 2) (da_cons (de_c (IsC.int _)) (da_cons (de_c (IsC.int _)) da_nil))))) (ds_seq (ds_drop (de_callP (n := 1) (da_cons (de_var 3) da_nil))) (ds_seq (ds_if (dt_b (de_op r2_eqX (de_var 2) (de_c (IsC.int _)))) (ds_ret (de_c (IsC.int _))) ds_next) (ds_seq (ds_asg (de_callP (n := 4) (da_more (.cons IsC.non .nil) (da_cons (de_var 0) (da_cons (de_var 1) (da_cons (de_var 3) da_nil))))) (dg_name 4)) (ds_seq (ds_asg (de_callP (n := 4) (da_app (n := 3) (m := 1) (da_cons (de_var 0) (da_cons (de_var 1) (da_cons (de_var 3) da_nil))) (da_cons (DEO.frz (do_call (n := 3) (da_more (.cons IsC.non .nil) (da_cons (de_var 0) (da_cons (de_var 1) da_nil))))) da_nil))) (dg_name 5)) (ds_ret (de_op r2_add (de_cb cb_len (da_cons (de_var 4) da_nil)) (de_op r2_mul (de_cb cb_len (da_cons (de_var 5) da_nil)) (de_op r2_sub (de_var 2) (de_c (IsC.int _)))))))))))) rfl h
theorem ok__law_right (T : Tx mg) (hm : ∃ o, base.get? sysModules = some o) (D : At K mg "_law_right" s__law_right ["line", "frames"]) (D__law_kind : Dfn P w K mg base "_law_kind" ["knows", "start"] 1 (spP K 2 sem__law_kind)) (D__law_passed : Dfn P w K mg base "_law_passed" ["window", "knows", "start", "goal"] 1 (spP K 4 sem__law_passed)) (D_kinds_in_round : Dfn P w K mg base "kinds_in_round" ["line", "frames", "number"] 9 (spP K 3 sem_kinds_in_round)) (D_load_after : Dfn P w K mg base "load_after" ["line", "frames", "count", "position"] 9 (spP K 4 sem_load_after)) : DfnG P w K mg base "_law_right" ["line", "frames"] 10 (spP K 2 sem__law_right) := by
  refine dfnG hm D sc__law_right (len_P rfl) (fun X G f cdv A outer s H vs Q E hX hr h => ?_)
  subst hX
  refine ⟨_, (pss_cons (ps_set (i := 2) sc__law_right.nd rfl (Or.inl rfl) (pe_sortValues rfl (pvc 0) (by rfl) T.b_sorted (by decide +kernel))) (pss_cons (ps_set (i := 3) sc__law_right.nd rfl (Or.inl rfl) (pe_listRg rfl (by rfl) T.b_list (prg_2 (by rfl) T.b_range (pe_op opSub (pe_ix ix_seq (pvl 2) pe_int (fun _ _ => rfl)) pe_int) (pe_op opAdd (pe_ix ix_seq (pvl 2) (pe_un un_neg pe_int) (fun _ _ => rfl)) pe_int)))) (pss_cons (ps_asg (pe_tup (pa_cons (pe_callTy (call_dictX rfl) (by rfl) T.b_dict boot_dict (pa_cons (PE.or (pe_lock (pe_lc (own := [("host", 12)]) (g := gName 12) (tt := tYes) rfl sc__law_right.nd (pi_keys (pvc 0)) (blkOk_by (own := [("host", 12)]) (N := nn__law_right) (sc := defScope s__law_right) (by decide +kernel)) (fun _ _ _ _ _ => (pg_name (i := 12) sc__law_right.nd rfl (Or.inl rfl))) (fun _ _ _ _ _ => pts_nil) (blk_e fun _ _ _ _ _ => (pe_tup (pa_cons (pvl 12) (pa_cons (pe_lst pa_nil) pa_nil)))))) (pe_lc (own := [("host", 12)]) (g := gName 12) (tt := tYes) rfl sc__law_right.nd (pi_keys (pvc 0)) (blkOk_by (own := [("host", 12)]) (N := nn__law_right) (sc := defScope s__law_right) (by decide +kernel)) (fun _ _ _ _ _ => (pg_name (i := 12) sc__law_right.nd rfl (Or.inl rfl))) (fun _ _ _ _ _ => pts_nil) (blk_e fun _ _ _ _ _ => (pe_tup (pa_cons (pvl 12) (pa_cons (pe_lst pa_nil) pa_nil)))))) pa_nil)) (pa_cons (pe_callTy (call_dictX rfl) (by rfl) T.b_dict boot_dict (pa_cons (pe_lc (own := [("place", 11)]) (g := gName 11) (tt := tYes) rfl sc__law_right.nd (pi_list (pvl 3)) (blkOk_by (own := [("place", 11)]) (N := nn__law_right) (sc := defScope s__law_right) (by decide +kernel)) (fun _ _ _ _ _ => (pg_name (i := 11) sc__law_right.nd rfl (Or.inl rfl))) (fun _ _ _ _ _ => pts_nil) (blk_e fun _ _ _ _ _ => (pe_tup (pa_cons (pvl 11) (pa_cons pe_int pa_nil))))) pa_nil)) pa_nil))) (pg_tup rfl (pgs_cons (pg_name (i := 4) sc__law_right.nd rfl (Or.inr rfl)) (pgs_cons (pg_name (i := 5) sc__law_right.nd rfl (Or.inr rfl)) pgs_nil)))) (pss_cons (ps_for PassesOwn.never rfl (pi_range1 (by rfl) T.b_range (pa_cons pe_int pa_nil)) (pg_name (i := 6) sc__law_right.nd rfl (Or.inr rfl)) (pss_cons (ps_set (i := 7) sc__law_right.nd rfl (Or.inl rfl) (pe_lst pa_nil)) (pss_cons (ps_for PassesOwn.never rfl (pi_list (pvc 1)) (pg_tup rfl (pgs_cons (pg_name (i := 8) sc__law_right.nd rfl (Or.inr rfl)) (pgs_cons (pg_name (i := 9) sc__law_right.nd rfl (Or.inl rfl)) pgs_nil))) (pss_cons (ps_set (i := 10) sc__law_right.nd rfl (Or.inl rfl) (pe_callD D__law_passed (hr.mono (by decide)) (by rfl) (pa_cons (pvl 3) (pa_cons (pe_dget (hu_of hr) (pvc 4) (pvl 9) (fun _ _ => rfl)) (pa_cons (pe_dget (hu_of hr) (pvc 0) (pvc 8) (fun _ _ => rfl)) (pa_cons (pe_dget (hu_of hr) (pvc 0) (pvl 9) (fun _ _ => rfl)) pa_nil)))))) (pss_cons (ps_expr (pe_bm PySem.F.plainAttrs_list PySem.F.slot_list_append PySem.F.type_list_append mt_append (pvl 7) (pa_cons (pe_callD D__law_kind (hr.mono (by decide)) (by rfl) (pa_cons (pe_dget (hu_of hr) (pvc 4) (pvl 9) (fun _ _ => rfl)) (pa_cons (pe_dget (hu_of hr) (pvc 0) (pvc 8) (fun _ _ => rfl)) pa_nil))) pa_nil))) (pss_cons (ps_dput (hu_of hr) (pvc 4) (pvc 8) (pe_op opAdd (pe_dget (hu_of hr) (pvc 4) (pvc 8) (fun _ _ => rfl)) (pe_lc (own := [("place", 11)]) (g := gName 11)  rfl sc__law_right.nd (pi_list (pvl 10)) (blkOk_by (own := [("place", 11)]) (N := nn__law_right) (sc := defScope s__law_right) (by decide +kernel)) (fun _ _ _ _ _ => (pg_name (i := 11) sc__law_right.nd rfl (Or.inl rfl))) (blk_t fun _ _ _ _ _ => (pts_one (pt_cmpR op_notIn_seq (pvl 11) (pe_dget (hu_of hr) (pvc 4) (pvc 8) (fun _ _ => rfl)) rfl))) (blk_e fun _ _ _ _ _ => (pvl 11)))) rfl) (pss_one (ps_for PassesOwn.never rfl (pi_list (pvl 10)) (pg_name (i := 11) sc__law_right.nd rfl (Or.inl rfl)) (pss_one (ps_dput (hu_of hr) (pvc 5) (pvl 11) (pe_op opAdd (pe_dget (hu_of hr) (pvc 5) (pvl 11) (fun _ _ => rfl)) pe_int) rfl)))))))) (pss_cons (ps_if (pt_cmpR (opNeX (hu70 hr)) (pe_callD D_kinds_in_round (hr.mono (by decide)) (by rfl) (pa_cons (pvc 0) (pa_cons (pvc 1) (pa_cons (pvc 6) pa_nil)))) (pvl 7) (nomark _)) (pss_one (ps_ret pe_bl)) pss_nil) (pss_one (ps_if (pt_cmpR (opNeX (hu70 hr)) (pe_lc (own := [("place", 11)]) (g := gName 11) (tt := tYes) rfl sc__law_right.nd (pi_list (pvl 3)) (blkOk_by (own := [("place", 11)]) (N := nn__law_right) (sc := defScope s__law_right) (by decide +kernel)) (fun _ _ _ _ _ => (pg_name (i := 11) sc__law_right.nd rfl (Or.inl rfl))) (fun _ _ _ _ _ => pts_nil) (blk_e fun _ _ _ _ _ => (pe_callD D_load_after (hr.mono (by decide)) (by rfl) (pa_cons (pvc 0) (pa_cons (pvc 1) (pa_cons (pe_op opAdd (pvc 6) pe_int) (pa_cons (pvl 11) pa_nil))))))) (pe_lc (own := [("place", 11)]) (g := gName 11) (tt := tYes) rfl sc__law_right.nd (pi_list (pvl 3)) (blkOk_by (own := [("place", 11)]) (N := nn__law_right) (sc := defScope s__law_right) (by decide +kernel)) (fun _ _ _ _ _ => (pg_name (i := 11) sc__law_right.nd rfl (Or.inl rfl))) (fun _ _ _ _ _ => pts_nil) (blk_e fun _ _ _ _ _ => (pe_dget (hu_of hr) (pvc 5) (pvl 11) (fun _ _ => rfl)))) (nomark _)) (pss_one (ps_ret pe_bl)) pss_nil)))))) (pss_one (ps_ret pe_bl)))))), ?_⟩
  exact run_P (fs := fs__law_right) (ds_seq (ds_asg (DEO.frz (do_sortVals (de_var 0))) (dg_name 2)) (ds_seq (ds_asg (DEO.frz (do_listRg2 (de_op r2_sub (de_op r2_ix (de_var 2) (de_c (IsC.int _))) (de_c (IsC.int _))) (de_op r2_add (de_op r2_ix (de_var 2) (de_neg (de_c (IsC.int _)))) (de_c (IsC.int _))))) (dg_name 3)) (ds_seq (ds_tupO [4, 5] rfl (do_consO (do_cb co_dict (da_cons (DEO.frz (do_lcD .keys 0 (dg_name 12) (by decide) dt_yes (de_all fun _ _ _ _ _ => (de_tup (da_cons (de_var 12) (da_cons (DEO.frz (do_lst da_nil)) da_nil)))))) da_nil)) (do_consO (do_cb co_dict (da_cons (DEO.frz (do_lc (di_list (de_var 3)) (dg_name 11) (by decide) dt_yes (de_all fun _ _ _ _ _ => (de_tup (da_cons (de_var 11) (da_cons (de_c (IsC.int _)) da_nil)))))) da_nil)) do_nil))) (ds_seq (ds_for (di_rng1 (da_cons (de_c (IsC.int _)) da_nil)) (dg_name 6) (ds_seq (ds_asgO (i := 7) (do_lst da_nil)) (ds_seq (ds_for (di_list (de_var 1)) (dg_tup (dgs_cons (dg_name 8) (dgs_cons (dg_name 9) dgs_nil))) (ds_seq (ds_asg (de_callP (n := 4) (da_cons (de_var 3) (da_cons (de_dget (de_var 4) (de_var 9)) (da_cons (de_dget (de_var 0) (de_var 8)) (da_cons (de_dget (de_var 0) (de_var 9)) da_nil))))) (dg_name 10)) (ds_seq (ds_drop (de_app (i := 7) (de_callP (n := 2) (da_cons (de_dget (de_var 4) (de_var 9)) (da_cons (de_dget (de_var 0) (de_var 8)) da_nil))))) (ds_seq (ds_put (i := 4) (de_var 8) (DEO.frz (do_op r2_cat (de_dget (de_var 4) (de_var 8)) (DEO.frz (do_lc (di_list (de_var 10)) (dg_name 11) (by decide) (dt_all fun _ _ _ _ _ => (dt_b (de_op r2_notInF (de_var 11) (de_dget (de_var 4) (de_var 8))))) (de_all fun _ _ _ _ _ => (de_var 11))))))) (ds_for (di_list (de_var 10)) (dg_name 11) (ds_put (i := 5) (de_var 11) (de_op r2_add (de_dget (de_var 5) (de_var 11)) (de_c (IsC.int _))))))))) (ds_seq (ds_if (dt_b (de_op r2_neX (de_callP (n := 3) (da_cons (de_var 0) (da_cons (de_var 1) (da_cons (de_var 6) da_nil)))) (de_var 7))) (ds_ret (de_c (IsC.bl _))) ds_next) (ds_if (dt_b (de_op r2_neX (DEO.frz (do_lc (di_list (de_var 3)) (dg_name 11) (by decide) dt_yes (de_all fun _ _ _ _ _ => (de_callP (n := 4) (da_cons (de_var 0) (da_cons (de_var 1) (da_cons (de_op r2_add (de_var 6) (de_c (IsC.int _))) (da_cons (de_var 11) da_nil)))))))) (DEO.frz (do_lc (di_list (de_var 3)) (dg_name 11) (by decide) dt_yes (de_all fun _ _ _ _ _ => (de_dget (de_var 5) (de_var 11))))))) (ds_ret (de_c (IsC.bl _))) ds_next))))) (ds_ret (de_c (IsC.bl _))))))) rfl h
theorem ok_law (T : Tx mg) (hm : ∃ o, base.get? sysModules = some o) (D : At K mg "law" s_law ["script"]) (D__law_draw : Dfn P w K mg base "_law_draw" ["spring", "many"] 1 (spM K 2 0 sem__law_draw)) (D__law_frames : Dfn P w K mg base "_law_frames" ["spring", "line", "many"] 2 (spU K [(.i .fl .fl), .f, .f] .fl sem__law_frames)) (D__law_line : Dfn P w K mg base "_law_line" ["spring", "many"] 3 (spU K [(.i .fl .fl), .f] .fl sem__law_line)) (D__law_right : DfnG P w K mg base "_law_right" ["line", "frames"] 10 (spP K 2 sem__law_right)) (D__law_spring : Dfn P w K mg base "_law_spring" ["script"] 1 (spO K 1 sem__law_spring)) : DfnG P w K mg base "law" ["script"] 11 (spP K 1 sem_law) := by
  refine dfnG hm D sc_law (len_P rfl) (fun X G f cdv A outer s H vs Q E hX hr h => ?_)
  subst hX
  refine ⟨_, (pss_cons (ps_set (i := 1) sc_law.nd rfl (Or.inl rfl) (pe_callD D__law_spring (hr.mono (by decide)) (by rfl) (pa_cons (pvl 0) pa_nil))) (pss_cons (ps_for PassesOwn.never rfl (pi_range1 (by rfl) T.b_range (pa_cons (pe_op opAdd pe_int (pe_op opMul pe_int (pe_callB (call_min2 rfl) (by rfl) T.b_min (by decide +kernel) (pa_cons pe_int (pa_cons (pe_callB call_lenX (by rfl) T.b_len PySem.boot_len (pa_cons (pvl 0) pa_nil)) pa_nil))))) pa_nil)) (pg_name (i := 2) sc_law.nd rfl (Or.inl rfl)) (pss_cons (ps_par (i := 3) (j := 4) (by rfl) sc_law.nd rfl rfl (by decide) rfl rfl (pa_cons (pe_callD D__law_line (hr.mono (by decide)) (by rfl) (pa_cons (pvl 1) (pa_cons (pe_op opAdd pe_int (pe_callD D__law_draw (hr.mono (by decide)) (by rfl) (pa_cons (pvl 1) (pa_cons pe_int pa_nil)))) pa_nil))) (pa_cons pe_dnewK pa_nil)) (by rfl)) (pss_cons (ps_for PassesOwn.never rfl (pi_enum (by rfl) T.b_enumerate (pa_cons (pe_callB (call_sortX rfl) (by rfl) T.b_sorted (by decide +kernel) (pa_cons (pvl 3) pa_nil)) pa_nil)) (pg_tup rfl (pgs_cons (pg_name (i := 5) sc_law.nd rfl (Or.inl rfl)) (pgs_cons (pg_name (i := 6) sc_law.nd rfl (Or.inl rfl)) pgs_nil))) (pss_one (ps_dput (hu_of hr) (pvl 4) (pvl 6) (pe_op opSub (pe_op opAdd (pe_op opMul pe_int (pe_op opMod (pe_op opAdd (pe_op opMul (pvl 5) pe_int) (pvl 2)) pe_int)) (pe_callD D__law_draw (hr.mono (by decide)) (by rfl) (pa_cons (pvl 1) (pa_cons pe_int pa_nil)))) pe_int) rfl))) (pss_one (ps_if (pt_not (pt_val (pe_callG D__law_right G.g (hr.mono (by decide)) (by rfl) (pa_cons (pvl 4) (pa_cons (pe_callD D__law_frames (hr.mono (by decide)) (by rfl) (pa_cons (pvl 1) (pa_cons (pvl 4) (pa_cons (pe_callD D__law_draw (hr.mono (by decide)) (by rfl) (pa_cons (pvl 1) (pa_cons pe_int pa_nil))) pa_nil)))) pa_nil))))) (pss_one (ps_ret pe_bl)) pss_nil))))) (pss_one (ps_ret (pe_callG D__law_right G.g (hr.mono (by decide)) (by rfl) (pa_cons (pe_disp (pps_cons pe_str pe_int (pps_cons pe_str pe_int (pps_cons pe_str pe_int pps_nil))) (by rfl) (by rfl) (fun z => by cases z) (by decide)) (pa_cons (pe_lst (pa_cons (pe_tup (pa_cons pe_str (pa_cons pe_str pa_nil))) (pa_cons (pe_tup (pa_cons pe_str (pa_cons pe_str pa_nil))) (pa_cons (pe_tup (pa_cons pe_str (pa_cons pe_str pa_nil))) (pa_cons (pe_tup (pa_cons pe_str (pa_cons pe_str pa_nil))) (pa_cons (pe_tup (pa_cons pe_str (pa_cons pe_str pa_nil))) pa_nil)))))) pa_nil))))))), ?_⟩
  exact run_P (fs := fs_law) (ds_seq (ds_asgO (i := 1) (do_call (n := 1) (da_cons (de_var 0) da_nil))) (ds_seq (ds_for (di_rng1 (da_cons (de_op r2_add (de_c (IsC.int _)) (de_op r2_mul (de_c (IsC.int _)) (de_cb cb_min2 (da_cons (de_c (IsC.int _)) (da_cons (de_cb cb_len (da_cons (de_var 0) da_nil)) da_nil))))) da_nil)) (dg_name 2) (ds_seq (ds_parO (do_consE (DEO.frz (do_n (den_callU (ps := [(.i .fl .fl), .f]) (r := .fl) rfl rfl (du_e (de_var 1) (du_e (de_op r2_add (de_c (IsC.int _)) (de_callM (n := 2) (p := 0) (da_cons (de_var 1) (da_cons (de_c (IsC.int _)) da_nil)))) du_nil))))) (do_consO do_dnew do_nil))) (ds_seq (ds_for (di_enum (da_cons (DEO.frz (do_cb co_sort (da_cons (de_var 3) da_nil))) da_nil)) (dg_tup (dgs_cons (dg_name 5) (dgs_cons (dg_name 6) dgs_nil))) (ds_put (i := 4) (de_var 6) (de_op r2_sub (de_op r2_add (de_op r2_mul (de_c (IsC.int _)) (de_op r2_mod (de_op r2_add (de_op r2_mul (de_var 5) (de_c (IsC.int _))) (de_var 2)) (de_c (IsC.int _)))) (de_callM (n := 2) (p := 0) (da_cons (de_var 1) (da_cons (de_c (IsC.int _)) da_nil)))) (de_c (IsC.int _))))) (ds_frz (i := 4) (ds_if (dt_not (dt_b (de_callP (n := 2) (da_cons (de_var 4) (da_cons (DEO.frz (do_n (den_callU (ps := [(.i .fl .fl), .f, .f]) (r := .fl) rfl rfl (du_e (de_var 1) (du_e (de_var 4) (du_e (de_callM (n := 2) (p := 0) (da_cons (de_var 1) (da_cons (de_c (IsC.int _)) da_nil))) du_nil)))))) da_nil))))) (ds_ret (de_c (IsC.bl _))) ds_next))))) (ds_ret (de_callP (n := 2) (da_cons (DEO.frz (do_disp (dps_cons (de_c (IsC.str _)) (de_c (IsC.int _)) (dps_cons (de_c (IsC.str _)) (de_c (IsC.int _)) (dps_cons (de_c (IsC.str _)) (de_c (IsC.int _)) dps_nil))))) (da_cons (DEO.frz (do_lst (da_cons (de_tup (da_cons (de_c (IsC.str _)) (da_cons (de_c (IsC.str _)) da_nil))) (da_cons (de_tup (da_cons (de_c (IsC.str _)) (da_cons (de_c (IsC.str _)) da_nil))) (da_cons (de_tup (da_cons (de_c (IsC.str _)) (da_cons (de_c (IsC.str _)) da_nil))) (da_cons (de_tup (da_cons (de_c (IsC.str _)) (da_cons (de_c (IsC.str _)) da_nil))) (da_cons (de_tup (da_cons (de_c (IsC.str _)) (da_cons (de_c (IsC.str _)) da_nil))) da_nil))))))) da_nil)))))) rfl h
end

theorem all_at {P : Program} {w : World} {K : PySem.W.Frag} {h : Heap} {mg : Str → Option Value} (X : K.In h) (G : h.Ns mainGlobals mg)
    (v_FARTHEST : ∃ t, mg "FARTHEST" = some (.int (1000000000000000000000000000000) t))
    {f0 : Addr} {p0 q0 : Option Addr} {r0 : Array (Option Value)} {t0 u0 v0 x0 y0 z0 : Value}
    (n0 : PySem.W.nsIn K mainGlobals "is_integer" = some (some (.ref f0)))
    (l0 : K.lookup f0 = some ⟨t0, p0, .func (PySem.W.fnOf "is_integer" "is_integer" (defArgs s_is_integer) (defBody s_is_integer) (defScope s_is_integer) .none u0 v0 x0 q0 y0 z0), r0⟩)
    (c0 : PySem.W.codeIn K y0 "is_integer" = true) (k0 : PySem.W.keepIn K (.ref f0) = true)
    {f1 : Addr} {p1 q1 : Option Addr} {r1 : Array (Option Value)} {t1 u1 v1 x1 y1 z1 : Value}
    (n1 : PySem.W.nsIn K mainGlobals "is_name" = some (some (.ref f1)))
    (l1 : K.lookup f1 = some ⟨t1, p1, .func (PySem.W.fnOf "is_name" "is_name" (defArgs s_is_name) (defBody s_is_name) (defScope s_is_name) .none u1 v1 x1 q1 y1 z1), r1⟩)
    (c1 : PySem.W.codeIn K y1 "is_name" = true) (k1 : PySem.W.keepIn K (.ref f1) = true)
    {f2 : Addr} {p2 q2 : Option Addr} {r2 : Array (Option Value)} {t2 u2 v2 x2 y2 z2 : Value}
    (n2 : PySem.W.nsIn K mainGlobals "is_list" = some (some (.ref f2)))
    (l2 : K.lookup f2 = some ⟨t2, p2, .func (PySem.W.fnOf "is_list" "is_list" (defArgs s_is_list) (defBody s_is_list) (defScope s_is_list) .none u2 v2 x2 q2 y2 z2), r2⟩)
    (c2 : PySem.W.codeIn K y2 "is_list" = true) (k2 : PySem.W.keepIn K (.ref f2) = true)
    {f3 : Addr} {p3 q3 : Option Addr} {r3 : Array (Option Value)} {t3 u3 v3 x3 y3 z3 : Value}
    (n3 : PySem.W.nsIn K mainGlobals "is_pair" = some (some (.ref f3)))
    (l3 : K.lookup f3 = some ⟨t3, p3, .func (PySem.W.fnOf "is_pair" "is_pair" (defArgs s_is_pair) (defBody s_is_pair) (defScope s_is_pair) .none u3 v3 x3 q3 y3 z3), r3⟩)
    (c3 : PySem.W.codeIn K y3 "is_pair" = true) (k3 : PySem.W.keepIn K (.ref f3) = true)
    {f4 : Addr} {p4 q4 : Option Addr} {r4 : Array (Option Value)} {t4 u4 v4 x4 y4 z4 : Value}
    (n4 : PySem.W.nsIn K mainGlobals "contains" = some (some (.ref f4)))
    (l4 : K.lookup f4 = some ⟨t4, p4, .func (PySem.W.fnOf "contains" "contains" (defArgs s_contains) (defBody s_contains) (defScope s_contains) .none u4 v4 x4 q4 y4 z4), r4⟩)
    (c4 : PySem.W.codeIn K y4 "contains" = true) (k4 : PySem.W.keepIn K (.ref f4) = true)
    {f5 : Addr} {p5 q5 : Option Addr} {r5 : Array (Option Value)} {t5 u5 v5 x5 y5 z5 : Value}
    (n5 : PySem.W.nsIn K mainGlobals "joined" = some (some (.ref f5)))
    (l5 : K.lookup f5 = some ⟨t5, p5, .func (PySem.W.fnOf "joined" "joined" (defArgs s_joined) (defBody s_joined) (defScope s_joined) .none u5 v5 x5 q5 y5 z5), r5⟩)
    (c5 : PySem.W.codeIn K y5 "joined" = true) (k5 : PySem.W.keepIn K (.ref f5) = true)
    {f6 : Addr} {p6 q6 : Option Addr} {r6 : Array (Option Value)} {t6 u6 v6 x6 y6 z6 : Value}
    (n6 : PySem.W.nsIn K mainGlobals "has_hosts_of" = some (some (.ref f6)))
    (l6 : K.lookup f6 = some ⟨t6, p6, .func (PySem.W.fnOf "has_hosts_of" "has_hosts_of" (defArgs s_has_hosts_of) (defBody s_has_hosts_of) (defScope s_has_hosts_of) .none u6 v6 x6 q6 y6 z6), r6⟩)
    (c6 : PySem.W.codeIn K y6 "has_hosts_of" = true) (k6 : PySem.W.keepIn K (.ref f6) = true)
    {f7 : Addr} {p7 q7 : Option Addr} {r7 : Array (Option Value)} {t7 u7 v7 x7 y7 z7 : Value}
    (n7 : PySem.W.nsIn K mainGlobals "is_host" = some (some (.ref f7)))
    (l7 : K.lookup f7 = some ⟨t7, p7, .func (PySem.W.fnOf "is_host" "is_host" (defArgs s_is_host) (defBody s_is_host) (defScope s_is_host) .none u7 v7 x7 q7 y7 z7), r7⟩)
    (c7 : PySem.W.codeIn K y7 "is_host" = true) (k7 : PySem.W.keepIn K (.ref f7) = true)
    {f8 : Addr} {p8 q8 : Option Addr} {r8 : Array (Option Value)} {t8 u8 v8 x8 y8 z8 : Value}
    (n8 : PySem.W.nsIn K mainGlobals "silent_state" = some (some (.ref f8)))
    (l8 : K.lookup f8 = some ⟨t8, p8, .func (PySem.W.fnOf "silent_state" "silent_state" (defArgs s_silent_state) (defBody s_silent_state) (defScope s_silent_state) .none u8 v8 x8 q8 y8 z8), r8⟩)
    (c8 : PySem.W.codeIn K y8 "silent_state" = true) (k8 : PySem.W.keepIn K (.ref f8) = true)
    {f9 : Addr} {p9 q9 : Option Addr} {r9 : Array (Option Value)} {t9 u9 v9 x9 y9 z9 : Value}
    (n9 : PySem.W.nsIn K mainGlobals "reach_of_kind" = some (some (.ref f9)))
    (l9 : K.lookup f9 = some ⟨t9, p9, .func (PySem.W.fnOf "reach_of_kind" "reach_of_kind" (defArgs s_reach_of_kind) (defBody s_reach_of_kind) (defScope s_reach_of_kind) .none u9 v9 x9 q9 y9 z9), r9⟩)
    (c9 : PySem.W.codeIn K y9 "reach_of_kind" = true) (k9 : PySem.W.keepIn K (.ref f9) = true)
    {f10 : Addr} {p10 q10 : Option Addr} {r10 : Array (Option Value)} {t10 u10 v10 x10 y10 z10 : Value}
    (n10 : PySem.W.nsIn K mainGlobals "_law_spring" = some (some (.ref f10)))
    (l10 : K.lookup f10 = some ⟨t10, p10, .func (PySem.W.fnOf "_law_spring" "_law_spring" (defArgs s__law_spring) (defBody s__law_spring) (defScope s__law_spring) .none u10 v10 x10 q10 y10 z10), r10⟩)
    (c10 : PySem.W.codeIn K y10 "_law_spring" = true) (k10 : PySem.W.keepIn K (.ref f10) = true)
    {f11 : Addr} {p11 q11 : Option Addr} {r11 : Array (Option Value)} {t11 u11 v11 x11 y11 z11 : Value}
    (n11 : PySem.W.nsIn K mainGlobals "_law_draw" = some (some (.ref f11)))
    (l11 : K.lookup f11 = some ⟨t11, p11, .func (PySem.W.fnOf "_law_draw" "_law_draw" (defArgs s__law_draw) (defBody s__law_draw) (defScope s__law_draw) .none u11 v11 x11 q11 y11 z11), r11⟩)
    (c11 : PySem.W.codeIn K y11 "_law_draw" = true) (k11 : PySem.W.keepIn K (.ref f11) = true)
    {f12 : Addr} {p12 q12 : Option Addr} {r12 : Array (Option Value)} {t12 u12 v12 x12 y12 z12 : Value}
    (n12 : PySem.W.nsIn K mainGlobals "_law_passed" = some (some (.ref f12)))
    (l12 : K.lookup f12 = some ⟨t12, p12, .func (PySem.W.fnOf "_law_passed" "_law_passed" (defArgs s__law_passed) (defBody s__law_passed) (defScope s__law_passed) .none u12 v12 x12 q12 y12 z12), r12⟩)
    (c12 : PySem.W.codeIn K y12 "_law_passed" = true) (k12 : PySem.W.keepIn K (.ref f12) = true)
    {f13 : Addr} {p13 q13 : Option Addr} {r13 : Array (Option Value)} {t13 u13 v13 x13 y13 z13 : Value}
    (n13 : PySem.W.nsIn K mainGlobals "_law_kind" = some (some (.ref f13)))
    (l13 : K.lookup f13 = some ⟨t13, p13, .func (PySem.W.fnOf "_law_kind" "_law_kind" (defArgs s__law_kind) (defBody s__law_kind) (defScope s__law_kind) .none u13 v13 x13 q13 y13 z13), r13⟩)
    (c13 : PySem.W.codeIn K y13 "_law_kind" = true) (k13 : PySem.W.keepIn K (.ref f13) = true)
    {f14 : Addr} {p14 q14 : Option Addr} {r14 : Array (Option Value)} {t14 u14 v14 x14 y14 z14 : Value}
    (n14 : PySem.W.nsIn K mainGlobals "is_position" = some (some (.ref f14)))
    (l14 : K.lookup f14 = some ⟨t14, p14, .func (PySem.W.fnOf "is_position" "is_position" (defArgs s_is_position) (defBody s_is_position) (defScope s_is_position) .none u14 v14 x14 q14 y14 z14), r14⟩)
    (c14 : PySem.W.codeIn K y14 "is_position" = true) (k14 : PySem.W.keepIn K (.ref f14) = true)
    {f15 : Addr} {p15 q15 : Option Addr} {r15 : Array (Option Value)} {t15 u15 v15 x15 y15 z15 : Value}
    (n15 : PySem.W.nsIn K mainGlobals "check_number" = some (some (.ref f15)))
    (l15 : K.lookup f15 = some ⟨t15, p15, .func (PySem.W.fnOf "check_number" "check_number" (defArgs s_check_number) (defBody s_check_number) (defScope s_check_number) .none u15 v15 x15 q15 y15 z15), r15⟩)
    (c15 : PySem.W.codeIn K y15 "check_number" = true) (k15 : PySem.W.keepIn K (.ref f15) = true)
    {f16 : Addr} {p16 q16 : Option Addr} {r16 : Array (Option Value)} {t16 u16 v16 x16 y16 z16 : Value}
    (n16 : PySem.W.nsIn K mainGlobals "is_end" = some (some (.ref f16)))
    (l16 : K.lookup f16 = some ⟨t16, p16, .func (PySem.W.fnOf "is_end" "is_end" (defArgs s_is_end) (defBody s_is_end) (defScope s_is_end) .none u16 v16 x16 q16 y16 z16), r16⟩)
    (c16 : PySem.W.codeIn K y16 "is_end" = true) (k16 : PySem.W.keepIn K (.ref f16) = true)
    {f17 : Addr} {p17 q17 : Option Addr} {r17 : Array (Option Value)} {t17 u17 v17 x17 y17 z17 : Value}
    (n17 : PySem.W.nsIn K mainGlobals "is_frame" = some (some (.ref f17)))
    (l17 : K.lookup f17 = some ⟨t17, p17, .func (PySem.W.fnOf "is_frame" "is_frame" (defArgs s_is_frame) (defBody s_is_frame) (defScope s_is_frame) .none u17 v17 x17 q17 y17 z17), r17⟩)
    (c17 : PySem.W.codeIn K y17 "is_frame" = true) (k17 : PySem.W.keepIn K (.ref f17) = true)
    {f18 : Addr} {p18 q18 : Option Addr} {r18 : Array (Option Value)} {t18 u18 v18 x18 y18 z18 : Value}
    (n18 : PySem.W.nsIn K mainGlobals "kind_in" = some (some (.ref f18)))
    (l18 : K.lookup f18 = some ⟨t18, p18, .func (PySem.W.fnOf "kind_in" "kind_in" (defArgs s_kind_in) (defBody s_kind_in) (defScope s_kind_in) .none u18 v18 x18 q18 y18 z18), r18⟩)
    (c18 : PySem.W.codeIn K y18 "kind_in" = true) (k18 : PySem.W.keepIn K (.ref f18) = true)
    {f19 : Addr} {p19 q19 : Option Addr} {r19 : Array (Option Value)} {t19 u19 v19 x19 y19 z19 : Value}
    (n19 : PySem.W.nsIn K mainGlobals "_law_names" = some (some (.ref f19)))
    (l19 : K.lookup f19 = some ⟨t19, p19, .func (PySem.W.fnOf "_law_names" "_law_names" (defArgs s__law_names) (defBody s__law_names) (defScope s__law_names) .none u19 v19 x19 q19 y19 z19), r19⟩)
    (c19 : PySem.W.codeIn K y19 "_law_names" = true) (k19 : PySem.W.keepIn K (.ref f19) = true)
    {f20 : Addr} {p20 q20 : Option Addr} {r20 : Array (Option Value)} {t20 u20 v20 x20 y20 z20 : Value}
    (n20 : PySem.W.nsIn K mainGlobals "_law_frames" = some (some (.ref f20)))
    (l20 : K.lookup f20 = some ⟨t20, p20, .func (PySem.W.fnOf "_law_frames" "_law_frames" (defArgs s__law_frames) (defBody s__law_frames) (defScope s__law_frames) .none u20 v20 x20 q20 y20 z20), r20⟩)
    (c20 : PySem.W.codeIn K y20 "_law_frames" = true) (k20 : PySem.W.keepIn K (.ref f20) = true)
    {f21 : Addr} {p21 q21 : Option Addr} {r21 : Array (Option Value)} {t21 u21 v21 x21 y21 z21 : Value}
    (n21 : PySem.W.nsIn K mainGlobals "check_position" = some (some (.ref f21)))
    (l21 : K.lookup f21 = some ⟨t21, p21, .func (PySem.W.fnOf "check_position" "check_position" (defArgs s_check_position) (defBody s_check_position) (defScope s_check_position) .none u21 v21 x21 q21 y21 z21), r21⟩)
    (c21 : PySem.W.codeIn K y21 "check_position" = true) (k21 : PySem.W.keepIn K (.ref f21) = true)
    {f22 : Addr} {p22 q22 : Option Addr} {r22 : Array (Option Value)} {t22 u22 v22 x22 y22 z22 : Value}
    (n22 : PySem.W.nsIn K mainGlobals "is_line" = some (some (.ref f22)))
    (l22 : K.lookup f22 = some ⟨t22, p22, .func (PySem.W.fnOf "is_line" "is_line" (defArgs s_is_line) (defBody s_is_line) (defScope s_is_line) .none u22 v22 x22 q22 y22 z22), r22⟩)
    (c22 : PySem.W.codeIn K y22 "is_line" = true) (k22 : PySem.W.keepIn K (.ref f22) = true)
    {f23 : Addr} {p23 q23 : Option Addr} {r23 : Array (Option Value)} {t23 u23 v23 x23 y23 z23 : Value}
    (n23 : PySem.W.nsIn K mainGlobals "is_known_interval" = some (some (.ref f23)))
    (l23 : K.lookup f23 = some ⟨t23, p23, .func (PySem.W.fnOf "is_known_interval" "is_known_interval" (defArgs s_is_known_interval) (defBody s_is_known_interval) (defScope s_is_known_interval) .none u23 v23 x23 q23 y23 z23), r23⟩)
    (c23 : PySem.W.codeIn K y23 "is_known_interval" = true) (k23 : PySem.W.keepIn K (.ref f23) = true)
    {f24 : Addr} {p24 q24 : Option Addr} {r24 : Array (Option Value)} {t24 u24 v24 x24 y24 z24 : Value}
    (n24 : PySem.W.nsIn K mainGlobals "send_one" = some (some (.ref f24)))
    (l24 : K.lookup f24 = some ⟨t24, p24, .func (PySem.W.fnOf "send_one" "send_one" (defArgs s_send_one) (defBody s_send_one) (defScope s_send_one) .none u24 v24 x24 q24 y24 z24), r24⟩)
    (c24 : PySem.W.codeIn K y24 "send_one" = true) (k24 : PySem.W.keepIn K (.ref f24) = true)
    {f25 : Addr} {p25 q25 : Option Addr} {r25 : Array (Option Value)} {t25 u25 v25 x25 y25 z25 : Value}
    (n25 : PySem.W.nsIn K mainGlobals "_law_line" = some (some (.ref f25)))
    (l25 : K.lookup f25 = some ⟨t25, p25, .func (PySem.W.fnOf "_law_line" "_law_line" (defArgs s__law_line) (defBody s__law_line) (defScope s__law_line) .none u25 v25 x25 q25 y25 z25), r25⟩)
    (c25 : PySem.W.codeIn K y25 "_law_line" = true) (k25 : PySem.W.keepIn K (.ref f25) = true)
    {f26 : Addr} {p26 q26 : Option Addr} {r26 : Array (Option Value)} {t26 u26 v26 x26 y26 z26 : Value}
    (n26 : PySem.W.nsIn K mainGlobals "check_line" = some (some (.ref f26)))
    (l26 : K.lookup f26 = some ⟨t26, p26, .func (PySem.W.fnOf "check_line" "check_line" (defArgs s_check_line) (defBody s_check_line) (defScope s_check_line) .none u26 v26 x26 q26 y26 z26), r26⟩)
    (c26 : PySem.W.codeIn K y26 "check_line" = true) (k26 : PySem.W.keepIn K (.ref f26) = true)
    {f27 : Addr} {p27 q27 : Option Addr} {r27 : Array (Option Value)} {t27 u27 v27 x27 y27 z27 : Value}
    (n27 : PySem.W.nsIn K mainGlobals "send_each" = some (some (.ref f27)))
    (l27 : K.lookup f27 = some ⟨t27, p27, .func (PySem.W.fnOf "send_each" "send_each" (defArgs s_send_each) (defBody s_send_each) (defScope s_send_each) .none u27 v27 x27 q27 y27 z27), r27⟩)
    (c27 : PySem.W.codeIn K y27 "send_each" = true) (k27 : PySem.W.keepIn K (.ref f27) = true)
    {f28 : Addr} {p28 q28 : Option Addr} {r28 : Array (Option Value)} {t28 u28 v28 x28 y28 z28 : Value}
    (n28 : PySem.W.nsIn K mainGlobals "is_state" = some (some (.ref f28)))
    (l28 : K.lookup f28 = some ⟨t28, p28, .func (PySem.W.fnOf "is_state" "is_state" (defArgs s_is_state) (defBody s_is_state) (defScope s_is_state) .none u28 v28 x28 q28 y28 z28), r28⟩)
    (c28 : PySem.W.codeIn K y28 "is_state" = true) (k28 : PySem.W.keepIn K (.ref f28) = true)
    {f29 : Addr} {p29 q29 : Option Addr} {r29 : Array (Option Value)} {t29 u29 v29 x29 y29 z29 : Value}
    (n29 : PySem.W.nsIn K mainGlobals "is_frames" = some (some (.ref f29)))
    (l29 : K.lookup f29 = some ⟨t29, p29, .func (PySem.W.fnOf "is_frames" "is_frames" (defArgs s_is_frames) (defBody s_is_frames) (defScope s_is_frames) .none u29 v29 x29 q29 y29 z29), r29⟩)
    (c29 : PySem.W.codeIn K y29 "is_frames" = true) (k29 : PySem.W.keepIn K (.ref f29) = true)
    {f30 : Addr} {p30 q30 : Option Addr} {r30 : Array (Option Value)} {t30 u30 v30 x30 y30 z30 : Value}
    (n30 : PySem.W.nsIn K mainGlobals "check_state" = some (some (.ref f30)))
    (l30 : K.lookup f30 = some ⟨t30, p30, .func (PySem.W.fnOf "check_state" "check_state" (defArgs s_check_state) (defBody s_check_state) (defScope s_check_state) .none u30 v30 x30 q30 y30 z30), r30⟩)
    (c30 : PySem.W.codeIn K y30 "check_state" = true) (k30 : PySem.W.keepIn K (.ref f30) = true)
    {f31 : Addr} {p31 q31 : Option Addr} {r31 : Array (Option Value)} {t31 u31 v31 x31 y31 z31 : Value}
    (n31 : PySem.W.nsIn K mainGlobals "check_frames" = some (some (.ref f31)))
    (l31 : K.lookup f31 = some ⟨t31, p31, .func (PySem.W.fnOf "check_frames" "check_frames" (defArgs s_check_frames) (defBody s_check_frames) (defScope s_check_frames) .none u31 v31 x31 q31 y31 z31), r31⟩)
    (c31 : PySem.W.codeIn K y31 "check_frames" = true) (k31 : PySem.W.keepIn K (.ref f31) = true)
    {f32 : Addr} {p32 q32 : Option Addr} {r32 : Array (Option Value)} {t32 u32 v32 x32 y32 z32 : Value}
    (n32 : PySem.W.nsIn K mainGlobals "starting_state" = some (some (.ref f32)))
    (l32 : K.lookup f32 = some ⟨t32, p32, .func (PySem.W.fnOf "starting_state" "starting_state" (defArgs s_starting_state) (defBody s_starting_state) (defScope s_starting_state) .none u32 v32 x32 q32 y32 z32), r32⟩)
    (c32 : PySem.W.codeIn K y32 "starting_state" = true) (k32 : PySem.W.keepIn K (.ref f32) = true)
    {f33 d33 : Addr} {p33 q33 : Option Addr} {r33 : Array (Option Value)} {t33 v33 x33 y33 z33 : Value}
    (n33 : PySem.W.nsIn K mainGlobals "kinds_of" = some (some (.ref f33)))
    (l33 : K.lookup f33 = some ⟨t33, p33, .func (PySem.W.fnOf "kinds_of" "kinds_of" (defArgs s_kinds_of) (defBody s_kinds_of) (defScope s_kinds_of) .none (.ref d33) v33 x33 q33 y33 z33), r33⟩)
    (c33 : PySem.W.codeIn K y33 "kinds_of" = true) (k33 : PySem.W.keepIn K (.ref f33) = true)
    (s33 : PySem.W.nsIn K d33 "start" = some (some .none))
    {f34 d34 : Addr} {p34 q34 : Option Addr} {r34 : Array (Option Value)} {t34 v34 x34 y34 z34 : Value}
    (n34 : PySem.W.nsIn K mainGlobals "known_after" = some (some (.ref f34)))
    (l34 : K.lookup f34 = some ⟨t34, p34, .func (PySem.W.fnOf "known_after" "known_after" (defArgs s_known_after) (defBody s_known_after) (defScope s_known_after) .none (.ref d34) v34 x34 q34 y34 z34), r34⟩)
    (c34 : PySem.W.codeIn K y34 "known_after" = true) (k34 : PySem.W.keepIn K (.ref f34) = true)
    (s34 : PySem.W.nsIn K d34 "start" = some (some .none))
    {f35 d35 : Addr} {p35 q35 : Option Addr} {r35 : Array (Option Value)} {t35 v35 x35 y35 z35 : Value}
    (n35 : PySem.W.nsIn K mainGlobals "heard_at" = some (some (.ref f35)))
    (l35 : K.lookup f35 = some ⟨t35, p35, .func (PySem.W.fnOf "heard_at" "heard_at" (defArgs s_heard_at) (defBody s_heard_at) (defScope s_heard_at) .none (.ref d35) v35 x35 q35 y35 z35), r35⟩)
    (c35 : PySem.W.codeIn K y35 "heard_at" = true) (k35 : PySem.W.keepIn K (.ref f35) = true)
    (s35 : PySem.W.nsIn K d35 "start" = some (some .none))
    {f36 : Addr} {p36 q36 : Option Addr} {r36 : Array (Option Value)} {t36 u36 v36 x36 y36 z36 : Value}
    (n36 : PySem.W.nsIn K mainGlobals "kinds_in_round" = some (some (.ref f36)))
    (l36 : K.lookup f36 = some ⟨t36, p36, .func (PySem.W.fnOf "kinds_in_round" "kinds_in_round" (defArgs s_kinds_in_round) (defBody s_kinds_in_round) (defScope s_kinds_in_round) .none u36 v36 x36 q36 y36 z36), r36⟩)
    (c36 : PySem.W.codeIn K y36 "kinds_in_round" = true) (k36 : PySem.W.keepIn K (.ref f36) = true)
    {f37 : Addr} {p37 q37 : Option Addr} {r37 : Array (Option Value)} {t37 u37 v37 x37 y37 z37 : Value}
    (n37 : PySem.W.nsIn K mainGlobals "load_after" = some (some (.ref f37)))
    (l37 : K.lookup f37 = some ⟨t37, p37, .func (PySem.W.fnOf "load_after" "load_after" (defArgs s_load_after) (defBody s_load_after) (defScope s_load_after) .none u37 v37 x37 q37 y37 z37), r37⟩)
    (c37 : PySem.W.codeIn K y37 "load_after" = true) (k37 : PySem.W.keepIn K (.ref f37) = true)
    {f38 : Addr} {p38 q38 : Option Addr} {r38 : Array (Option Value)} {t38 u38 v38 x38 y38 z38 : Value}
    (n38 : PySem.W.nsIn K mainGlobals "_law_right" = some (some (.ref f38)))
    (l38 : K.lookup f38 = some ⟨t38, p38, .func (PySem.W.fnOf "_law_right" "_law_right" (defArgs s__law_right) (defBody s__law_right) (defScope s__law_right) .none u38 v38 x38 q38 y38 z38), r38⟩)
    (c38 : PySem.W.codeIn K y38 "_law_right" = true) (k38 : PySem.W.keepIn K (.ref f38) = true)
    {f39 : Addr} {p39 q39 : Option Addr} {r39 : Array (Option Value)} {t39 u39 v39 x39 y39 z39 : Value}
    (n39 : PySem.W.nsIn K mainGlobals "law" = some (some (.ref f39)))
    (l39 : K.lookup f39 = some ⟨t39, p39, .func (PySem.W.fnOf "law" "law" (defArgs s_law) (defBody s_law) (defScope s_law) .none u39 v39 x39 q39 y39 z39), r39⟩)
    (c39 : PySem.W.codeIn K y39 "law" = true) (k39 : PySem.W.keepIn K (.ref f39) = true)
    (b_abs : PySem.W.nsIn K mainGlobals "abs" = some none)
    (b_all : PySem.W.nsIn K mainGlobals "all" = some none)
    (b_bool : PySem.W.nsIn K mainGlobals "bool" = some none)
    (b_dict : PySem.W.nsIn K mainGlobals "dict" = some none)
    (b_enumerate : PySem.W.nsIn K mainGlobals "enumerate" = some none)
    (b_int : PySem.W.nsIn K mainGlobals "int" = some none)
    (b_isinstance : PySem.W.nsIn K mainGlobals "isinstance" = some none)
    (b_len : PySem.W.nsIn K mainGlobals "len" = some none)
    (b_list : PySem.W.nsIn K mainGlobals "list" = some none)
    (b_max : PySem.W.nsIn K mainGlobals "max" = some none)
    (b_min : PySem.W.nsIn K mainGlobals "min" = some none)
    (b_range : PySem.W.nsIn K mainGlobals "range" = some none)
    (b_set : PySem.W.nsIn K mainGlobals "set" = some none)
    (b_sorted : PySem.W.nsIn K mainGlobals "sorted" = some none)
    (b_str : PySem.W.nsIn K mainGlobals "str" = some none)
    (b_tuple : PySem.W.nsIn K mainGlobals "tuple" = some none)
    (b_type : PySem.W.nsIn K mainGlobals "type" = some none)
    {t_ALL : _} (g_ALL : PySem.W.nsIn K mainGlobals "ALL" = some (some (.str "all" t_ALL)))
    {t_DIRECT : _} (g_DIRECT : PySem.W.nsIn K mainGlobals "DIRECT" = some (some (.str "direct" t_DIRECT)))
    {t_FLOOD : _} (g_FLOOD : PySem.W.nsIn K mainGlobals "FLOOD" = some (some (.str "flood" t_FLOOD)))
    {t_MOST_FRAMES : _} (g_MOST_FRAMES : PySem.W.nsIn K mainGlobals "MOST_FRAMES" = some (some (.int (300) t_MOST_FRAMES)))
    {t_MOST_HOSTS : _} (g_MOST_HOSTS : PySem.W.nsIn K mainGlobals "MOST_HOSTS" = some (some (.int (40) t_MOST_HOSTS)))
    {t_MOST_LETTERS : _} (g_MOST_LETTERS : PySem.W.nsIn K mainGlobals "MOST_LETTERS" = some (some (.int (8) t_MOST_LETTERS)))
    {t_MOST_ROUNDS : _} (g_MOST_ROUNDS : PySem.W.nsIn K mainGlobals "MOST_ROUNDS" = some (some (.int (1000000000000000000000000000000) t_MOST_ROUNDS)))
    : ∀ base : Heap, (∃ o, base.get? sysModules = some o) → DfnG P w K mg base "law" ["script"] 11 (sp_lawD K) := by
  intro base hm
  have T : Tx mg := ⟨PySem.W.mg_none_of X G b_abs, PySem.W.mg_none_of X G b_all, PySem.W.mg_none_of X G b_bool, PySem.W.mg_none_of X G b_dict, PySem.W.mg_none_of X G b_enumerate, PySem.W.mg_none_of X G b_int, PySem.W.mg_none_of X G b_isinstance, PySem.W.mg_none_of X G b_len, PySem.W.mg_none_of X G b_list, PySem.W.mg_none_of X G b_max, PySem.W.mg_none_of X G b_min, PySem.W.mg_none_of X G b_range, PySem.W.mg_none_of X G b_set, PySem.W.mg_none_of X G b_sorted, PySem.W.mg_none_of X G b_str, PySem.W.mg_none_of X G b_tuple, PySem.W.mg_none_of X G b_type, ⟨_, PySem.W.mg_of X G g_ALL⟩, ⟨_, PySem.W.mg_of X G g_DIRECT⟩, v_FARTHEST, ⟨_, PySem.W.mg_of X G g_FLOOD⟩, ⟨_, PySem.W.mg_of X G g_MOST_FRAMES⟩, ⟨_, PySem.W.mg_of X G g_MOST_HOSTS⟩, ⟨_, PySem.W.mg_of X G g_MOST_LETTERS⟩, ⟨_, PySem.W.mg_of X G g_MOST_ROUNDS⟩⟩
  have A0 : At K mg "is_integer" s_is_integer ["value"] := At.mk' X G n0 l0 c0 k0 fun _ _ _ _ _ _ us hl => match us, hl with | [_], _ => rfl
  have D_is_integer := ok_is_integer (P := P) (w := w) (K := K) (mg := mg) (base := base) T A0
  have A1 : At K mg "is_name" s_is_name ["value"] := At.mk' X G n1 l1 c1 k1 fun _ _ _ _ _ _ us hl => match us, hl with | [_], _ => rfl
  have D_is_name := ok_is_name (P := P) (w := w) (K := K) (mg := mg) (base := base) T A1
  have A2 : At K mg "is_list" s_is_list ["value"] := At.mk' X G n2 l2 c2 k2 fun _ _ _ _ _ _ us hl => match us, hl with | [_], _ => rfl
  have D_is_list := ok_is_list (P := P) (w := w) (K := K) (mg := mg) (base := base) T A2
  have A3 : At K mg "is_pair" s_is_pair ["value"] := At.mk' X G n3 l3 c3 k3 fun _ _ _ _ _ _ us hl => match us, hl with | [_], _ => rfl
  have D_is_pair := ok_is_pair (P := P) (w := w) (K := K) (mg := mg) (base := base) T A3
  have A4 : At K mg "contains" s_contains ["interval", "position"] := At.mk' X G n4 l4 c4 k4 fun _ _ _ _ _ _ us hl => match us, hl with | [_, _], _ => rfl
  have D_contains := ok_contains (P := P) (w := w) (K := K) (mg := mg) (base := base) T A4
  have A5 : At K mg "joined" s_joined ["interval", "other"] := At.mk' X G n5 l5 c5 k5 fun _ _ _ _ _ _ us hl => match us, hl with | [_, _], _ => rfl
  have D_joined := ok_joined (P := P) (w := w) (K := K) (mg := mg) (base := base) T A5
  have A6 : At K mg "has_hosts_of" s_has_hosts_of ["line", "value"] := At.mk' X G n6 l6 c6 k6 fun _ _ _ _ _ _ us hl => match us, hl with | [_, _], _ => rfl
  have D_has_hosts_of := ok_has_hosts_of (P := P) (w := w) (K := K) (mg := mg) (base := base) T A6
  have A7 : At K mg "is_host" s_is_host ["line", "value"] := At.mk' X G n7 l7 c7 k7 fun _ _ _ _ _ _ us hl => match us, hl with | [_, _], _ => rfl
  have D_is_host := ok_is_host (P := P) (w := w) (K := K) (mg := mg) (base := base) T A7
  have A8 : At K mg "silent_state" s_silent_state ["line"] := At.mk' X G n8 l8 c8 k8 fun _ _ _ _ _ _ us hl => match us, hl with | [_], _ => rfl
  have D_silent_state := ok_silent_state (P := P) (w := w) (K := K) (mg := mg) (base := base) T A8
  have A9 : At K mg "reach_of_kind" s_reach_of_kind ["kind", "start", "end"] := At.mk' X G n9 l9 c9 k9 fun _ _ _ _ _ _ us hl => match us, hl with | [_, _, _], _ => rfl
  have D_reach_of_kind := ok_reach_of_kind (P := P) (w := w) (K := K) (mg := mg) (base := base) T A9
  have A10 : At K mg "_law_spring" s__law_spring ["script"] := At.mk' X G n10 l10 c10 k10 fun _ _ _ _ _ _ us hl => match us, hl with | [_], _ => rfl
  have D__law_spring := ok__law_spring (P := P) (w := w) (K := K) (mg := mg) (base := base) T A10
  have A11 : At K mg "_law_draw" s__law_draw ["spring", "many"] := At.mk' X G n11 l11 c11 k11 fun _ _ _ _ _ _ us hl => match us, hl with | [_, _], _ => rfl
  have D__law_draw := ok__law_draw (P := P) (w := w) (K := K) (mg := mg) (base := base) T A11
  have A12 : At K mg "_law_passed" s__law_passed ["window", "knows", "start", "goal"] := At.mk' X G n12 l12 c12 k12 fun _ _ _ _ _ _ us hl => match us, hl with | [_, _, _, _], _ => rfl
  have D__law_passed := ok__law_passed (P := P) (w := w) (K := K) (mg := mg) (base := base) T A12
  have A13 : At K mg "_law_kind" s__law_kind ["knows", "start"] := At.mk' X G n13 l13 c13 k13 fun _ _ _ _ _ _ us hl => match us, hl with | [_, _], _ => rfl
  have D__law_kind := ok__law_kind (P := P) (w := w) (K := K) (mg := mg) (base := base) T A13
  have A14 : At K mg "is_position" s_is_position ["value"] := At.mk' X G n14 l14 c14 k14 fun _ _ _ _ _ _ us hl => match us, hl with | [_], _ => rfl
  have D_is_position := ok_is_position (P := P) (w := w) (K := K) (mg := mg) (base := base) T A14 D_is_integer
  have A15 : At K mg "check_number" s_check_number ["number", "least", "most"] := At.mk' X G n15 l15 c15 k15 fun _ _ _ _ _ _ us hl => match us, hl with | [_, _, _], _ => rfl
  have D_check_number := ok_check_number (P := P) (w := w) (K := K) (mg := mg) (base := base) T A15 D_is_integer
  have A16 : At K mg "is_end" s_is_end ["line", "value"] := At.mk' X G n16 l16 c16 k16 fun _ _ _ _ _ _ us hl => match us, hl with | [_, _], _ => rfl
  have D_is_end := ok_is_end (P := P) (w := w) (K := K) (mg := mg) (base := base) T A16 D_is_integer
  have A17 : At K mg "is_frame" s_is_frame ["line", "value"] := At.mk' X G n17 l17 c17 k17 fun _ _ _ _ _ _ us hl => match us, hl with | [_, _], _ => rfl
  have D_is_frame := ok_is_frame (P := P) (w := w) (K := K) (mg := mg) (base := base) T A17 D_is_host D_is_pair
  have A18 : At K mg "kind_in" s_kind_in ["line", "state", "sender", "target"] := At.mk' X G n18 l18 c18 k18 fun _ _ _ _ _ _ us hl => match us, hl with | [_, _, _, _], _ => rfl
  have D_kind_in := ok_kind_in (P := P) (w := w) (K := K) (mg := mg) (base := base) T A18 D_contains
  have A19 : At K mg "_law_names" s__law_names ["spring", "many"] := At.mk' X G n19 l19 c19 k19 fun _ _ _ _ _ _ us hl => match us, hl with | [_, _], _ => rfl
  have D__law_names := ok__law_names (P := P) (w := w) (K := K) (mg := mg) (base := base) T A19 D__law_draw
  have A20 : At K mg "_law_frames" s__law_frames ["spring", "line", "many"] := At.mk' X G n20 l20 c20 k20 fun _ _ _ _ _ _ us hl => match us, hl with | [_, _, _], _ => rfl
  have D__law_frames := ok__law_frames (P := P) (w := w) (K := K) (mg := mg) (base := base) T A20 D__law_draw
  have A21 : At K mg "check_position" s_check_position ["position"] := At.mk' X G n21 l21 c21 k21 fun _ _ _ _ _ _ us hl => match us, hl with | [_], _ => rfl
  have D_check_position := ok_check_position (P := P) (w := w) (K := K) (mg := mg) (base := base) T A21 D_is_position
  have A22 : At K mg "is_line" s_is_line ["value"] := At.mk' X G n22 l22 c22 k22 fun _ _ _ _ _ _ us hl => match us, hl with | [_], _ => rfl
  have D_is_line := ok_is_line (P := P) (w := w) (K := K) (mg := mg) (base := base) T A22 D_is_name D_is_position
  have A23 : At K mg "is_known_interval" s_is_known_interval ["line", "host", "value"] := At.mk' X G n23 l23 c23 k23 fun _ _ _ _ _ _ us hl => match us, hl with | [_, _, _], _ => rfl
  have D_is_known_interval := ok_is_known_interval (P := P) (w := w) (K := K) (mg := mg) (base := base) T A23 D_is_end D_is_pair
  have A24 : At K mg "send_one" s_send_one ["line", "known", "sender", "target"] := At.mk' X G n24 l24 c24 k24 fun _ _ _ _ _ _ us hl => match us, hl with | [_, _, _, _], _ => rfl
  have D_send_one := ok_send_one (P := P) (w := w) (K := K) (mg := mg) (base := base) T A24 D_joined D_kind_in D_reach_of_kind
  have A25 : At K mg "_law_line" s__law_line ["spring", "many"] := At.mk' X G n25 l25 c25 k25 fun _ _ _ _ _ _ us hl => match us, hl with | [_, _], _ => rfl
  have D__law_line := ok__law_line (P := P) (w := w) (K := K) (mg := mg) (base := base) T A25 D__law_draw D__law_names
  have A26 : At K mg "check_line" s_check_line ["line"] := At.mk' X G n26 l26 c26 k26 fun _ _ _ _ _ _ us hl => match us, hl with | [_], _ => rfl
  have D_check_line := ok_check_line (P := P) (w := w) (K := K) (mg := mg) (base := base) T A26 D_is_line
  have A27 : At K mg "send_each" s_send_each ["line", "known", "frames"] := At.mk' X G n27 l27 c27 k27 fun _ _ _ _ _ _ us hl => match us, hl with | [_, _, _], _ => rfl
  have D_send_each := ok_send_each (P := P) (w := w) (K := K) (mg := mg) (base := base) T A27 D_send_one
  have A28 : At K mg "is_state" s_is_state ["line", "value"] := At.mk' X G n28 l28 c28 k28 fun _ _ _ _ _ _ us hl => match us, hl with | [_, _], _ => rfl
  have D_is_state := ok_is_state (P := P) (w := w) (K := K) (mg := mg) (base := base) T A28 D_check_line D_has_hosts_of D_is_known_interval
  have A29 : At K mg "is_frames" s_is_frames ["line", "value"] := At.mk' X G n29 l29 c29 k29 fun _ _ _ _ _ _ us hl => match us, hl with | [_, _], _ => rfl
  have D_is_frames := ok_is_frames (P := P) (w := w) (K := K) (mg := mg) (base := base) T A29 D_check_line D_is_frame D_is_list
  have A30 : At K mg "check_state" s_check_state ["line", "state"] := At.mk' X G n30 l30 c30 k30 fun _ _ _ _ _ _ us hl => match us, hl with | [_, _], _ => rfl
  have D_check_state := ok_check_state (P := P) (w := w) (K := K) (mg := mg) (base := base) T A30 D_is_state
  have A31 : At K mg "check_frames" s_check_frames ["line", "frames"] := At.mk' X G n31 l31 c31 k31 fun _ _ _ _ _ _ us hl => match us, hl with | [_, _], _ => rfl
  have D_check_frames := ok_check_frames (P := P) (w := w) (K := K) (mg := mg) (base := base) T A31 D_is_frames
  have A32 : At K mg "starting_state" s_starting_state ["line", "start"] := At.mk' X G n32 l32 c32 k32 fun _ _ _ _ _ _ us hl => match us, hl with | [_, _], _ => rfl
  have D_starting_state := ok_starting_state (P := P) (w := w) (K := K) (mg := mg) (base := base) T A32 D_check_state D_silent_state
  have A33 : AtK K mg "kinds_of" s_kinds_of ["line", "frames", "start"] 2 ["start"] [.non] := AtK.mk1 X G n33 l33 c33 k33 s33 rfl (fun _ _ _ _ _ us ks h1 h2 => match us, ks, h1, h2 with | [_, _], [_], _, _ => ⟨_, _, _, _, _, _, rfl, rfl, rfl⟩) (fun _ _ _ _ _ us ks h1 h2 => match us, ks, h1, h2 with | [_, _], [_], _, _ => rfl)
  have D_kinds_of := ok_kinds_of (P := P) (w := w) (K := K) (mg := mg) (base := base) T A33 D_check_frames D_send_each D_starting_state
  have A34 : AtK K mg "known_after" s_known_after ["line", "frames", "start"] 2 ["start"] [.non] := AtK.mk1 X G n34 l34 c34 k34 s34 rfl (fun _ _ _ _ _ us ks h1 h2 => match us, ks, h1, h2 with | [_, _], [_], _, _ => ⟨_, _, _, _, _, _, rfl, rfl, rfl⟩) (fun _ _ _ _ _ us ks h1 h2 => match us, ks, h1, h2 with | [_, _], [_], _, _ => rfl)
  have D_known_after := ok_known_after (P := P) (w := w) (K := K) (mg := mg) (base := base) T A34 D_check_frames D_send_each D_starting_state
  have A35 : AtK K mg "heard_at" s_heard_at ["line", "frames", "position", "start"] 3 ["start"] [.non] := AtK.mk1 X G n35 l35 c35 k35 s35 rfl (fun _ _ _ _ _ us ks h1 h2 => match us, ks, h1, h2 with | [_, _, _], [_], _, _ => ⟨_, _, _, _, _, _, rfl, rfl, rfl⟩) (fun _ _ _ _ _ us ks h1 h2 => match us, ks, h1, h2 with | [_, _, _], [_], _, _ => rfl)
  have D_heard_at := ok_heard_at (P := P) (w := w) (K := K) (mg := mg) (base := base) T A35 D_check_frames D_check_position D_contains D_send_each D_starting_state
  have A36 : At K mg "kinds_in_round" s_kinds_in_round ["line", "frames", "number"] := At.mk' X G n36 l36 c36 k36 fun _ _ _ _ _ _ us hl => match us, hl with | [_, _, _], _ => rfl
  have D_kinds_in_round := ok_kinds_in_round (P := P) (w := w) (K := K) (mg := mg) (base := base) T A36 D_check_frames D_check_number D_kinds_of D_known_after
  have A37 : At K mg "load_after" s_load_after ["line", "frames", "count", "position"] := At.mk' X G n37 l37 c37 k37 fun _ _ _ _ _ _ us hl => match us, hl with | [_, _, _, _], _ => rfl
  have D_load_after := ok_load_after (P := P) (w := w) (K := K) (mg := mg) (base := base) T A37 D_check_frames D_check_number D_check_position D_heard_at D_known_after
  have A38 : At K mg "_law_right" s__law_right ["line", "frames"] := At.mk' X G n38 l38 c38 k38 fun _ _ _ _ _ _ us hl => match us, hl with | [_, _], _ => rfl
  have D__law_right := ok__law_right (P := P) (w := w) (K := K) (mg := mg) (base := base) T hm A38 D__law_kind D__law_passed D_kinds_in_round D_load_after
  have A39 : At K mg "law" s_law ["script"] := At.mk' X G n39 l39 c39 k39 fun _ _ _ _ _ _ us hl => match us, hl with | [_], _ => rfl
  have D_law := ok_law (P := P) (w := w) (K := K) (mg := mg) (base := base) T hm A39 D__law_draw D__law_frames D__law_line D__law_right D__law_spring
  obtain ⟨f, fd, a1, a2, a3, F⟩ := D_law.ex
  exact ⟨f, fd, a1, a2, a3, ⟨fun vs H Q E hs => F.len vs H Q E (law_sp law_true hs), fun A outer s H args us vs Q E r1 r2 r3 r4 r5 hs => F.run A outer s H args us vs Q E r1 r2 r3 r4 r5 (law_sp law_true hs)⟩⟩
end FD.k14
open PySem PySem.W PyProof.Rows
theorem PySem.Challenge.cw_floodline_k14_loads_switch_by_switch_holds : PySem.Challenge.rw_floodline_k14_loads_switch_by_switch.Holds := by
  w_on; o_law; k_head; (case hw => w_witness2)
  k_fill
  refine FL.law_end (l := PySem.Challenge.rw_floodline_k14_loads_switch_by_switch) (n := 63) (k := 11) (x := "script") (sp := fun K => FD.sp_lawD K) rfl (by decide) rfl ⟨rfl, by decide, by decide⟩ (fun w h Y => PySem.W.kIn_of Y) (by decide +kernel) ?F ?c
  case c => exact fun K H a ns hl hS => ⟨a, ns, rfl, hS, hl, fun _ => rfl⟩
  case F =>
    intro w mg h KX G V
    have v_FARTHEST : ∃ t, mg "FARTHEST" = some (.int (1000000000000000000000000000000) t) := by
      obtain ⟨v, e, r⟩ := V.2.val ("FARTHEST", WData.int (1000000000000000000000000000000)) (by simp)
      obtain ⟨t, q, -⟩ := readsW_int_inv r
      rw [q] at e
      exact ⟨t, e⟩
    refine' FD.k14.all_at KX G v_FARTHEST ?n0 ?l0 ?c0 ?k0 ?n1 ?l1 ?c1 ?k1 ?n2 ?l2 ?c2 ?k2 ?n3 ?l3 ?c3 ?k3 ?n4 ?l4 ?c4 ?k4 ?n5 ?l5 ?c5 ?k5 ?n6 ?l6 ?c6 ?k6 ?n7 ?l7 ?c7 ?k7 ?n8 ?l8 ?c8 ?k8 ?n9 ?l9 ?c9 ?k9 ?n10 ?l10 ?c10 ?k10 ?n11 ?l11 ?c11 ?k11 ?n12 ?l12 ?c12 ?k12 ?n13 ?l13 ?c13 ?k13 ?n14 ?l14 ?c14 ?k14 ?n15 ?l15 ?c15 ?k15 ?n16 ?l16 ?c16 ?k16 ?n17 ?l17 ?c17 ?k17 ?n18 ?l18 ?c18 ?k18 ?n19 ?l19 ?c19 ?k19 ?n20 ?l20 ?c20 ?k20 ?n21 ?l21 ?c21 ?k21 ?n22 ?l22 ?c22 ?k22 ?n23 ?l23 ?c23 ?k23 ?n24 ?l24 ?c24 ?k24 ?n25 ?l25 ?c25 ?k25 ?n26 ?l26 ?c26 ?k26 ?n27 ?l27 ?c27 ?k27 ?n28 ?l28 ?c28 ?k28 ?n29 ?l29 ?c29 ?k29 ?n30 ?l30 ?c30 ?k30 ?n31 ?l31 ?c31 ?k31 ?n32 ?l32 ?c32 ?k32 ?n33 ?l33 ?c33 ?k33 ?s33 ?n34 ?l34 ?c34 ?k34 ?s34 ?n35 ?l35 ?c35 ?k35 ?s35 ?n36 ?l36 ?c36 ?k36 ?n37 ?l37 ?c37 ?k37 ?n38 ?l38 ?c38 ?k38 ?n39 ?l39 ?c39 ?k39 ?b_abs ?b_all ?b_bool ?b_dict ?b_enumerate ?b_int ?b_isinstance ?b_len ?b_list ?b_max ?b_min ?b_range ?b_set ?b_sorted ?b_str ?b_tuple ?b_type ?g_ALL ?g_DIRECT ?g_FLOOD ?g_MOST_FRAMES ?g_MOST_HOSTS ?g_MOST_LETTERS ?g_MOST_ROUNDS
    (case n0 => k_is)
    (case l0 => k_is)
    (case c0 => k_is)
    (case k0 => k_is)
    (case n1 => k_is)
    (case l1 => k_is)
    (case c1 => k_is)
    (case k1 => k_is)
    (case n2 => k_is)
    (case l2 => k_is)
    (case c2 => k_is)
    (case k2 => k_is)
    (case n3 => k_is)
    (case l3 => k_is)
    (case c3 => k_is)
    (case k3 => k_is)
    (case n4 => k_is)
    (case l4 => k_is)
    (case c4 => k_is)
    (case k4 => k_is)
    (case n5 => k_is)
    (case l5 => k_is)
    (case c5 => k_is)
    (case k5 => k_is)
    (case n6 => k_is)
    (case l6 => k_is)
    (case c6 => k_is)
    (case k6 => k_is)
    (case n7 => k_is)
    (case l7 => k_is)
    (case c7 => k_is)
    (case k7 => k_is)
    (case n8 => k_is)
    (case l8 => k_is)
    (case c8 => k_is)
    (case k8 => k_is)
    (case n9 => k_is)
    (case l9 => k_is)
    (case c9 => k_is)
    (case k9 => k_is)
    (case n10 => k_is)
    (case l10 => k_is)
    (case c10 => k_is)
    (case k10 => k_is)
    (case n11 => k_is)
    (case l11 => k_is)
    (case c11 => k_is)
    (case k11 => k_is)
    (case n12 => k_is)
    (case l12 => k_is)
    (case c12 => k_is)
    (case k12 => k_is)
    (case n13 => k_is)
    (case l13 => k_is)
    (case c13 => k_is)
    (case k13 => k_is)
    (case n14 => k_is)
    (case l14 => k_is)
    (case c14 => k_is)
    (case k14 => k_is)
    (case n15 => k_is)
    (case l15 => k_is)
    (case c15 => k_is)
    (case k15 => k_is)
    (case n16 => k_is)
    (case l16 => k_is)
    (case c16 => k_is)
    (case k16 => k_is)
    (case n17 => k_is)
    (case l17 => k_is)
    (case c17 => k_is)
    (case k17 => k_is)
    (case n18 => k_is)
    (case l18 => k_is)
    (case c18 => k_is)
    (case k18 => k_is)
    (case n19 => k_is)
    (case l19 => k_is)
    (case c19 => k_is)
    (case k19 => k_is)
    (case n20 => k_is)
    (case l20 => k_is)
    (case c20 => k_is)
    (case k20 => k_is)
    (case n21 => k_is)
    (case l21 => k_is)
    (case c21 => k_is)
    (case k21 => k_is)
    (case n22 => k_is)
    (case l22 => k_is)
    (case c22 => k_is)
    (case k22 => k_is)
    (case n23 => k_is)
    (case l23 => k_is)
    (case c23 => k_is)
    (case k23 => k_is)
    (case n24 => k_is)
    (case l24 => k_is)
    (case c24 => k_is)
    (case k24 => k_is)
    (case n25 => k_is)
    (case l25 => k_is)
    (case c25 => k_is)
    (case k25 => k_is)
    (case n26 => k_is)
    (case l26 => k_is)
    (case c26 => k_is)
    (case k26 => k_is)
    (case n27 => k_is)
    (case l27 => k_is)
    (case c27 => k_is)
    (case k27 => k_is)
    (case n28 => k_is)
    (case l28 => k_is)
    (case c28 => k_is)
    (case k28 => k_is)
    (case n29 => k_is)
    (case l29 => k_is)
    (case c29 => k_is)
    (case k29 => k_is)
    (case n30 => k_is)
    (case l30 => k_is)
    (case c30 => k_is)
    (case k30 => k_is)
    (case n31 => k_is)
    (case l31 => k_is)
    (case c31 => k_is)
    (case k31 => k_is)
    (case n32 => k_is)
    (case l32 => k_is)
    (case c32 => k_is)
    (case k32 => k_is)
    (case n33 => k_is)
    (case l33 => k_is)
    (case c33 => k_is)
    (case k33 => k_is)
    (case s33 => k_is)
    (case n34 => k_is)
    (case l34 => k_is)
    (case c34 => k_is)
    (case k34 => k_is)
    (case s34 => k_is)
    (case n35 => k_is)
    (case l35 => k_is)
    (case c35 => k_is)
    (case k35 => k_is)
    (case s35 => k_is)
    (case n36 => k_is)
    (case l36 => k_is)
    (case c36 => k_is)
    (case k36 => k_is)
    (case n37 => k_is)
    (case l37 => k_is)
    (case c37 => k_is)
    (case k37 => k_is)
    (case n38 => k_is)
    (case l38 => k_is)
    (case c38 => k_is)
    (case k38 => k_is)
    (case n39 => k_is)
    (case l39 => k_is)
    (case c39 => k_is)
    (case k39 => k_is)
    (case b_abs => k_is)
    (case b_all => k_is)
    (case b_bool => k_is)
    (case b_dict => k_is)
    (case b_enumerate => k_is)
    (case b_int => k_is)
    (case b_isinstance => k_is)
    (case b_len => k_is)
    (case b_list => k_is)
    (case b_max => k_is)
    (case b_min => k_is)
    (case b_range => k_is)
    (case b_set => k_is)
    (case b_sorted => k_is)
    (case b_str => k_is)
    (case b_tuple => k_is)
    (case b_type => k_is)
    (case g_ALL => k_is)
    (case g_DIRECT => k_is)
    (case g_FLOOD => k_is)
    (case g_MOST_FRAMES => k_is)
    (case g_MOST_HOSTS => k_is)
    (case g_MOST_LETTERS => k_is)
    (case g_MOST_ROUNDS => k_is)
#print axioms PySem.Challenge.cw_floodline_k14_loads_switch_by_switch_holds
