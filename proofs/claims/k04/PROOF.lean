import PyProof.Rows.All
import Wide.All
import OpenK.AllK
import Wide.FinOn
import HandS.ForMost
import HandS.IsInst
import HandS.More
import HandS.Style
import HandS.Zip
import HandS.Wide
import HandS.ListItems
import PyProof.ReprRoads
import PyProof.TypeEq
import HandS.Evl
import PyProof.ReprLen
import PyProof.Rows.StrJoinMade
import HandS.Ends
import HandS.SortRule
import PyProof.CallFns
import PySem.Challenge.RW_floodline_k04_lacking_hosts
set_option Elab.async false
set_option linter.all false
set_option maxRecDepth 100000
set_option maxHeartbeats 8000000
/-! Rules that the laws of this program want besides the layer's own. -/
namespace FL
open PySem PySem.Spec PyProof.Rows L2

/-! ### two classes of the language compared by == -/
def IsTy (n : String) : Prop := ∀ s : Shared, s.TypeIs (.type n) "type"
def rEqTy : R2 := fun x y H Q => ∃ a b, x = .ty a ∧ y = .ty b ∧ IsTy a ∧ IsTy b ∧ Q (.bl (decide (a = b))) H
section
variable {X : Cx}
theorem op_eqTy : OpR X (compareOp .Eq) rEqTy := by
  intro pins s σ H x y v u Q I rx ry h
  obtain ⟨a, b, rfl, rfl, ha, hb, q⟩ := h
  cases rx
  cases ry
  by_cases e : a = b
  · subst e
    exact TypeEq.eq_type_same ha ⟨.bl _, H, I, (by show Value.bool true = Value.bool _; rw [decide_eq_true rfl]), q⟩
  · refine TypeEq.eq_type_other ha hb ?_ ⟨.bl _, H, I, (by show Value.bool false = Value.bool _; rw [decide_eq_false e]), q⟩
    rw [Bool.eq_false_iff]
    intro z
    rw [beq_iff_eq] at z
    injection z with z
    exact e z

/-! ### list of a text -/
def signV (x : Str) : List V := x.cps.toList.map fun c => V.str ⟨#[c]⟩
def rListStr : List V → Hp → VK → Prop := fun xs H Q => ∃ x : Str, xs = [.str x] ∧ x.length ≤ sizeLine ∧ ∀ p, H p = none → Q (.ref p) (upd H p (.lst (signV x)))
theorem vals_at : ∀ {xs : List V} {us : List Value}, us.length = xs.length → (∀ (j : Nat) (u : Value), us[j]? = some u → ∃ x, xs[j]? = some x ∧ L2.RelV x u) → Vals xs us
  | [], [], _, _ => .nil
  | [], _ :: _, h, _ => by cases h
  | _ :: _, [], h, _ => by cases h
  | x :: xs, u :: us, h, hr => by
    refine .cons ?_ (vals_at (xs := xs) (us := us) (by simpa using h) fun j v e => by simpa using hr (j + 1) v (by simpa using e))
    obtain ⟨y, e, r⟩ := hr 0 u rfl
    cases e
    exact r
theorem call_listStr (hcalm : X.calm = true) : CallR X (.type "list") rListStr := by
  intro pins s σ H xs us Q I r q
  obtain ⟨x, ex, hz, q⟩ := q
  subst ex
  obtain ⟨u, eu, rx⟩ := vals1 r
  subst eu
  obtain ⟨t, rfl⟩ := rx
  refine call_list_str (I.ok.hd hcalm) x t (hn := hz) fun h' tk acc c' hk hD hacc => ?_
  have hv : Vals (signV x) acc.toList := vals_at (by rw [Array.length_toList, hacc.1]; simp [signV]) fun j v e => by
    obtain ⟨c, u, hc, rfl⟩ := hacc.2 j v (by rw [← Array.getElem?_toList]; exact e)
    exact ⟨.str ⟨#[c]⟩, by simp [signV, hc], _, rfl⟩
  refine ⟨.ref s.heap.objs.size, upd H s.heap.objs.size (.lst (signV x)), I.laid (t' := tk) hk (Nat.le_refl _)
    (show ObjOk X.prog X.w _ _ _ (.lst (signV x)) from ⟨by simp [signV]; exact hz, acc.toList, c', hv, by rw [Array.toArray_toList]; exact hD⟩), rfl, q _ (I.hok.fresh (Nat.le_refl _))⟩
end

/-! ### list(e.values()) -/
def rValsL : V → Hp → VK → Prop := fun x H Q => ∃ (d : Addr) (kvs : List (Key × V)), x = .ref d ∧ Rd H d (.dK kvs) ∧ ∀ p, H p = none → Q (.ref p) (upd H p (.lst (kvs.map (·.2))))
def tListValues (te : TE) : TE := fun σ H Q => te σ H fun x H1 => rValsL x H1 Q
theorem kv_snd : ∀ {kvs : List (Key × V)} {vs : List (Key × Value)}, KV kvs vs → Vals (kvs.map (·.2)) (vs.map (·.2))
  | [], [], _ => .nil
  | p :: kvs, q :: vs, .cons r t => .cons r.2 (kv_snd t)
section
variable {X : Cx} {e : Expr} {te : TE} {p apos cpos pos : Pos}
theorem pe_listValues (hcalm : X.calm = true) (he : PE X e te) (hg : Gl X "list") (hm : X.mg "list" = none) (hv : bootBuiltins "list" = some (.type "list"))
    (hbase : attributeBase e "values" X.env (eval e X.env) = eval e X.env := by rfl) (hline : (apos.endLine == cpos.line) = true := by rfl)
    (hs : starEach [.Call (.Attribute e "values" apos) [] [] cpos] X.env = (false, eval (.Call (.Attribute e "values" apos) [] [] cpos) X.env) :: starEach [] X.env := by rfl) :
    PE X (.Call (.Name "list" p) [.Call (.Attribute e "values" apos) [] [] cpos] [] pos) (tListValues te) := by
  refine ⟨fun pins s σ H Q I hq => wpAny_Call_Name_kw (ld_blt I hg hm hv (PyProof.Rows.callWith_type1 ?_ hs rfl))⟩
  rw [hs]
  show wpAny (model X.prog X.w) X.A (spliced ((false, eval (Expr.Call (Expr.Attribute e "values" apos) [] [] cpos) X.env) :: backTo pos (starEach [] X.env))) _ X.xe s
  refine Calls.spliced_cons (wpAny_Call_method (args := []) (T := "dict") (id := "dict.values") hbase rfl hline F.plainAttrs_dict F.slot_dict_values F.type_dict_values
    (thn (he.run pins s σ H _ I hq) fun u s1 ⟨x, H1, I1, rx, d, kvs, ex, hd, q⟩ => ?_))
  subst ex
  obtain rfl : u = Value.ref d := rx
  obtain ⟨hz, hs0, vs, kv, hdo⟩ : ObjOk X.prog X.w H1 s1.heap d (.dK kvs) := hd.elim (I1.hok d _) fun ⟨_, hq⟩ => (I1.hok d _ hq).2
  obtain ⟨ep, hat⟩ := hdo.dictAt
  have I2 : Inv X pins σ H1 { s1 with heap := s1.heap.push { cls := .type "dict_values", data := .fields #[.ref d] } } := I1.kept (t' := s1.toks) fun b ob w => Heap.get?_push_of_some _ w
  have lk : kvs.length = vs.length := Paired.length kv
  refine ⟨hdo.typeIs, hdo.mapOf.noDict, ?_⟩
  show wpAny (model X.prog X.w) X.A (callWith cpos (Value.builtin "dict.values") [Value.ref d] [] []) _ X.xe s1
  refine method_meetsIn F.slot_dict_values F.entry_dict_values rfl (PySem.evalArgs_none ⟨rfl, hdo.typeIs, F.args_dict_values_1 _, _, meets_dict_values (mixKind X.prog X.w) d hs0, ⟨vs, hdo⟩, Calls.spliced_nil ?_⟩)
  refine PySem.W.kdl_call (PySem.W.kdl_values (knd := mixKind X.prog X.w) (kvs := vs) (ep := ep)) (I1.ok.hd hcalm) ⟨⟨_, Heap.get?_push_size _ rfl, rfl, rfl⟩, hat.push _⟩ (by omega) fun h' tk acc c' hk hD hacc => ?_
  have ev : acc.toList = vs.map (·.2) := PySem.W.kdl_vals_eq acc.toList (by rw [Array.length_toList]; exact hacc.1) fun j v e => hacc.2 j v (by rw [← Array.getElem?_toList]; exact e)
  have hvv : Vals (kvs.map (·.2)) acc.toList := by rw [ev]; exact kv_snd kv
  refine ⟨.ref _, upd H1 _ (.lst (kvs.map (·.2))), I2.laid (t' := tk) hk (Nat.le_refl _) ?_, rfl, q _ (I2.hok.fresh (Nat.le_refl _))⟩
  exact ⟨by rw [List.length_map]; exact hz, acc.toList, c', hvv, by rw [Array.toArray_toList]; exact hD⟩
end
end FL
namespace FL
open PySem PySem.Spec PyProof.Rows L2

/-! ### nested data that stands in the abstract heap: none, bools, ints, texts, lists, tuples, dicts with int and text keys -/
def kD : Key → PyData
  | .inl i => .int i
  | .inr x => .str x
mutual
inductive Dt (H : Hp) : V → PyData → Prop
  | non : Dt H .non .none
  | bl (b : Bool) : Dt H (.bl b) (.bool b)
  | int (i : Int) : Dt H (.int i) (.int i)
  | str (x : Str) : Dt H (.str x) (.str x)
  | lst {a : Addr} {xs : List V} {ds : List PyData} (h : H a = some (.lst xs)) (hs : DtAll H xs ds) : Dt H (.ref a) (.list ds)
  | tup {a : Addr} {xs : List V} {ds : List PyData} (h : H a = some (.tup xs)) (hs : DtAll H xs ds) : Dt H (.ref a) (.tuple ds)
  | dct {a : Addr} {kvs : List (Key × V)} {ds : List (PyData × PyData)} (h : H a = some (.dK kvs)) (hs : DtKv H kvs ds) : Dt H (.ref a) (.dict ds)
inductive DtAll (H : Hp) : List V → List PyData → Prop
  | nil : DtAll H [] []
  | cons {v : V} {vs : List V} {d : PyData} {ds : List PyData} (h : Dt H v d) (t : DtAll H vs ds) : DtAll H (v :: vs) (d :: ds)
inductive DtKv (H : Hp) : List (Key × V) → List (PyData × PyData) → Prop
  | nil : DtKv H [] []
  | cons {k : Key} {v : V} {kvs : List (Key × V)} {d : PyData} {ds : List (PyData × PyData)} (h : Dt H v d) (t : DtKv H kvs ds) : DtKv H ((k, v) :: kvs) ((kD k, d) :: ds)
end
mutual
theorem Dt.mono {H H' : Hp} (e : Same H H') : ∀ {d : PyData} {v : V}, Dt H v d → Dt H' v d
  | .none, _, h => by cases h; exact .non
  | .bool b, _, h => by cases h; exact .bl b
  | .int i, _, h => by cases h; exact .int i
  | .str x, _, h => by cases h; exact .str x
  | .list ds, _, h => by
    cases h with
    | lst h hs => exact .lst (e _ _ h) (DtAll.mono e hs)
  | .tuple ds, _, h => by
    cases h with
    | tup h hs => exact .tup (e _ _ h) (DtAll.mono e hs)
  | .dict ds, _, h => by
    cases h with
    | dct h hs => exact .dct (e _ _ h) (DtKv.mono e hs)
theorem DtAll.mono {H H' : Hp} (e : Same H H') : ∀ {ds : List PyData} {vs : List V}, DtAll H vs ds → DtAll H' vs ds
  | [], _, h => by cases h; exact .nil
  | d :: ds, _, h => by
    cases h with
    | cons h t => exact .cons (Dt.mono e h) (DtAll.mono e t)
theorem DtKv.mono {H H' : Hp} (e : Same H H') : ∀ {ds : List (PyData × PyData)} {kvs : List (Key × V)}, DtKv H kvs ds → DtKv H' kvs ds
  | [], _, h => by cases h; exact .nil
  | (k, d) :: ds, _, h => by
    cases h with
    | cons h t => exact .cons (Dt.mono e h) (DtKv.mono e t)
end

section
variable {X : Cx} {pins : List (Addr × Obj)} {σ : L2.St} {H : Hp} {s : Shared}
mutual
theorem Dt.reads (I : L2.Inv X pins σ H s) : ∀ (d : PyData) (v : V) (u : Value), Dt H v d → L2.RelV v u → ∃ as, Reads s.heap u d as ∧ ∀ a ∈ as, (H a).isSome = true
  | .none, _, _, h, r => by
    cases h; cases r
    exact ⟨[], .none, fun _ z => nomatch z⟩
  | .bool b, _, _, h, r => by
    cases h; cases r
    exact ⟨[], .bool b, fun _ z => nomatch z⟩
  | .int i, _, _, h, r => by
    cases h; obtain ⟨t, rfl⟩ := r
    exact ⟨[], .int i t, fun _ z => nomatch z⟩
  | .str x, _, _, h, r => by
    cases h; obtain ⟨t, rfl⟩ := r
    exact ⟨[], .str x t, fun _ z => nomatch z⟩
  | .list ds, _, _, h, r => by
    cases h with
    | @lst a xs _ h hs =>
      cases r
      obtain ⟨its, rv, ⟨o, n, ho, hc, _, hd⟩, _⟩ := I.list (SqL.of h)
      obtain ⟨as, hr, hm⟩ := Dt.readsAll I ds _ its hs rv
      refine ⟨_, .list ho hc hd hr, fun b hb => ?_⟩
      rcases List.mem_cons.mp hb with e | hb
      · rw [e, h]; rfl
      · exact hm b hb
  | .tuple ds, _, _, h, r => by
    cases h with
    | @tup a xs _ h hs =>
      cases r
      obtain ⟨its, rv, ⟨o, ho, hc, n, hd⟩, _⟩ := I.tuple (SqT.of h)
      obtain ⟨as, hr, hm⟩ := Dt.readsAll I ds _ its hs rv
      exact ⟨_, .tuple ho hc hd hr, hm⟩
  | .dict ds, _, _, h, r => by
    cases h with
    | @dct a kvs _ h hs =>
      cases r
      obtain ⟨_, _, vs, kv, o, es, ep, ho, hx, hd, _, hp, _⟩ := I.hok a _ h
      obtain ⟨as, bs, h1, h2, m1, m2⟩ := Dt.readsKv I ds kvs vs es.toList hs kv hp
      refine ⟨_, .dict ho hx.1 hd h1 h2, fun b hb => ?_⟩
      rcases List.mem_append.mp hb with hb | hb
      · rcases List.mem_cons.mp hb with e | hb
        · rw [e, h]; rfl
        · exact m1 b hb
      · exact m2 b hb
theorem Dt.readsAll (I : L2.Inv X pins σ H s) : ∀ (ds : List PyData) (vs : List V) (us : List Value), DtAll H vs ds → Vals vs us → ∃ as, ReadsAll s.heap us ds as ∧ ∀ a ∈ as, (H a).isSome = true
  | [], _, _, h, r => by
    cases h; cases r
    exact ⟨[], .nil, fun _ z => nomatch z⟩
  | d :: ds, _, _, h, r => by
    cases h with
    | cons h t =>
      cases r with
      | cons r1 r2 =>
        obtain ⟨as, q1, m1⟩ := Dt.reads I d _ _ h r1
        obtain ⟨bs, q2, m2⟩ := Dt.readsAll I ds _ _ t r2
        exact ⟨_, .cons q1 q2, fun b hb => (List.mem_append.mp hb).elim (m1 b) (m2 b)⟩
theorem Dt.readsKv (I : L2.Inv X pins σ H s) : ∀ (ds : List (PyData × PyData)) (kvs : List (Key × V)) (vs : List (Key × Value)) (es : List DictEntry), DtKv H kvs ds → KV kvs vs → Pairs (mixKind X.prog X.w) es vs →
    ∃ as bs, ReadsAll s.heap (es.map (·.key)) (ds.map (·.1)) as ∧ ReadsAll s.heap (es.map (·.val)) (ds.map (·.2)) bs ∧ (∀ a ∈ as, (H a).isSome = true) ∧ ∀ a ∈ bs, (H a).isSome = true
  | [], _, _, _, h, r, p => by
    cases h; cases r; cases p
    exact ⟨[], [], .nil, .nil, by simp, by simp⟩
  | (_, d) :: ds, _, _, _, h, r, p => by
    cases h with
    | @cons k v kvs _ _ h t =>
      cases r with
      | cons r1 r2 =>
        cases p with
        | cons p1 p2 p3 =>
          obtain ⟨e1, rv⟩ := r1
          obtain ⟨as, bs, q1, q2, m1, m2⟩ := Dt.readsKv I ds _ _ _ t r2 p3
          obtain ⟨cs, q3, m3⟩ := Dt.reads I d v _ h rv
          rename_i _ _ en _
          have q4 : Reads s.heap en.key (kD k) [] := by
            rw [← e1] at p1
            rcases keyIs_shape p1 with ⟨i, t, e, f⟩ | ⟨x, t, e, f⟩
            · have e : k = Sum.inl i := e
              rw [e, f]; exact .int i t
            · have e : k = Sum.inr x := e
              rw [e, f]; exact .str x t
          refine ⟨[] ++ as, cs ++ bs, .cons q4 q1, .cons (by show Reads s.heap en.val d cs; rw [p2]; exact q3) q2, fun b hb => m1 b hb, fun b hb => (List.mem_append.mp hb).elim (m3 b) (m2 b)⟩
end
end

/-! ### repr of such data -/
/-- no repr is running; the place of sys.modules is the base's own -/
structure Grd (A : Around) (base : Heap) : Prop where
  g : A.guards = some []
  m : ∃ o, base.get? sysModules = some o
def rReprD : List V → Hp → VK → Prop := fun xs H Q => ∃ x d, xs = [x] ∧ (∃ a, x = .ref a) ∧ Dt H x d ∧ d.showable = true ∧ d.depth ≤ 60 ∧ d.shown.length ≤ sizeLine ∧ Q (.str d.shown) H
theorem call_reprD {X : Cx} (G : Grd X.A X.base) (hu : X.A.units + 64 < cLine) : CallR X (.builtin "repr") rReprD := by
  intro pins s σ H xs us Q I r h
  obtain ⟨_, d, rfl, ⟨a, rfl⟩, hd, hs, hdp, hsz, q⟩ := h
  obtain ⟨u, rfl, ru⟩ := vals1 r
  obtain ⟨as, rd, hm⟩ := Dt.reads I d _ _ hd ru
  cases ru
  obtain ⟨o, ho⟩ := G.m
  have hn : sysModules ∉ as := fun z => by
    have e := (I.bs _ _ ho).2
    have e2 := hm _ z
    rw [e] at e2
    cases e2
  exact repr_of_reads' rd hs (fun _ => hn) G.g (by omega) (fun _ _ e => e) (fun h' u tk hk => ⟨.str d.shown, H, I.kept hk, ⟨u, rfl⟩, q⟩) hsz
end FL
namespace FL
open PySem PySem.Spec PyProof.Rows L2

/-! ### defs that are called while no repr runs -/
structure FnOkG (P : Program) (w : World) (K : PySem.W.Frag) (mg : Str → Option Value) (base : Heap) (k : Nat) (f : Addr) (fd : FuncData) (ps : List Str) (sp : Sp) : Prop where
  len : ∀ vs H Q E, sp vs H Q E → vs.length = ps.length
  run : ∀ (A : Around) (outer : List Env) (s : Shared) (H : Hp) (args : Args) (us : List Value) (vs : List V) (Q : VK) (E : XK), Room k A → A.guards = some [] →
    Env0 P w K mg base A outer s H → BindsTo s fd args (ps.zip us) → Vals vs us → sp vs H Q E → codeAny (model P w) A (.call (.ref f) args) (CR CX0 outer P w H s Q E) s
section
variable {P : Program} {w : World} {K : PySem.W.Frag} {mg : Str → Option Value} {base : Heap}
theorem FnOkG.of {k : Nat} {f : Addr} {fd : FuncData} {ps : List Str} {sp : Sp} (F : FnOk P w K mg base CX0 k f fd ps sp) : FnOkG P w K mg base k f fd ps sp :=
  ⟨F.len, fun A outer s H args us vs Q E hr _ => F.run A outer s H args us vs Q E hr⟩
/-- a def by its body, where no repr is running -/
theorem okG {x qual : Str} {st : Stmt} {f : Addr} {fd : FuncData} {N ps : List Str} {k : Nat} {sp : Sp} (hm : ∃ o, base.get? sysModules = some o) (F : Fun K x qual st f fd) (S : FnScope N ps (defScope st)) (len : ∀ vs H Q E, sp vs H Q E → vs.length = ps.length)
    (body : ∀ (X : Cx), Grd X.A X.base → ∀ (cdv : Value) (A : Around) (outer : List Env) (s : Shared) (H : Hp) (vs : List V) (Q : VK) (E : XK), X = (cxOf CX0 P w K mg base N qual (defScope st) f cdv A outer s H E).nox → Room k X.A → sp vs H Q E →
      ∃ t, PSs X (defBody st) t ∧ t { nx := fun _ H' => Q .non H', rt := Q } (start N vs) H) : FnOkG P w K mg base (k + 1) f fd ps sp := by
  obtain ⟨oc, od, kV, doc, pm, an, cdv, ct, osl, rfl, lk, hcd⟩ := F.ex
  refine ⟨len, fun A outer s H args us vs Q E hr hg e0 hb r hsp => ?_⟩
  have kx : K.In s.heap := e0.mod.kin.keeps fun b o q => (e0.bs b o q).1
  have nl : s.heap.NoLimit := e0.mod.nolimit.keeps fun b o q => (e0.bs b o q).1
  refine codeAny_call_function hr.depth (kx _ _ lk) rfl S.co S.gen rfl (PySem.W.codeRec_of kx hcd) (hb _ _ _ _ ?_)
  refine wpAny_newFunctionEnv_cells S.kind (fun y hy => ?_) fun env he s1 z => ?_
  · rcases S.par y.1 (List.of_mem_zip hy).1 with q | q
    · exact .inl q
    · exact .inr ⟨q, PySem.W.cellsFrom_some _ _ _ (.inl q)⟩
  subst he
  refine ⟨nl.keeps z.toInCall.keep, codeAny_func ?_⟩
  obtain ⟨t, ht, hq⟩ := body _ ⟨hg, hm⟩ cdv A outer s H vs Q E rfl (hr.deeper _) hsp
  have I := inv_start (CX := CX0) (E := E) (mg := mg) S hr.hd e0 (len _ _ _ _ hsp) r z
  refine wpAny_mono (ht.nox.run [] s1 (start N vs) H _ I hq) (fun fl s' hs => ?_) fun e s' hs => hs
  cases fl with
  | ret u =>
    obtain ⟨v, σ', H', J, rv, q⟩ := hs
    exact ⟨v, H', J.os, J.bare, J.base, J.hok, rv, q⟩
  | next =>
    obtain ⟨σ', H', J, q⟩ := hs
    exact ⟨V.non, H', J.os, J.bare, J.base, J.hok, rfl, q⟩
  | brk => obtain ⟨_, _, _, q⟩ := hs; exact q.elim
  | cont => obtain ⟨_, _, _, q⟩ := hs; exact q.elim
end

/-! ### a def of the module by its name -/
/-- the def x keeps the promise sp, at level k -/
structure Dfn (P : Program) (w : World) (K : PySem.W.Frag) (mg : Str → Option Value) (base : Heap) (x : Str) (ps : List Str) (k : Nat) (sp : Sp) : Prop where
  ex : ∃ f fd, mg x = some (.ref f) ∧ PySem.W.keepIn K (.ref f) = true ∧ Binds K fd ps [] ∧ FnOk P w K mg base CX0 k f fd ps sp
structure DfnG (P : Program) (w : World) (K : PySem.W.Frag) (mg : Str → Option Value) (base : Heap) (x : Str) (ps : List Str) (k : Nat) (sp : Sp) : Prop where
  ex : ∃ f fd, mg x = some (.ref f) ∧ PySem.W.keepIn K (.ref f) = true ∧ Binds K fd ps [] ∧ FnOkG P w K mg base k f fd ps sp
/-- where a def of the module stands -/
structure At (K : PySem.W.Frag) (mg : Str → Option Value) (x : Str) (st : Stmt) (ps : List Str) : Prop where
  ex : ∃ f fd, mg x = some (.ref f) ∧ Fun K x x st f fd ∧ Binds K fd ps []
theorem At.mk' {K : PySem.W.Frag} {h : Heap} {mg : Str → Option Value} {x : Str} {st : Stmt} {ps : List Str} {f : Addr} {oc : Value} {od an : Option Addr} {osl : Array (Option Value)} {kV doc pm cdv ct : Value} (X : K.In h) (G : h.Ns mainGlobals mg)
    (n : PySem.W.nsIn K mainGlobals x = some (some (.ref f))) (l : K.lookup f = some ⟨oc, od, .func (PySem.W.fnOf x x (defArgs st) (defBody st) (defScope st) .none kV doc pm an cdv ct), osl⟩)
    (c : PySem.W.codeIn K cdv x = true) (k : PySem.W.keepIn K (.ref f) = true)
    (b : ∀ (kV doc pm : Value) (an : Option Addr) (cdv ct : Value) (us : List Value), us.length = ps.length → bindArgs (PySem.W.fnOf x x (defArgs st) (defBody st) (defScope st) .none kV doc pm an cdv ct) ⟨us, []⟩ = pure (ps.zip us)) : At K mg x st ps :=
  ⟨_, _, PySem.W.mg_of X G n, fun_mk l c k, (fun_mk l c k).binds b⟩
section
variable {P : Program} {w : World} {K : PySem.W.Frag} {mg : Str → Option Value} {base : Heap}
theorem dfn {x : Str} {st : Stmt} {N ps : List Str} {k : Nat} {sp : Sp} (D : At K mg x st ps) (S : FnScope N ps (defScope st)) (len : ∀ vs H Q E, sp vs H Q E → vs.length = ps.length)
    (body : ∀ (X : Cx) (f : Addr) (cdv : Value) (A : Around) (outer : List Env) (s : Shared) (H : Hp) (vs : List V) (Q : VK) (E : XK), X = (cxOf CX0 P w K mg base N x (defScope st) f cdv A outer s H E).nox → Room k X.A → sp vs H Q E →
      ∃ t, PSs X (defBody st) t ∧ t { nx := fun _ H' => Q .non H', rt := Q } (start N vs) H) : Dfn P w K mg base x ps (k + 1) sp := by
  obtain ⟨f, fd, hg, F, b⟩ := D.ex
  exact ⟨f, fd, hg, F.kp, b, F.ok S len fun cdv A outer s H vs Q E hr h => body _ f cdv A outer s H vs Q E rfl hr h⟩
theorem dfnG {x : Str} {st : Stmt} {N ps : List Str} {k : Nat} {sp : Sp} (hm : ∃ o, base.get? sysModules = some o) (D : At K mg x st ps) (S : FnScope N ps (defScope st)) (len : ∀ vs H Q E, sp vs H Q E → vs.length = ps.length)
    (body : ∀ (X : Cx), Grd X.A X.base → ∀ (f : Addr) (cdv : Value) (A : Around) (outer : List Env) (s : Shared) (H : Hp) (vs : List V) (Q : VK) (E : XK), X = (cxOf CX0 P w K mg base N x (defScope st) f cdv A outer s H E).nox → Room k X.A → sp vs H Q E →
      ∃ t, PSs X (defBody st) t ∧ t { nx := fun _ H' => Q .non H', rt := Q } (start N vs) H) : DfnG P w K mg base x ps (k + 1) sp := by
  obtain ⟨f, fd, hg, F, b⟩ := D.ex
  exact ⟨f, fd, hg, F.kp, b, okG hm F S len fun X g cdv A outer s H vs Q E e hr h => body X g f cdv A outer s H vs Q E e hr h⟩
end
section
variable {X : Cx} {k : Nat} {ps : List Str} {sp : Sp} {x : Str} {p pos : Pos} {e : Expr} {es : List Expr} {t : TA}
theorem pe_callD (D : Dfn X.prog X.w X.K X.mg X.base x ps k sp) (hr : Room k X.A) (hg : Gl X x) (ha : PA X (e :: es) t) (hdb : (x == ("__debug__" : Str)) = false := by decide)
    (he : starEach (e :: es) X.env = (false, eval e X.env) :: starEach es X.env := by rfl) (hpl : (backTo pos (starEach es X.env)).any (·.1) = false := by rfl) : PE X (.Call (.Name x p) (e :: es) [] pos) (tCall sp [] E0 t) := by
  obtain ⟨f, fd, hm, hk, hb, F⟩ := D.ex
  exact pe_call F hr hg hm hk hb .nil pass0 ha hdb he hpl
theorem pe_callD0 (D : Dfn X.prog X.w X.K X.mg X.base x ps k sp) (hr : Room k X.A) (hg : Gl X x) (hdb : (x == ("__debug__" : Str)) = false := by decide) : PE X (.Call (.Name x p) [] [] pos) (tCall sp [] E0 tNil) := by
  obtain ⟨f, fd, hm, hk, hb, F⟩ := D.ex
  exact pe_call0 F hr hg hm hk hb .nil pass0 hdb
/-- a def that says repr, called where no repr runs -/
theorem run_fnG {f : Addr} {fd : FuncData} {pins : List (Addr × Obj)} {σ : L2.St} {H : Hp} {s : Shared} {Q : VK} {us : List Value} {vs : List V} (F : FnOkG X.prog X.w X.K X.mg X.base k f fd ps sp) (g : X.A.guards = some []) (hr : Room k X.A) (hb : Binds X.K fd ps [])
    (I : L2.Inv X pins σ H s) (r : Vals vs us) (h : sp vs H Q E0) : wpAny (model X.prog X.w) X.A (call (.ref f) us) (EP X pins σ Q) X.xe s := by
  have hl : (us ++ []).length = ps.length := by rw [List.append_nil, ← r.length]; exact F.len _ _ _ _ h
  have hb2 := hb s us I.kIn hl
  rw [List.append_nil] at hb2
  refine wpAny_call (codeAny_mono (F.run X.A X.stack s H ⟨us, []⟩ us vs Q E0 hr g I.env0 hb2 r h) fun res s' hq => ?_)
  match res, hq with
  | .ok (.ret u), hq => exact I.after hq
theorem pe_callG (D : DfnG X.prog X.w X.K X.mg X.base x ps k sp) (g : X.A.guards = some []) (hr : Room k X.A) (hg : Gl X x) (ha : PA X (e :: es) t) (hdb : (x == ("__debug__" : Str)) = false := by decide)
    (he : starEach (e :: es) X.env = (false, eval e X.env) :: starEach es X.env := by rfl) (hpl : (backTo pos (starEach es X.env)).any (·.1) = false := by rfl) : PE X (.Call (.Name x p) (e :: es) [] pos) (tCall sp [] E0 t) := by
  obtain ⟨f, fd, hm, hk, hb, F⟩ := D.ex
  refine ⟨fun pins s σ H Q I h => wpAny_Call_Name_kw (ld_glob I hg hm ?_ hdb)⟩
  refine PySem.W.callWith_K (h₀ := X.base) I.ok.mod.kin hk (thn (ha.run pos pins s σ H _ I h) fun us s1 ⟨vs, H1, I1, r, q⟩ => ⟨I1.kIn, run_fnG F g hr hb I1 r ?_⟩) he hpl
  exact (congrArg (fun l => sp l H1 Q E0) (List.append_nil vs)).mp q
theorem pe_callG0 (D : DfnG X.prog X.w X.K X.mg X.base x ps k sp) (g : X.A.guards = some []) (hr : Room k X.A) (hg : Gl X x) (hdb : (x == ("__debug__" : Str)) = false := by decide) : PE X (.Call (.Name x p) [] [] pos) (tCall sp [] E0 tNil) := by
  obtain ⟨f, fd, hm, hk, hb, F⟩ := D.ex
  exact ⟨fun pins s σ H Q I h => wpAny_Call_Name_kw (ld_glob I hg hm (PySem.W.callWith_K0 I.kIn hk (run_fnG (us := []) (vs := []) F g hr hb I .nil h)) hdb)⟩
end
/-- an alternative of two rules -/
theorem PE.or {X : Cx} {e : Expr} {t u : TE} (h : PE X e t) (h' : PE X e u) : PE X e (fun σ H Q => t σ H Q ∨ u σ H Q) :=
  ⟨fun pins s σ H Q I q => q.elim (h.run pins s σ H Q I) (h'.run pins s σ H Q I)⟩
theorem pvl {X : Cx} (i : Nat) {x : Str} {pos : Pos} (hN : X.N[i]? = some x := by rfl) (hv : X.env.scope.names.lookup x = some .local := by rfl) (hd : (x == ("__debug__" : Str)) = false := by decide) (hcd : (x == ("__classdict__" : Str)) = false := by decide) : PE X (.Name x pos) (tVar i) := pe_var hN (.inl hv) hd hcd
theorem pvc {X : Cx} (i : Nat) {x : Str} {pos : Pos} (hN : X.N[i]? = some x := by rfl) (hv : X.env.scope.names.lookup x = some .cell := by rfl) (hd : (x == ("__debug__" : Str)) = false := by decide) (hcd : (x == ("__classdict__" : Str)) = false := by decide) : PE X (.Name x pos) (tVar i) := pe_var hN (.inr (.inl hv)) hd hcd
theorem pvf {X : Cx} (i : Nat) {x : Str} {pos : Pos} (hN : X.N[i]? = some x := by rfl) (hv : X.env.scope.names.lookup x = some .free := by rfl) (hd : (x == ("__debug__" : Str)) = false := by decide) (hcd : (x == ("__classdict__" : Str)) = false := by decide) : PE X (.Name x pos) (tVar i) := pe_var hN (.inr (.inr hv)) hd hcd

/-! ### operators by the values that come -/
section
variable {X : Cx}
def rAddS0 : R2 := fun x y H Q => ∃ i j, x = .str i ∧ y = .str j ∧ i.length + j.length ≤ sizeLine ∧ Q (.str (i ++ j)) H
def rAdd : R2 := fun x y H Q => rI0 (fun i j => .int (i + j)) x y H Q ∨ rAddS0 x y H Q ∨ rCat x y H Q
theorem opAdd : OpR X (binaryOp .Add) rAdd := op_add.or (op_add_str.or op_cat)
def rSub : R2 := rI0 fun i j => .int (i - j)
theorem opSub : OpR X (binaryOp .Sub) rSub := op_sub
def rMul : R2 := fun x y H Q => rI CMulW (fun i j => .int (i * j)) x y H Q ∨ rRep x y H Q
theorem opMul : OpR X (binaryOp .Mult) rMul := op_mulW.or op_rep
def rFdv : R2 := rI CDivW fun i j => .int (i / j)
theorem opFdv : OpR X (binaryOp .FloorDiv) rFdv := op_fdivW
def rMod : R2 := rI (fun _ j => 0 < j) fun i j => .int (i % j)
theorem opMod : OpR X (binaryOp .Mod) rMod := op_mod
def rPow : R2 := rI CPow fun i j => .int (i ^ j.toNat)
theorem opPow : OpR X (binaryOp .Pow) rPow := op_pow
def rLtA : R2 := fun x y H Q => rI0 (fun i j => .bl (decide (i < j))) x y H Q ∨ ∃ i j, x = .str i ∧ y = .str j ∧ Q (.bl (decide (i.cps.toList < j.cps.toList))) H
theorem opLt : OpR X (compareOp .Lt) rLtA := op_lt.or op_lt_str
def rLeA : R2 := fun x y H Q => rI0 (fun i j => .bl (decide (i ≤ j))) x y H Q ∨ ∃ i j, x = .str i ∧ y = .str j ∧ Q (.bl (!decide (j.cps.toList < i.cps.toList))) H
theorem opLe : OpR X (compareOp .LtE) rLeA := op_le.or op_le_str
def rGtA : R2 := fun x y H Q => rI0 (fun i j => .bl (decide (j < i))) x y H Q ∨ ∃ i j, x = .str i ∧ y = .str j ∧ Q (.bl (decide (j.cps.toList < i.cps.toList))) H
theorem opGt : OpR X (compareOp .Gt) rGtA := op_gt.or op_gt_str
def rGeA : R2 := fun x y H Q => rI0 (fun i j => .bl (decide (j ≤ i))) x y H Q ∨ ∃ i j, x = .str i ∧ y = .str j ∧ Q (.bl (!decide (i.cps.toList < j.cps.toList))) H
theorem opGe : OpR X (compareOp .GtE) rGeA := op_ge.or op_ge_str
def rEqA (K : PySem.W.Frag) : R2 := fun x y H Q => rEq x y H Q ∨ rEqD K x y H Q ∨ rEqTy x y H Q
theorem opEq (hu : X.A.units + 64 < cLine) : OpR X (compareOp .Eq) (rEqA X.K) := op_eq.or ((op_eqD hu).or op_eqTy)
def rNeA (K : PySem.W.Frag) : R2 := fun x y H Q => rNe x y H Q ∨ rNeD K x y H Q
theorem opNe (hu : X.A.units + 64 < cLine) : OpR X (compareOp .NotEq) (rNeA X.K) := op_ne.or (op_neD hu)
def rIs : R2 := fun x y H Q => (y = .non ∧ Q (.bl (decide (x = .non))) H) ∨ rIsB x y H Q
theorem opIs : OpR X (compareOp .Is) rIs := op_isN.or op_isBl
def rIsNot : R2 := fun x y H Q => (y = .non ∧ Q (.bl (!decide (x = .non))) H) ∨ rNotB x y H Q
theorem opIsNot : OpR X (compareOp .IsNot) rIsNot := op_notN.or op_notBl
end

/-! ### what stands in a comprehension's block, whatever the block's beginning is -/
abbrev Bk (α : Type) : Type := Shared → Hp → Addr → List (Str × Addr) → List Addr → α
def tAllE (t : Bk TE) : TE := fun σ H Q => ∀ s H0 C cl fp, t s H0 C cl fp σ H Q
def tAllT (t : Bk TT) : TT := fun σ H Q => ∀ s H0 C cl fp, t s H0 C cl fp σ H Q
def tAllG (t : Bk TG) : TG := fun v σ H Q => ∀ s H0 C cl fp, t s H0 C cl fp v σ H Q
section
variable {X : Cx} {scope : Scope} {e : Expr} {es : List Expr}
theorem blk_e {t : Bk TE} (h : ∀ s H C cl fp, PE (X.blk s H scope (compEnvC scope cl C X.env) fp) e (t s H C cl fp)) : ∀ s H C cl fp, PE (X.blk s H scope (compEnvC scope cl C X.env) fp) e (tAllE t) :=
  fun s H C cl fp => ⟨fun pins sh σ H' Q I q => (h s H C cl fp).run pins sh σ H' Q I (q s H C cl fp)⟩
theorem blk_t {t : Bk TT} (h : ∀ s H C cl fp, PTs (X.blk s H scope (compEnvC scope cl C X.env) fp) es (t s H C cl fp)) : ∀ s H C cl fp, PTs (X.blk s H scope (compEnvC scope cl C X.env) fp) es (tAllT t) :=
  fun s H C cl fp => ⟨fun pins sh σ H' Q I q => (h s H C cl fp).run pins sh σ H' Q I (q s H C cl fp)⟩
theorem blk_g {t : Bk TG} (h : ∀ s H C cl fp, PG (X.blk s H scope (compEnvC scope cl C X.env) fp) e (t s H C cl fp)) : ∀ s H C cl fp, PG (X.blk s H scope (compEnvC scope cl C X.env) fp) e (tAllG t) :=
  fun s H C cl fp => ⟨fun pins sh σ H' v u Q I r q => (h s H C cl fp).run pins sh σ H' v u Q I r (q s H C cl fp)⟩
end
end FL
namespace FL
open PySem PySem.Spec PyProof.Rows L2

/-! ### the ledger: F, what is never changed any more; L, the objects at hand, each by its content -/
structure Led (H F : Hp) (L : List (Addr × HO)) : Prop where
  ext : Same F H
  ent : ∀ x ∈ L, H x.1 = some x.2 ∧ F x.1 = none
  nd : (L.map (·.1)).Nodup
section
variable {H F : Hp} {L : List (Addr × HO)} {a p : Addr} {o u : HO}
theorem Led.same0 (H : Hp) : Led H H [] := ⟨Same.refl H, by simp, by simp⟩
theorem Led.get (D : Led H F L) (i : Nat) (h : L[i]? = some (a, o) := by rfl) : H a = some o := (D.ent _ (List.mem_of_getElem? h)).1
theorem Led.off (D : Led H F L) (i : Nat) (h : L[i]? = some (a, o) := by rfl) : F a = none := (D.ent _ (List.mem_of_getElem? h)).2
theorem Led.frz (D : Led H F L) (h : F a = some o) : H a = some o := D.ext _ _ h
theorem Led.fresh (D : Led H F L) (hp : H p = none) : p ∉ L.map (·.1) := fun z => by
  obtain ⟨x, hx, e⟩ := List.mem_map.mp z
  have q := (D.ent x hx).1
  rw [e, hp] at q
  cases q
/-- a new object at hand -/
theorem Led.new (D : Led H F L) (hp : H p = none) : Led (upd H p o) F ((p, o) :: L) := by
  have hf : F p = none := D.ext.free hp
  refine ⟨fun b x e => ?_, fun x hx => ?_, ?_⟩
  · rw [upd_ne (ne_of_none e hf)]; exact D.ext b x e
  · rcases List.mem_cons.mp hx with rfl | hx
    · exact ⟨upd_same, hf⟩
    · obtain ⟨q1, q2⟩ := D.ent x hx
      exact ⟨by rw [upd_ne (ne_of_none q1 hp)]; exact q1, q2⟩
  · exact List.nodup_cons.mpr ⟨D.fresh hp, D.nd⟩
theorem Led.freeze (D : Led H F ((a, o) :: L)) : Led H (upd F a o) L := by
  have h := D.ent (a, o) List.mem_cons_self
  have nd := List.nodup_cons.mp D.nd
  refine ⟨fun b x e => ?_, fun x hx => ?_, nd.2⟩
  · by_cases hb : b = a
    · subst hb; rw [upd_same] at e; cases e; exact h.1
    · rw [upd_ne hb] at e; exact D.ext b x e
  · obtain ⟨q1, q2⟩ := D.ent x (List.mem_cons_of_mem _ hx)
    exact ⟨q1, by rw [upd_ne (fun z => nd.1 (by rw [← z]; exact List.mem_map.mpr ⟨x, hx, rfl⟩))]; exact q2⟩
theorem Led.newF (D : Led H F L) (hp : H p = none) : Led (upd H p o) (upd F p o) L := (D.new hp).freeze
theorem Led.grow (D : Led H F ((a, o) :: L)) : Same F (upd F a o) := fun b x e => by
  rw [upd_ne (ne_of_none e (D.ent (a, o) List.mem_cons_self).2)]; exact e
theorem Led.drop (D : Led H F ((a, o) :: L)) : Led H F L := ⟨D.ext, fun x hx => D.ent x (List.mem_cons_of_mem _ hx), (List.nodup_cons.mp D.nd).2⟩
theorem Led.swap (D : Led H F ((a, o) :: (p, u) :: L)) : Led H F ((p, u) :: (a, o) :: L) :=
  ⟨D.ext, fun x hx => D.ent x (by
    rcases List.mem_cons.mp hx with rfl | hx
    · exact List.mem_cons_of_mem _ List.mem_cons_self
    · rcases List.mem_cons.mp hx with rfl | hx
      · exact List.mem_cons_self
      · exact List.mem_cons_of_mem _ (List.mem_cons_of_mem _ hx)), by
    have h := D.nd
    simp only [List.map_cons, List.nodup_cons, List.mem_cons, not_or] at h ⊢
    exact ⟨⟨fun e => h.1.1 e.symm, h.2.1⟩, h.1.2, h.2.2⟩⟩
theorem Led.perm {L' : List (Addr × HO)} (D : Led H F L) (h : L'.Perm L) : Led H F L' := ⟨D.ext, fun x hx => D.ent x (h.mem_iff.mp hx), (h.map _).nodup_iff.mpr D.nd⟩
/-- the i-th object at hand is written -/
theorem Led.set (D : Led H F L) (i : Nat) (h : L[i]? = some (a, o) := by rfl) : Led (upd H a u) F (L.set i (a, u)) := by
  obtain ⟨hi, e⟩ := List.getElem?_eq_some_iff.mp h
  have hm : (a, o) ∈ L := List.mem_of_getElem? h
  have key : ∀ (j : Nat) (hj : j < L.length), L[j].1 = a → j = i := fun j hj q => by
    have n := D.nd
    have e1 : (L.map (·.1))[j]'(by simpa using hj) = (L.map (·.1))[i]'(by simpa using hi) := by
      rw [List.getElem_map, List.getElem_map, q, e]
    exact (List.getElem_inj n).mp e1
  refine ⟨fun b x q => ?_, fun x hx => ?_, ?_⟩
  · rw [upd_ne (ne_of_none q (D.ent _ hm).2)]; exact D.ext b x q
  · obtain ⟨j, hj, q⟩ := List.mem_iff_getElem.mp hx
    rw [List.getElem_set] at q
    by_cases hji : i = j
    · rw [if_pos hji] at q
      subst q
      exact ⟨upd_same, (D.ent _ hm).2⟩
    · rw [if_neg hji] at q
      have hj' : j < L.length := by simpa using hj
      have hx2 : x ∈ L := by rw [← q]; exact List.getElem_mem hj'
      obtain ⟨q1, q2⟩ := D.ent x hx2
      refine ⟨?_, q2⟩
      rw [upd_ne (fun z => hji (key j hj' (by rw [q]; exact z)).symm)]
      exact q1
  · have hm2 : (L.set i (a, u)).map (·.1) = L.map (·.1) := by
      refine List.ext_getElem? fun j => ?_
      rw [List.getElem?_map, List.getElem?_set, List.getElem?_map]
      by_cases hji : i = j
      · subst hji
        rw [if_pos rfl, if_pos hi, h]; rfl
      · rw [if_neg hji]
    rw [hm2]; exact D.nd
/-- forms that the readings ask -/
theorem new_loc (D : Led H F L) {Q : VK} (k : ∀ p H', H p = none → Led H' F ((p, o) :: L) → Q (.ref p) H') : ∀ p, H p = none → Q (.ref p) (upd H p o) := fun p hp => k p _ hp (D.new hp)
theorem new_frz (D : Led H F L) {Q : VK} (k : ∀ p F' H', H p = none → Same F F' → F' p = some o → Led H' F' L → Q (.ref p) H') : ∀ p, H p = none → Q (.ref p) (upd H p o) :=
  fun p hp => k p _ _ hp (D.new hp).grow upd_same (D.newF hp)
end
end FL
namespace FL
open PySem PySem.Spec PyProof.Rows L2

/-! ### readings, one construct at a time -/
section
variable {σ : L2.St} {H : Hp} {Q : VK} {i j : Nat} {v x y : V} {ta tb tc te : TE} {D : Ends} {K : PySem.W.Frag}
theorem y_var (e : σ[i]? = some (some v)) (q : Q v H) : tVar i σ H Q := ⟨v, e, q⟩
theorem y_c (q : Q v H) : tC v σ H Q := q
theorem y_op {r : R2} (q : ta σ H fun x H1 => tb σ H1 fun y H2 => r x y H2 Q) : tOp r ta tb σ H Q := q
theorem y_neg {n : Int} (q : Q (.int (-n)) H) : rU (fun i => V.int (-i)) (.int n) H Q := ⟨n, rfl, q⟩
theorem y_un {r : V → Hp → VK → Prop} (q : ta σ H fun x H1 => r x H1 Q) : tUn r ta σ H Q := q
/-- and, or, not of bools -/
def andK (x : V) (A B : Prop) : Prop := ∃ c, x = .bl c ∧ if c = true then A else B
theorem y_andV (q : ta σ H fun x H1 => andK x (tb σ H1 Q) (Q (.bl false) H1)) : tAndV ta tb σ H Q := q
theorem y_orV (q : ta σ H fun x H1 => andK x (Q (.bl true) H1) (tb σ H1 Q)) : tOrV ta tb σ H Q := q
theorem andK_t {A B : Prop} (q : A) : andK (.bl true) A B := ⟨true, rfl, iteT q⟩
theorem andK_f {A B : Prop} (q : B) : andK (.bl false) A B := ⟨false, rfl, iteF q⟩
theorem andK_b {A B : Prop} {b : Bool} (h1 : b = true → A) (h2 : b = false → B) : andK (.bl b) A B := by
  cases b with
  | true => exact andK_t (h1 rfl)
  | false => exact andK_f (h2 rfl)
/-- a bool's, an int's use -/
def tk (x : V) (R : Bool → Prop) : Prop := ∃ c, x = .bl c ∧ R c
def ik (x : V) (R : Int → Prop) : Prop := ∃ c, x = .int c ∧ R c
theorem tkK {b : Bool} {R : Bool → Prop} (q : R b) : tk (.bl b) R := ⟨b, rfl, q⟩
theorem ikK {b : Int} {R : Int → Prop} (q : R b) : ik (.int b) R := ⟨b, rfl, q⟩
theorem y_notV (q : ta σ H fun x H1 => tk x fun c => Q (.bl (!c)) H1) : tNotV ta σ H Q := q
/-- a test's answer -/
theorem y_tB {R : Bool → Hp → Prop} (q : te σ H fun x H1 => tk x fun c => R c H1) : tB te σ H R := q
theorem y_tTest {R : Bool → Hp → Prop} (q : te σ H fun x H1 => tk x fun c => R c H1) : tTest te σ H R := q
theorem y_tNot {t : TT} {R : Bool → Hp → Prop} (q : t σ H fun c H1 => R (!c) H1) : tNot t σ H R := q
theorem y_tAnd {t u : TT} {R : Bool → Hp → Prop} (q : t σ H fun c H1 => if c = true then u σ H1 R else R false H1) : tAnd t u σ H R := q
theorem y_tOr {t u : TT} {R : Bool → Hp → Prop} (q : t σ H fun c H1 => if c = true then R true H1 else u σ H1 R) : tOr t u σ H R := q
theorem y_tIf {t : TT} (q : t σ H fun c H1 => if c = true then ta σ H1 Q else tb σ H1 Q) : tIf t ta tb σ H Q := q
theorem y_chain {r r' : R2} (q : ta σ H fun x H1 => tb σ H1 fun y H2 => r x y H2 fun z H3 => andK z (tc σ H3 fun w' H4 => r' y w' H4 Q) (Q (.bl false) H3)) : tChain r r' ta tb tc σ H Q := q
/-- argument lists, displays -/
theorem y_nil {R : List V → Hp → Prop} (q : R [] H) : tNil σ H R := q
theorem y_cons {tr : TA} {R : List V → Hp → Prop} (q : ta σ H fun x H1 => tr σ H1 fun xs H2 => R (x :: xs) H2) : tCons ta tr σ H R := q
theorem y_lst {t : TA} (q : t σ H fun xs H1 => xs.length ≤ sizeLine ∧ ∀ p, H1 p = none → Q (.ref p) (upd H1 p (.lst xs))) : tLst t σ H Q := q
theorem y_tup {t : TA} (q : t σ H fun xs H1 => xs.length ≤ sizeLine ∧ ∀ p, H1 p = none → Q (.ref p) (upd H1 p (.tup xs))) : tTup t σ H Q := q
theorem y_cb {t : TA} {r : List V → Hp → VK → Prop} (q : t σ H fun vs H1 => r vs H1 Q) : tCB r t σ H Q := q
theorem y_call {t : TA} {sp : Sp} {E : XK} (q : t σ H fun vs H1 => sp vs H1 Q E) : tCall sp [] E t σ H Q := by
  have e : ∀ vs : List V, vs ++ [] = vs := fun vs => List.append_nil vs
  show t σ H fun vs H1 => sp (vs ++ []) H1 Q E
  simp only [e]
  exact q
theorem y_slice {r : V → Option Int → Option Int → Hp → VK → Prop} {tl th : TO} (q : te σ H fun x H1 => tl σ H1 fun l H2 => th σ H2 fun u H3 => r x l u H3 Q) : tSl r te tl th σ H Q := q
theorem y_part {R : Option Int → Hp → Prop} (q : te σ H fun x H1 => ik x fun i => R (some i) H1) : tPart te σ H R := q
theorem y_nopart {R : Option Int → Hp → Prop} (q : R none H) : tNoPart σ H R := q
theorem y_bm {T : String} {r : V → List V → Hp → VK → Prop} {t : TA} (q : te σ H fun x H1 => tyV K T x H1 ∧ t σ H1 fun xs H2 => r x xs H2 Q) : tBM K T r te t σ H Q := q
theorem y_bm0 {T : String} {r : V → List V → Hp → VK → Prop} (q : te σ H fun x H1 => tyV K T x H1 ∧ r x [] H1 Q) : tBM0 K T r te σ H Q := q
theorem y_dget (q : ta σ H fun x H1 => tb σ H1 fun y H2 => ∃ a v, x = .ref a ∧ DGet H2 a y (some v) ∧ Q v H2) : tDGet ta tb σ H Q := q
theorem y_din (q : ta σ H fun y H1 => tb σ H1 fun x H2 => ∃ a o, x = .ref a ∧ DGet H2 a y o ∧ Q (.bl o.isSome) H2) : tDIn ta tb σ H Q := q
theorem y_dnotin (q : ta σ H fun y H1 => tb σ H1 fun x H2 => ∃ a o, x = .ref a ∧ DGet H2 a y o ∧ Q (.bl (!o.isSome)) H2) : tDNotIn ta tb σ H Q := q
theorem y_dnew (q : ∀ p, H p = none → Q (.ref p) (upd H p (.dK []))) : tDNewK σ H Q := q
/-! ### statements -/
variable {t u : TS} {g : TG}
theorem y_seq (q : t { D with nx := u D } σ H) : tSeq t u D σ H := q
theorem y_next (q : D.nx σ H) : tNext D σ H := q
theorem y_ret (q : te σ H D.rt) : tRet te D σ H := q
theorem y_retN (q : D.rt .non H) : tRetN D σ H := q
theorem y_drop (q : te σ H fun _ H1 => D.nx σ H1) : tDrop te D σ H := q
theorem y_if {c : TT} (q : c σ H fun b H1 => if b = true then t D σ H1 else u D σ H1) : tIfS c t u D σ H := q
theorem y_asg (q : te σ H fun x H1 => g x σ H1 D.nx) : tAsg te g D σ H := q
theorem y_gname {R : L2.St → Hp → Prop} {σ' : L2.St} (e : σ.set i (some v) = σ') (q : R σ' H) : gName i v σ H R := by subst e; exact q
theorem y_gsub {s : TSet} {R : L2.St → Hp → Prop} (q : ta σ H fun o H1 => tb σ H1 fun k H2 => s o k v H2 fun H3 => R σ H3) : gSub ta tb s v σ H R := q
theorem y_par3 {k : Nat} {t : TA} (q : t σ H fun vs H1 => ∃ u v w, vs = [u, v, w] ∧ D.nx (((σ.set i (some u)).set j (some v)).set k (some w)) H1) : tPar3 i j k t D σ H := q
theorem y_par {t : TA} (q : t σ H fun vs H1 => ∃ v w, vs = [v, w] ∧ D.nx ((σ.set i (some v)).set j (some w)) H1) : tPar i j t D σ H := q
theorem y_dput (q : te σ H fun v H1 => ta σ H1 fun x H2 => tb σ H2 fun y H3 => ∃ a H4, x = .ref a ∧ DPut H3 a y v H4 ∧ D.nx σ H4) : sDPut ta tb te D σ H := q

/-! ### operators on values -/
variable {a b n m : Int} {z w' : Str} {p : Addr} {xs ys : List V} {F : Hp} {L : List (Addr × HO)}
theorem r_add (q : Q (.int (a + b)) H) : rAdd (.int a) (.int b) H Q := .inl ⟨a, b, rfl, rfl, q⟩
theorem r_addS (hl : z.length + w'.length ≤ sizeLine) (q : Q (.str (z ++ w')) H) : rAdd (.str z) (.str w') H Q := .inr (.inl ⟨z, w', rfl, rfl, hl, q⟩)
theorem r_addL {l c : Addr} (h1 : H l = some (.lst xs)) (h2 : H c = some (.lst ys)) (hl : xs.length + ys.length ≤ sizeLine) (q : ∀ p, H p = none → Q (.ref p) (upd H p (.lst (xs ++ ys)))) : rAdd (.ref l) (.ref c) H Q :=
  .inr (.inr ⟨l, c, xs, ys, rfl, rfl, h1, h2, hl, q⟩)
theorem r_sub (q : Q (.int (a - b)) H) : rSub (.int a) (.int b) H Q := ⟨a, b, rfl, rfl, q⟩
theorem r_mul (h : CMulW a b) (q : Q (.int (a * b)) H) : rMul (.int a) (.int b) H Q := .inl ⟨a, b, rfl, rfl, h, q⟩
theorem r_mulL {l : Addr} (h1 : H l = some (.lst xs)) (h2 : -(2 ^ 63) ≤ n) (h3 : n < 2 ^ 63) (hl : xs.length * n.toNat ≤ sizeLine) (q : ∀ p, H p = none → Q (.ref p) (upd H p (.lst (List.replicate n.toNat xs).flatten))) : rMul (.ref l) (.int n) H Q :=
  .inr ⟨l, n, xs, rfl, rfl, h1, h2, h3, hl, q⟩
theorem r_fdv (h : CDivW a b) (q : Q (.int (a / b)) H) : rFdv (.int a) (.int b) H Q := ⟨a, b, rfl, rfl, h, q⟩
theorem r_mod (h : 0 < b) (q : Q (.int (a % b)) H) : rMod (.int a) (.int b) H Q := ⟨a, b, rfl, rfl, h, q⟩
theorem r_pow (h : CPow a b) (q : Q (.int (a ^ b.toNat)) H) : rPow (.int a) (.int b) H Q := ⟨a, b, rfl, rfl, h, q⟩
theorem r_lt (q : Q (.bl (decide (a < b))) H) : rLtA (.int a) (.int b) H Q := .inl ⟨a, b, rfl, rfl, q⟩
theorem r_le (q : Q (.bl (decide (a ≤ b))) H) : rLeA (.int a) (.int b) H Q := .inl ⟨a, b, rfl, rfl, q⟩
theorem r_gt (q : Q (.bl (decide (b < a))) H) : rGtA (.int a) (.int b) H Q := .inl ⟨a, b, rfl, rfl, q⟩
theorem r_ge (q : Q (.bl (decide (b ≤ a))) H) : rGeA (.int a) (.int b) H Q := .inl ⟨a, b, rfl, rfl, q⟩
theorem r_leS (q : Q (.bl (!decide (w'.cps.toList < z.cps.toList))) H) : rLeA (.str z) (.str w') H Q := .inr ⟨z, w', rfl, rfl, q⟩
theorem r_eq (h : scal x y = true) (q : Q (.bl (decide (x = y))) H) : rEqA K x y H Q := .inl ⟨h, q⟩
theorem r_ne (h : scal x y = true) (q : Q (.bl (!decide (x = y))) H) : rNeA K x y H Q := .inl ⟨h, q⟩
theorem r_eqD {d e : PyData} (h1 : Dp K H x d) (h2 : Dp K H y e) (s1 : SeqAt.shaped d = true) (s2 : SeqAt.shaped e = true) (q : Q (.bl (PyData.eqv d e)) H) : rEqA K x y H Q := .inr (.inl ⟨d, e, h1, h2, s1, s2, q⟩)
theorem r_neD {d e : PyData} (h1 : Dp K H x d) (h2 : Dp K H y e) (s1 : SeqAt.shaped d = true) (s2 : SeqAt.shaped e = true) (q : Q (.bl (!PyData.eqv d e)) H) : rNeA K x y H Q := .inr ⟨d, e, h1, h2, s1, s2, q⟩
theorem r_eqT {s t : String} (h1 : IsTy s) (h2 : IsTy t) (q : Q (.bl (decide (s = t))) H) : rEqA K (.ty s) (.ty t) H Q := .inr (.inr ⟨s, t, rfl, rfl, h1, h2, q⟩)
theorem r_isN (q : Q (.bl (decide (x = .non))) H) : rIs x .non H Q := .inl ⟨rfl, q⟩
theorem r_isB {c e : Bool} (q : Q (.bl (decide (c = e))) H) : rIs (.bl c) (.bl e) H Q := .inr ⟨c, e, rfl, rfl, q⟩
theorem r_notN (q : Q (.bl (!decide (x = .non))) H) : rIsNot x .non H Q := .inl ⟨rfl, q⟩
theorem r_notB {c e : Bool} (q : Q (.bl (!decide (c = e))) H) : rIsNot (.bl c) (.bl e) H Q := .inr ⟨c, e, rfl, rfl, q⟩
theorem r_ixL (h : SqL K H p xs) (e : atI xs n = some v) (q : Q v H) : rIx K (.ref p) (.int n) H Q := .inl ⟨p, xs, n, v, rfl, rfl, h, e, q⟩
theorem r_ixT (h : SqT K H p xs) (e : atI xs n = some v) (q : Q v H) : rIx K (.ref p) (.int n) H Q := .inr (.inl ⟨p, xs, n, v, rfl, rfl, h, e, q⟩)
theorem at_nat {α : Type} {l : List α} {k : Nat} {c : α} (h : l[k]? = some c) : atI l (k : Int) = some c := by
  have hk := (List.getElem?_eq_some_iff.mp h).1
  unfold atI ixN
  rw [if_pos (by omega), if_pos (by omega)]
  simpa using h
theorem ite_b {A B : Prop} {c : Bool} (h1 : c = true → A) (h2 : c = false → B) : if c = true then A else B := by
  cases c with
  | true => exact iteT (h1 rfl)
  | false => exact iteF (h2 rfl)
theorem ite_is {A B : Prop} {c : Bool} (e : c = true) (h : A) : if c = true then A else B := by rw [if_pos e]; exact h
theorem ite_no {A B : Prop} {c : Bool} (e : c = false) (h : B) : if c = true then A else B := by rw [e]; exact iteF h

/-! ### values of any kind -/
inductive Ar (H : Hp) : V → String → Prop
  | non : Ar H .non "NoneType"
  | bl (b : Bool) : Ar H (.bl b) "bool"
  | int (i : Int) : Ar H (.int i) "int"
  | str (x : Str) : Ar H (.str x) "str"
  | lst {a : Addr} {xs : List V} (h : H a = some (.lst xs)) : Ar H (.ref a) "list"
  | tup {a : Addr} {xs : List V} (h : H a = some (.tup xs)) : Ar H (.ref a) "tuple"
  | dK {a : Addr} {kvs : List (Key × V)} (h : H a = some (.dK kvs)) : Ar H (.ref a) "dict"
theorem Ar.tyx {s : String} (h : Ar H x s) : TyX K H x (.type s) := by
  cases h with
  | non => exact .base .non
  | bl b => exact .base (.bl b)
  | int i => exact .base (.int i)
  | str x => exact .base (.str x)
  | lst h => exact .base (.lst h)
  | tup h => exact .base (.tup h)
  | dK h => exact .base (.dK h)
theorem Ar.tyb {s : String} (h : Ar H x s) : TyB K H x s := by
  cases h with
  | non => exact .non
  | bl b => exact .bl b
  | int i => exact .int i
  | str x => exact .str x
  | lst h => exact .lst (SqL.of h)
  | tup h => exact .tup (SqT.of h)
  | dK h => exact .dK h
theorem Ar.isTy {s : String} (h : Ar H x s) : IsTy s := by
  cases h with
  | non => exact TypeEq.meta_NoneType
  | bl b => exact TypeEq.meta_bool
  | int i => exact TypeEq.meta_int
  | str x => exact TypeEq.meta_str
  | lst h => exact TypeEq.meta_list
  | tup h => exact TypeEq.meta_tuple
  | dK h => exact TypeEq.meta_dict
def isT (s t : String) : Bool := decide (s = t) || (decide (s = "bool") && decide (t = "int"))
theorem kit_all : ∀ s ∈ ["NoneType", "bool", "int", "str", "list", "tuple", "dict"], ∀ t ∈ ["int", "bool", "str", "dict", "list", "tuple"], kitB s t = some (isT s t) := by decide +kernel
theorem Ar.mem {s : String} (h : Ar H x s) : s ∈ ["NoneType", "bool", "int", "str", "list", "tuple", "dict"] := by cases h <;> simp
theorem r_isi {s t : String} (h : Ar H x s) (ht : t ∈ ["int", "bool", "str", "dict", "list", "tuple"]) (q : Q (.bl (isT s t)) H) : rIsi K [x, .ty t] H Q :=
  ⟨x, .ty t, .type s, .type t, _, rfl, .ty t, h.tyx, kit_ty (kit_all s h.mem t ht), q⟩
theorem y_start {t : TS} {N : List Str} {vs : List V} {σ' : L2.St} (e : L2.start N vs = σ') (q : t D σ' H) : t D (L2.start N vs) H := by rw [e]; exact q
theorem r_typ {s : String} (h : Ar H x s) (q : Q (.ty s) H) : rTyp K [x] H Q := ⟨x, s, rfl, h.tyb, q⟩
theorem Ar.isStr {s : String} (h : Ar H x s) (e : isT s "str" = true) : ∃ z, x = .str z := by
  cases h <;> first | exact ⟨_, rfl⟩ | exact absurd e (by decide)
theorem Ar.isTup {s : String} (h : Ar H x s) (e : isT s "tuple" = true) : ∃ t xs, x = .ref t ∧ H t = some (.tup xs) := by
  cases h <;> first | exact ⟨_, _, rfl, by assumption⟩ | exact absurd e (by decide)
theorem Ar.isLst {s : String} (h : Ar H x s) (e : isT s "list" = true) : ∃ t xs, x = .ref t ∧ H t = some (.lst xs) := by
  cases h <;> first | exact ⟨_, _, rfl, by assumption⟩ | exact absurd e (by decide)
theorem iteNT {A B : Prop} (h : B) : if (!true) = true then A else B := by rw [Bool.not_true]; exact iteF h
theorem iteNF {A B : Prop} (h : A) : if (!false) = true then A else B := by rw [Bool.not_false]; exact iteT h
theorem Ar.noStr {s : String} (h : Ar H x s) (e : isT s "str" = false) (z : Str) : x ≠ .str z := by
  cases h <;> first | exact absurd e (by decide) | (intro z; cases z)
theorem Dt.ar {d : PyData} (h : Dt H x d) : ∃ s, Ar H x s := by
  cases h with
  | non => exact ⟨_, .non⟩
  | bl b => exact ⟨_, .bl b⟩
  | int i => exact ⟨_, .int i⟩
  | str x => exact ⟨_, .str x⟩
  | lst h _ => exact ⟨_, .lst h⟩
  | tup h _ => exact ⟨_, .tup h⟩
  | dct h _ => exact ⟨_, .dK h⟩
end
end FL
namespace FL
open PySem PySem.Spec PyProof.Rows L2
theorem le_line {n : Nat} (h : n ≤ 1000000) : n ≤ sizeLine := Nat.le_trans h (by decide)
theorem lt_line {n : Nat} (h : n < 1000000) : n < sizeLine := Nat.lt_of_lt_of_le h (by decide)

/-! ### comprehensions over the ledger -/
/-- what a comprehension's walk has to be: n turns, the i-th item; src: what must stand while it walks -/
structure WalkIt (J : It) (n : Nat) (item : Nat → V → Prop) (src : Hp → Prop) : Prop where
  go : ∀ i H, src H → i < n → J.go i H
  yld : ∀ i H x H', src H → J.yld i H x H' → H' = H ∧ item i x
  stop : ∀ H, src H → J.stop n H
theorem walk_list {K : PySem.W.Frag} {a : Addr} {xs : List V} : WalkIt (Itl K a) xs.length (fun i x => xs[i]? = some x) (fun H => SqL K H a xs) where
  go := fun i H h hi => ⟨xs, xs[i], h, by simp [hi]⟩
  yld := fun i H x H' h y => ⟨y.1, y.2 xs h⟩
  stop := fun H h => ⟨xs, h, Nat.le_refl _⟩
theorem walk_str {z : Str} : WalkIt (Its z) z.cps.size (fun i x => ∃ c, z.cps[i]? = some c ∧ x = .str ⟨#[c]⟩) (fun _ => True) where
  go := fun i H _ hi => hi
  yld := fun i H x H' _ y => y
  stop := fun H _ => Nat.le_refl _
theorem walk_range {lo : Int} {n : Nat} : WalkIt (Itr lo n) n (fun i x => x = .int (lo + i)) (fun _ => True) where
  go := fun i H _ hi => hi
  yld := fun i H x H' _ y => y
  stop := fun H _ => Nat.le_refl _
section
variable {σ : L2.St} {H F : Hp} {L : List (Addr × HO)} {J : It} {n : Nat} {item : Nat → V → Prop} {src : Hp → Prop} {g : TG} {tt : TT} {te : TE} {vs : List Nat} {Q : VK}
/-- what a comprehension asks behind its walk's making -/
def lcAsk (J : It) (g : TG) (tt : TT) (te : TE) (vs : List Nat) (σ : L2.St) (H1 : Hp) (Q : VK) : Prop := ∀ D, H1 D = none → ∃ W : Nat → Nat → Hp → Prop, (∃ m, W 0 m (upd H1 D (.lst []))) ∧ ∀ i m H, W i m H →
  (J.stop i H ∧ Q (.ref D) H) ∨ (J.go i H ∧ ∃ Nx : Hp → Prop, (∀ H', Nx H' → ∃ m', m' < m ∧ W (i + 1) m' H') ∧ ∀ x H', J.yld i H x H' → g x (wipe σ vs) H' fun σ2 H2 => wipe σ2 vs = wipe σ vs ∧ tt σ2 H2 fun b H3 =>
    if b = true then te σ2 H3 fun y H4 => ∃ acc, H4 D = some (.lst acc) ∧ acc.length < sizeLine ∧ Nx (upd H4 D (.lst (acc ++ [y]))) else Nx H3)
theorem y_lc {wi : TI} (q : wi σ H fun J H1 => lcAsk J g tt te vs σ H1 Q) : tLc wi g tt te vs σ H Q := q
theorem y_yes {R : Bool → Hp → Prop} (q : R true H) : tYes σ H R := q
theorem y_allE {t : Bk TE} (q : ∀ s H0 C cl fp, t s H0 C cl fp σ H Q) : tAllE t σ H Q := q
theorem y_allT {t : Bk TT} {R : Bool → Hp → Prop} (q : ∀ s H0 C cl fp, t s H0 C cl fp σ H R) : tAllT t σ H R := q
theorem y_allG {t : Bk TG} {v : V} {R : L2.St → Hp → Prop} (q : ∀ s H0 C cl fp, t s H0 C cl fp v σ H R) : tAllG t v σ H R := q
theorem y_iList {K : PySem.W.Frag} {tl : TE} {R : It → Hp → Prop} (q : tl σ H fun x H1 => ∃ a, x = .ref a ∧ (∃ xs, SqL K H1 a xs) ∧ R (Itl K a) H1) : iList K tl σ H R := q
theorem y_iStr {tl : TE} {R : It → Hp → Prop} (q : tl σ H fun x H1 => ∃ z, x = .str z ∧ R (Its z) H1) : iStr tl σ H R := q
theorem y_iRng {ta : TA} {R : It → Hp → Prop} (q : ta σ H fun vs H1 => ∃ j : Int, vs = [.int j] ∧ -(2 ^ 62) ≤ j ∧ j < 2 ^ 62 ∧ R (Itr 0 j.toNat) H1) : iRng1 ta σ H R := q
theorem lc_led (D0 : Led H F L) (wk : WalkIt J n item src) (hn : n ≤ 100000) (Inv : Nat → List V → Hp → List (Addr × HO) → Prop) (h0 : Inv 0 [] F L)
    (hsrc : ∀ i acc F' L' H' Dl, Inv i acc F' L' → Led H' F' ((Dl, .lst acc) :: L') → src H')
    (turn : ∀ (Kp : V → Hp → Prop) (Sk : Hp → Prop) i acc F' L' H' Dl x, i < n → item i x → Inv i acc F' L' → Led H' F' ((Dl, .lst acc) :: L') → acc.length ≤ i →
      (∀ y F2 L2 H4, Led H4 F2 ((Dl, .lst acc) :: L2) → Inv (i + 1) (acc ++ [y]) F2 L2 → Kp y H4) → (∀ F2 L2 H3, Led H3 F2 ((Dl, .lst acc) :: L2) → Inv (i + 1) acc F2 L2 → Sk H3) →
      g x (wipe σ vs) H' fun σ2 H2 => wipe σ2 vs = wipe σ vs ∧ tt σ2 H2 fun b H3 => if b = true then te σ2 H3 Kp else Sk H3)
    (done : ∀ acc F' L' H' Dl, Inv n acc F' L' → Led H' F' ((Dl, .lst acc) :: L') → acc.length ≤ n → Q (.ref Dl) H') : lcAsk J g tt te vs σ H Q := by
  intro Dl hD
  refine ⟨fun i m H' => m = n - i ∧ i ≤ n ∧ ∃ acc F' L', Led H' F' ((Dl, .lst acc) :: L') ∧ Inv i acc F' L' ∧ acc.length ≤ i, ⟨n, by omega, by omega, [], F, L, D0.new hD, h0, Nat.le_refl _⟩, ?_⟩
  rintro i m H' ⟨rfl, hi, acc, F', L', D, I, ha⟩
  have hs := hsrc i acc F' L' H' Dl I D
  by_cases hlt : i < n
  · refine .inr ⟨wk.go i H' hs hlt, fun H2 => i + 1 ≤ n ∧ ∃ acc F' L', Led H2 F' ((Dl, .lst acc) :: L') ∧ Inv (i + 1) acc F' L' ∧ acc.length ≤ i + 1, fun H2 ⟨_, q⟩ => ⟨n - (i + 1), by omega, rfl, hlt, q⟩, fun x H2 y => ?_⟩
    obtain ⟨e, it⟩ := wk.yld i H' x H2 hs y
    subst e
    exact turn _ _ i acc F' L' H2 Dl x hlt it I D ha
      (fun y F2 L2 H4 D2 I2 => ⟨acc, D2.get 0, lt_line (by omega), hlt, acc ++ [y], F2, L2, D2.set 0, I2, by simp; omega⟩)
      (fun F2 L2 H3 D2 I2 => ⟨hlt, acc, F2, L2, D2, I2, by omega⟩)
  · have e : i = n := by omega
    subst e
    exact .inl ⟨wk.stop H' hs, done acc F' L' H' Dl I D ha⟩
end
end FL
namespace FL
open PySem PySem.Spec PyProof.Rows L2

/-! ### lines -/
def nmStr (z : Str) : Bool := decide (1 ≤ z.length ∧ z.length ≤ 8) && z.cps.toList.all fun c => decide (97 ≤ c ∧ c ≤ 122)
def lineK (ks : List (Str × Int)) : List (Key × V) := ks.map fun p => (.inr p.1, .int p.2)
structure LineOk (ks : List (Str × Int)) : Prop where
  len1 : 1 ≤ ks.length
  len2 : ks.length ≤ 40
  nm : ∀ p ∈ ks, nmStr p.1 = true
  ps : ∀ p ∈ ks, -(10 ^ 30) ≤ p.2 ∧ p.2 ≤ 10 ^ 30
  ndn : (ks.map (·.1)).Nodup
  ndp : (ks.map (·.2)).Nodup
theorem nm_len {z : Str} (h : nmStr z = true) : 1 ≤ z.length ∧ z.length ≤ 8 := by
  unfold nmStr at h
  rw [Bool.and_eq_true] at h
  exact of_decide_eq_true h.1

/-! ### for over a dict's items, the dict locked meanwhile -/
section
variable {σ : L2.St} {H : Hp} {D : Ends} {g : TG} {tb : TS} {te : TE} {a : Addr} {kvs : List (Key × V)}
theorem y_lockItems (he : ∀ H1 R, R (.ref a) H1 → te σ H1 R) (hd : H a = some (.dK kvs)) (Pv : Obj → Nat → L2.St → Hp → Prop) (h0 : ∀ od, Pv od 0 σ (upd H a (.frz od (.dK kvs))))
    (hfr : ∀ od i σ' H', Pv od i σ' H' → H' a = some (.frz od (.dK kvs)))
    (turn : ∀ od i k v T σ' H', kvs[i]? = some (k, v) → Pv od i σ' H' → H' T = none → g (.ref T) σ' (upd H' T (.tup [kV k, v])) fun σ2 H2 =>
      tb ⟨Pv od (i + 1), fun v H'' => H'' a = some (.frz od (.dK kvs)) ∧ D.rt v (upd H'' a (.dK kvs)), fun σ'' H'' => H'' a = some (.frz od (.dK kvs)) ∧ D.nx σ'' (upd H'' a (.dK kvs)), Pv od (i + 1)⟩ σ2 H2)
    (done : ∀ od σ' H', Pv od kvs.length σ' H' → D.nx σ' (upd H' a (.dK kvs))) : tLock (tFor (iItems te) g tb) D σ H := by
  refine ⟨a, .dK kvs, hd, trivial, fun od => ?_⟩
  refine he _ _ ⟨a, od, kvs, rfl, upd_same, ?_⟩
  refine ⟨fun i m σ' H' => m = kvs.length - i ∧ i ≤ kvs.length ∧ Pv od i σ' H', ⟨kvs.length, by omega, by omega, h0 od⟩, ?_⟩
  rintro i m σ' H' ⟨rfl, hi, p⟩
  have hf := hfr od i σ' H' p
  by_cases hlt : i < kvs.length
  · refine .inr ⟨⟨hf, hlt⟩, Pv od (i + 1), fun σ2 H2 q => ⟨kvs.length - (i + 1), by omega, rfl, hlt, q⟩, ?_⟩
    rintro x H2 ⟨T, k, v, e, rfl, hT, rfl⟩
    exact turn od i k v T σ' H' e p hT
  · have e : i = kvs.length := by omega
    subst e
    exact .inl ⟨⟨hf, Nat.le_refl _⟩, hf, done od σ' H' p⟩
theorem y_lockKeys (he : ∀ H1 R, R (.ref a) H1 → te σ H1 R) (hd : H a = some (.dK kvs)) (Pv : Obj → Nat → L2.St → Hp → Prop) (h0 : ∀ od, Pv od 0 σ (upd H a (.frz od (.dK kvs))))
    (hfr : ∀ od i σ' H', Pv od i σ' H' → H' a = some (.frz od (.dK kvs)))
    (turn : ∀ od i k v σ' H', kvs[i]? = some (k, v) → Pv od i σ' H' → g (kV k) σ' H' fun σ2 H2 =>
      tb ⟨Pv od (i + 1), fun v H'' => H'' a = some (.frz od (.dK kvs)) ∧ D.rt v (upd H'' a (.dK kvs)), fun σ'' H'' => H'' a = some (.frz od (.dK kvs)) ∧ D.nx σ'' (upd H'' a (.dK kvs)), Pv od (i + 1)⟩ σ2 H2)
    (done : ∀ od σ' H', Pv od kvs.length σ' H' → D.nx σ' (upd H' a (.dK kvs))) : tLock (tFor (iKeys te) g tb) D σ H := by
  refine ⟨a, .dK kvs, hd, trivial, fun od => he _ _ ⟨a, od, rfl, .inl ⟨kvs, upd_same, ?_⟩⟩⟩
  refine ⟨fun i m σ' H' => m = kvs.length - i ∧ i ≤ kvs.length ∧ Pv od i σ' H', ⟨kvs.length, by omega, by omega, h0 od⟩, ?_⟩
  rintro i m σ' H' ⟨rfl, hi, p⟩
  have hf := hfr od i σ' H' p
  by_cases hlt : i < kvs.length
  · refine .inr ⟨⟨hf, hlt⟩, Pv od (i + 1), fun σ2 H2 q => ⟨kvs.length - (i + 1), by omega, rfl, hlt, q⟩, ?_⟩
    rintro x H2 ⟨rfl, k, v, e, rfl⟩
    exact turn od i k v _ _ e p
  · have e : i = kvs.length := by omega
    subst e
    exact .inl ⟨⟨hf, Nat.le_refl _⟩, hf, done od σ' H' p⟩
end
theorem same_lock {H H' : Hp} {a : Addr} {o : HO} {od : Obj} (h : H a = some o) (s : Same (upd H a (.frz od o)) H') : Same H (upd H' a o) := fun b x e => by
  by_cases hb : b = a
  · subst hb; rw [h] at e; rw [upd_same]; exact e
  · rw [upd_ne hb]; exact s b x (by rw [upd_ne hb]; exact e)

section
variable {σ : L2.St} {H : Hp} {Q : VK} {x y v : V} {K : PySem.W.Frag} {p : Addr}
theorem Ar.isDict {s : String} (h : Ar H x s) (e : isT s "dict" = true) : ∃ a kvs, x = .ref a ∧ H a = some (.dK kvs) := by
  cases h <;> first | exact ⟨_, _, rfl, by assumption⟩ | exact absurd e (by decide)
theorem y_gtup {g : TGs} {n : Nat} {R : L2.St → Hp → Prop} {xs : List V} (h : SqT K H p xs) (e : xs.length = n) (q : g xs σ H R) : gTup K n g (.ref p) σ H R := ⟨p, xs, rfl, h, e, q⟩
theorem y_gcons {g : TG} {u : TGs} {R : L2.St → Hp → Prop} {vs : List V} (q : g v σ H fun σ' H' => u vs σ' H' R) : gCons g u (v :: vs) σ H R := ⟨v, vs, rfl, q⟩
theorem y_gnil {R : L2.St → Hp → Prop} (q : R σ H) : gNil [] σ H R := ⟨rfl, q⟩
end

theorem isT_ne {s t : String} (h : isT s t = false) : s ≠ t := fun e => by
  subst e
  unfold isT at h
  rw [decide_eq_true rfl] at h
  cases h
/-! ### hosts, frames of a line, by values -/
def isHost (ks : List (Str × Int)) : V → Bool
  | .str z => ks.any fun p => decide (p.1 = z)
  | _ => false
theorem valV_line (z : Str) : ∀ ks : List (Str × Int), (valV (lineK ks) (.inr z)).isSome = ks.any fun p => decide (p.1 = z)
  | [] => rfl
  | p :: ks => by
    have ih := valV_line z ks
    show (valV ((Sum.inr p.1, V.int p.2) :: lineK ks) (Sum.inr z : Key)).isSome = (decide (p.1 = z) || ks.any fun p => decide (p.1 = z))
    by_cases e : p.1 = z
    · rw [valV_pos (by show (Sum.inr p.1 : Key) = Sum.inr z; rw [e]), decide_eq_true e]; rfl
    · rw [decide_eq_false e, Bool.false_or, ← ih]
      unfold valV
      rw [List.find?_cons_of_neg (by simp; exact e)]
inductive FrB (ks : List (Str × Int)) (H : Hp) : V → Bool → Prop
  | no {x : V} {s : String} (h : Ar H x s) (n : ∀ t u v, x = .ref t → H t ≠ some (.tup [u, v])) (m : ∀ t xs, x = .ref t → H t = some (.tup xs) → xs.length ≤ 100000) : FrB ks H x false
  | pair {t : Addr} {u v : V} {s s' : String} (h : H t = some (.tup [u, v])) (hu : Ar H u s) (hv : Ar H v s') : FrB ks H (.ref t) (isHost ks u && isHost ks v && !decide (u = v))
inductive FramesB (ks : List (Str × Int)) (H : Hp) : V → Bool → Prop
  | no {x : V} {s : String} (h : Ar H x s) (n : s ≠ "list") : FramesB ks H x false
  | long {l : Addr} {xs : List V} (h : H l = some (.lst xs)) (n : 300 < xs.length) (m : xs.length ≤ 100000) : FramesB ks H (.ref l) false
  | lst {l : Addr} {xs : List V} {bs : List Bool} (h : H l = some (.lst xs)) (n : xs.length ≤ 300) (p : Paired (FrB ks H) xs bs) : FramesB ks H (.ref l) (bs.all id)
theorem Ar.mono {H H' : Hp} {x : V} {s : String} (e : Same H H') (h : Ar H x s) : Ar H' x s := by
  cases h with
  | non => exact .non
  | bl b => exact .bl b
  | int i => exact .int i
  | str x => exact .str x
  | lst h => exact .lst (e _ _ h)
  | tup h => exact .tup (e _ _ h)
  | dK h => exact .dK (e _ _ h)
theorem Ar.there {H : Hp} {a : Addr} {s : String} (h : Ar H (.ref a) s) : ∃ o, H a = some o := by
  cases h <;> exact ⟨_, by assumption⟩
theorem FrB.mono {ks : List (Str × Int)} {H H' : Hp} {x : V} {b : Bool} (e : Same H H') (h : FrB ks H x b) : FrB ks H' x b := by
  cases h with
  | @no _ s h n m =>
    refine .no (h.mono e) (fun t u v ex q => ?_) (fun t xs ex q => ?_)
    · subst ex
      obtain ⟨o, ho⟩ := h.there
      have q2 := e _ _ ho
      rw [q] at q2
      cases q2
      exact n t u v rfl ho
    · subst ex
      obtain ⟨o, ho⟩ := h.there
      have q2 := e _ _ ho
      rw [q] at q2
      cases q2
      exact m t xs rfl ho
  | pair h hu hv => exact .pair (e _ _ h) (hu.mono e) (hv.mono e)
theorem FrB.len {ks : List (Str × Int)} {H : Hp} {x : V} {b : Bool} (h : FrB ks H x b) : ∀ t xs, x = .ref t → H t = some (.tup xs) → xs.length ≤ 100000 := by
  cases h with
  | no h n m => exact m
  | pair h hu hv =>
    intro t xs e q
    cases e
    rw [h] at q
    cases q
    show 2 ≤ 100000
    decide
theorem FramesB.mono {ks : List (Str × Int)} {H H' : Hp} {x : V} {b : Bool} (e : Same H H') (h : FramesB ks H x b) : FramesB ks H' x b := by
  cases h with
  | no h n => exact .no (h.mono e) n
  | long h n m => exact .long (e _ _ h) n m
  | lst h n p => exact .lst (e _ _ h) n (L2.Paired.mapP p fun _ _ q => q.mono e)
theorem Paired.get {α β : Type} {F : α → β → Prop} : ∀ {xs : List α} {ys : List β}, Paired F xs ys → ∀ {i : Nat} {x : α}, xs[i]? = some x → ∃ y, ys[i]? = some y ∧ F x y
  | _, _, .nil, i, x, h => by cases h
  | _, _, .cons r t, 0, x, h => ⟨_, rfl, (Option.some.inj h) ▸ r⟩
  | _, _, .cons r t, i + 1, x, h => Paired.get t (i := i) h
section
variable {σ : L2.St} {H : Hp} {Q : VK} {te ta : TE} {K : PySem.W.Frag}
theorem y_lenSet (q : ta σ H fun x H1 => ∃ (l : Addr) (ns : List Int), x = .ref l ∧ SqL K H1 l (ns.map V.int) ∧ ns.Nodup ∧ ns.length ≤ 4000 ∧ Q (.int (ns.length : Nat)) H1) : RZ.tLenSetI K ta σ H Q := q
theorem y_listVals (q : te σ H fun x H1 => rValsL x H1 Q) : tListValues te σ H Q := q
theorem y_listItems (q : te σ H fun x H1 => LiI.rItemsL x H1 Q) : LiI.tListItems te σ H Q := q
end
end FL
namespace FL
open PySem PySem.Spec PyProof.Rows L2

/-! ### loops -/
section
variable {σ : L2.St} {H F : Hp} {D : Ends} {g : TG} {tb : TS} {K : PySem.W.Frag} {a : Addr} {xs : List V}
def forAsk (J : It) (g : TG) (tb : TS) (D : Ends) (σ : L2.St) (H1 : Hp) : Prop := ∃ W : Nat → Nat → L2.St → Hp → Prop, (∃ m, W 0 m σ H1) ∧ ∀ i m σ H, W i m σ H →
  (J.stop i H ∧ D.nx σ H) ∨ (J.go i H ∧ ∃ N : L2.St → Hp → Prop, (∀ σ' H', N σ' H' → ∃ m', m' < m ∧ W (i + 1) m' σ' H') ∧ ∀ x H', J.yld i H x H' → g x σ H' fun σ2 H2 => tb { D with nx := N, ct := N, bk := D.nx } σ2 H2)
theorem y_for {wi : TI} (q : wi σ H fun J H1 => forAsk J g tb D σ H1) : tFor wi g tb D σ H := q
theorem for_any {J : It} {n : Nat} {item : Nat → V → Prop} {src : Hp → Prop} (wk : WalkIt J n item src) (Pv : Nat → L2.St → Hp → Prop) (h0 : Pv 0 σ H) (hsrc : ∀ i σ' H', Pv i σ' H' → src H')
    (turn : ∀ i x σ' H', i < n → item i x → Pv i σ' H' → g x σ' H' fun σ2 H2 => tb { D with nx := Pv (i + 1), ct := Pv (i + 1), bk := D.nx } σ2 H2) (done : ∀ σ' H', Pv n σ' H' → D.nx σ' H') : forAsk J g tb D σ H := by
  refine ⟨fun i m σ' H' => m = n - i ∧ i ≤ n ∧ Pv i σ' H', ⟨n, by omega, by omega, h0⟩, ?_⟩
  rintro i m σ' H' ⟨rfl, hi, p⟩
  have hs := hsrc i σ' H' p
  by_cases hlt : i < n
  · refine .inr ⟨wk.go i H' hs hlt, Pv (i + 1), fun σ2 H2 q => ⟨n - (i + 1), by omega, rfl, hlt, q⟩, fun x H2 y => ?_⟩
    obtain ⟨e, it⟩ := wk.yld i H' x H2 hs y
    subst e
    exact turn i x σ' H2 hlt it p
  · have e : i = n := by omega
    subst e
    exact .inl ⟨wk.stop H' hs, done σ' H' p⟩
end

/-! ### slices, items -/
theorem cut_take (xs : List V) (k : Nat) : cutV xs none (some (k : Int)) = xs.take k := by
  unfold cutV
  rw [HT.sIx_none, HT.sIx_nat]
  show List.take (min k xs.length - 0) (xs.drop 0) = _
  rw [List.drop_zero, Nat.sub_zero]
  by_cases h : k ≤ xs.length
  · rw [Nat.min_eq_left h]
  · rw [Nat.min_eq_right (by omega), List.take_of_length_le (Nat.le_refl _), List.take_of_length_le (by omega)]
theorem cut_drop (xs : List V) (k : Nat) : cutV xs (some (k : Int)) none = xs.drop k := by
  unfold cutV
  rw [HT.sIx_none, HT.sIx_nat]
  by_cases h : k ≤ xs.length
  · rw [Nat.min_eq_left h, List.take_of_length_le (by simp)]
  · rw [Nat.min_eq_right (by omega), List.drop_of_length_le (Nat.le_refl _), List.drop_of_length_le (by omega), List.take_nil]
section
variable {σ : L2.St} {H F : Hp} {K : PySem.W.Frag} {a : Addr} {xs : List V} {Q : VK} {L : List (Addr × HO)} {lo hi : Option Int}
theorem r_sl (h : SqL K H a xs) (q : ∀ p, H p = none → Q (.ref p) (upd H p (.lst (cutV xs lo hi)))) : rSlL K (.ref a) lo hi H Q := ⟨a, xs, rfl, h, q⟩
theorem Led.seq (D : Led H F L) (h : SqL K F a xs) : SqL K H a xs := Same.seq D.ext h
end

/-! ### the drawing of numbers out of a script -/
structure Rl where
  great : List Int
  cells : List Int
  n : Nat
  stir : Int
structure RlOk (R : Rl) : Prop where
  gl : R.great.length ≤ 64
  c1 : 1 ≤ R.cells.length
  c2 : R.cells.length ≤ 64
  cb : ∀ x ∈ R.cells, 0 ≤ x ∧ x < 1000003
  s0 : 0 ≤ R.stir
  s1 : R.stir < 2 ^ 140
def rE (r g c : Addr) (R : Rl) : List (Addr × HO) := [(r, .lst [.ref g, .ref c, .int R.n, .int R.stir]), (g, .lst (R.great.map V.int)), (c, .lst (R.cells.map V.int))]
theorem mod_m (x : Int) : 0 ≤ x % (2 ^ (64 : Int).toNat * 2 ^ (63 : Int).toNat - 1) ∧ x % (2 ^ (64 : Int).toNat * 2 ^ (63 : Int).toNat - 1) < 2 ^ 140 := by
  have h : (0 : Int) < 2 ^ (64 : Int).toNat * 2 ^ (63 : Int).toNat - 1 := by decide +kernel
  have h2 : (2 : Int) ^ (64 : Int).toNat * 2 ^ (63 : Int).toNat - 1 < 2 ^ 140 := by decide +kernel
  exact ⟨Int.emod_nonneg _ (Int.ne_of_gt h), Int.lt_trans (Int.emod_lt_of_pos _ h) h2⟩
theorem abs_lt {x : Int} {k : Nat} (h0 : 0 ≤ x) (h : x < 2 ^ k) : x.natAbs < 2 ^ k := by
  have e : ((2 ^ k : Nat) : Int) = 2 ^ k := by simp
  omega

theorem Led.nf {H F H1 : Hp} {L : List (Addr × HO)} {p : Addr} {o : HO} (D : Led H F L) (hp : H p = none) (e : upd H p o = H1) : ∃ F1, Same F F1 ∧ F1 p = some o ∧ F p = none ∧ Led H1 F1 L :=
  ⟨upd F p o, (D.new hp).grow, upd_same, D.ext.free hp, e ▸ D.newF hp⟩
theorem Led.nl {H F H1 : Hp} {L : List (Addr × HO)} {p : Addr} {o : HO} (D : Led H F L) (hp : H p = none) (e : upd H p o = H1) : Led H1 F ((p, o) :: L) := e ▸ D.new hp
theorem Led.st {H F H1 : Hp} {L : List (Addr × HO)} {a : Addr} {o u : HO} (D : Led H F L) (i : Nat) (e : upd H a u = H1) (h : L[i]? = some (a, o) := by rfl) : Led H1 F (L.set i (a, u)) := e ▸ D.set i h

theorem Led.sub {H F : Hp} {L L' : List (Addr × HO)} (D : Led H F L) (h : L'.Sublist L) : Led H F L' := ⟨D.ext, fun x hx => D.ent x (h.subset hx), D.nd.sublist (h.map _)⟩
theorem ints_at {ns : List Int} {i : Nat} {x : V} (h : (ns.map V.int)[i]? = some x) : ∃ z, x = V.int z ∧ ns[i]? = some z := by
  rw [List.getElem?_map] at h
  cases e : ns[i]? with
  | none => rw [e] at h; cases h
  | some z => rw [e] at h; exact ⟨z, (Option.some.inj h).symm, rfl⟩

/-! ### lists of ints, compared and stored -/
def dI (ns : List Int) : List PyData := ns.map PyData.int
theorem dpI {K : PySem.W.Frag} {H : Hp} : ∀ ns : List Int, DpAll K H (ns.map V.int) (dI ns)
  | [] => .nil
  | n :: ns => .cons (.int n) (dpI ns)
theorem canI : ∀ ns : List Int, PyData.canLayAll0 (dI ns) = true
  | [] => rfl
  | n :: ns => by
    show (PyData.canLay0 (.int n) && PyData.canLayAll0 (dI ns)) = true
    rw [canI ns]; rfl
theorem depI : ∀ ns : List Int, PyData.depthAll (dI ns) = 0
  | [] => rfl
  | n :: ns => by
    show max (PyData.depth (.int n)) (PyData.depthAll (dI ns)) = 0
    rw [depI ns]; rfl
theorem shI (ns : List Int) : SeqAt.shaped (.list (dI ns)) = true := by
  unfold SeqAt.shaped
  rw [Bool.and_eq_true]
  refine ⟨canI ns, decide_eq_true ?_⟩
  show PyData.depthAll (dI ns) + 1 ≤ 64
  rw [depI]; decide
theorem r_setL {v : V} {p : Addr} {xs : List V} {H : Hp} {j : Nat} {R : Hp → Prop} (h : H p = some (.lst xs)) (hj : j < xs.length) (q : R (upd H p (.lst (xs.set j v)))) : rSetL (.ref p) (.int (j : Int)) v H R :=
  ⟨p, xs, j, j, rfl, rfl, h, Evl.ixN_nat hj, q⟩
theorem int_of_bl {b : Bool} {H : Hp} {Q : VK} (q : Q (.int (if b = true then 1 else 0)) H) : (∃ i, ([V.bl b] : List V) = [.int i] ∧ Q (.int i) H) ∨ ∃ k, ([V.bl b] : List V) = [.bl k] ∧ Q (.int (if k = true then 1 else 0)) H := .inr ⟨b, rfl, q⟩

/-! ### the reel ahead of the other things at hand -/
section
variable {H F : Hp} {L X : List (Addr × HO)} {r g c p : Addr} {o : HO} {R : Rl}
theorem Led.back (D : Led H F ((p, o) :: (rE r g c R ++ L))) : Led H F (rE r g c R ++ ((p, o) :: L)) := D.perm (List.perm_append_comm_assoc (rE r g c R) [(p, o)] L)
theorem Led.fwd (D : Led H F (rE r g c R ++ ((p, o) :: L))) : Led H F ((p, o) :: (rE r g c R ++ L)) := D.perm (List.perm_append_comm_assoc [(p, o)] (rE r g c R) L)
end
/-! ### dicts from text to int -/
theorem lineK_app (ks ls : List (Str × Int)) : lineK (ks ++ ls) = lineK ks ++ lineK ls := List.map_append ..
theorem lineK_len (ks : List (Str × Int)) : (lineK ks).length = ks.length := List.length_map ..
theorem putK_line {ks : List (Str × Int)} {z : Str} (n : Int) (h : z ∉ ks.map (·.1)) : putK (lineK ks) (.inr z) (.int n) = lineK (ks ++ [(z, n)]) := by
  unfold putK
  rw [if_neg]
  · rw [lineK_app]; rfl
  · rw [List.any_eq_true]
    rintro ⟨kv, hm, e⟩
    have e := of_decide_eq_true e
    obtain ⟨p, hp, rfl⟩ := List.mem_map.mp hm
    have e : (Sum.inr p.1 : Key) = Sum.inr z := e
    injection e with e
    exact h (List.mem_map.mpr ⟨p, hp, e⟩)
theorem merge_line : ∀ (ls ks : List (Str × Int)), ((ks ++ ls).map (·.1)).Nodup → mergeK (lineK ks) (lineK ls) = lineK (ks ++ ls)
  | [], ks, _ => by rw [List.append_nil]; rfl
  | p :: ls, ks, h => by
    show mergeK (putK (lineK ks) (.inr p.1) (.int p.2)) (lineK ls) = _
    have hn : p.1 ∉ ks.map (·.1) := fun z => by
      rw [List.map_append, List.map_cons, List.nodup_append] at h
      exact h.2.2 _ z _ List.mem_cons_self rfl
    rw [putK_line p.2 hn, merge_line ls _ (by rw [List.append_assoc]; exact h), List.append_assoc]; rfl
theorem valV_line_some {z : Str} {n : Int} : ∀ {ks : List (Str × Int)}, (z, n) ∈ ks → (ks.map (·.1)).Nodup → valV (lineK ks) (.inr z) = some (.int n)
  | p :: ks, h, nd => by
    show valV ((Sum.inr p.1, V.int p.2) :: lineK ks) (Sum.inr z : Key) = _
    rcases List.mem_cons.mp h with e | h
    · rw [valV_pos (by show (Sum.inr p.1 : Key) = Sum.inr z; rw [← e]), ← e]
    · have hn := List.nodup_cons.mp nd
      have ne : p.1 ≠ z := fun e => hn.1 (by show p.1 ∈ _; rw [e]; exact List.mem_map.mpr ⟨_, h, rfl⟩)
      have ih := valV_line_some h hn.2
      unfold valV at ih ⊢
      rw [List.find?_cons_of_neg (by simp; exact ne)]
      exact ih
theorem LineOk.perm {ks ls : List (Str × Int)} (h : LineOk ks) (p : ls.Perm ks) : LineOk ls where
  len1 := by rw [p.length_eq]; exact h.len1
  len2 := by rw [p.length_eq]; exact h.len2
  nm := fun q hq => h.nm q (p.mem_iff.mp hq)
  ps := fun q hq => h.ps q (p.mem_iff.mp hq)
  ndn := (p.map _).nodup_iff.mpr h.ndn
  ndp := (p.map _).nodup_iff.mpr h.ndp
theorem strs_at {ns : List Str} {i : Nat} {x : V} (h : (ns.map V.str)[i]? = some x) : ∃ z, x = V.str z ∧ ns[i]? = some z := by
  rw [List.getElem?_map] at h
  cases e : ns[i]? with
  | none => rw [e] at h; cases h
  | some z => rw [e] at h; exact ⟨z, (Option.some.inj h).symm, rfl⟩
theorem seqIx {n : Nat} {d : Int} (h0 : 0 ≤ d) (h1 : d < n) : seqIndex? d n = some d.toNat := by
  have h := (ixN_seq (n := n) (i := d) (j := d.toNat) (by unfold ixN; rw [if_pos h0, if_pos h1])).1
  exact h
theorem erase_map : ∀ (ns : List Str) (k : Nat), (ns.map V.str).eraseIdx k = (ns.eraseIdx k).map V.str
  | [], _ => rfl
  | _ :: _, 0 => rfl
  | n :: ns, k + 1 => by
    show V.str n :: (ns.map V.str).eraseIdx k = V.str n :: (ns.eraseIdx k).map V.str
    rw [erase_map ns k]
theorem r_popAt {H : Hp} {Q : VK} {l : Addr} {ns : List Str} {d : Int} (h : H l = some (.lst (ns.map V.str))) (h0 : 0 ≤ d) (h1 : d < ns.length) (hz : ns.length ≤ 100000)
    (q : ∀ z, ns[d.toNat]? = some z → Q (.str z) (upd H l (.lst ((ns.eraseIdx d.toNat).map V.str)))) : rPopAt (.ref l) [.int d] H Q := by
  have hk : d.toNat < ns.length := by omega
  refine ⟨l, ns.map V.str, d, d.toNat, .str ns[d.toNat], rfl, rfl, h, by omega, by omega, by rw [List.length_map]; exact seqIx h0 h1, by rw [List.getElem?_map, List.getElem?_eq_getElem hk]; rfl, ?_⟩
  have e : (ns.map V.str).eraseIdx d.toNat = (ns.eraseIdx d.toNat).map V.str := by
    exact erase_map ns d.toNat
  rw [e]
  exact q _ (List.getElem?_eq_getElem hk)

theorem erase_perm {α : Type} : ∀ {l : List α} {k : Nat} {z : α}, l[k]? = some z → (z :: l.eraseIdx k).Perm l
  | [], _, _, h => by cases h
  | a :: l, 0, z, h => by cases h; exact List.Perm.refl _
  | a :: l, k + 1, z, h => by
    have ih := erase_perm (l := l) (k := k) (z := z) h
    exact (List.Perm.swap a z (l.eraseIdx k)).trans (ih.cons a)
/-- the position of a host -/
def posOf (ks : List (Str × Int)) (z : Str) : Int := ((ks.find? fun p => decide (p.1 = z)).map (·.2)).getD 0
theorem posOf_in : ∀ {ks : List (Str × Int)} {z : Str}, z ∈ ks.map (·.1) → (z, posOf ks z) ∈ ks
  | p :: ks, z, h => by
    by_cases e : p.1 = z
    · have : posOf (p :: ks) z = p.2 := by unfold posOf; rw [List.find?_cons_of_pos (by simp [e])]; rfl
      rw [this, ← e]; exact List.mem_cons_self
    · have h2 : z ∈ ks.map (·.1) := by
        rcases List.mem_cons.mp h with q | q
        · exact absurd q.symm e
        · exact q
      have : posOf (p :: ks) z = posOf ks z := by unfold posOf; rw [List.find?_cons_of_neg (by simp [e])]
      rw [this]; exact List.mem_cons_of_mem _ (posOf_in h2)
theorem posOf_of : ∀ {ks : List (Str × Int)} {z : Str} {n : Int}, (z, n) ∈ ks → (ks.map (·.1)).Nodup → posOf ks z = n
  | p :: ks, z, n, h, nd => by
    rcases List.mem_cons.mp h with e | h
    · unfold posOf; rw [List.find?_cons_of_pos (by simp [← e])]; rw [← e]; rfl
    · have hn := List.nodup_cons.mp nd
      have ne : ¬ p.1 = z := fun e => hn.1 (by show p.1 ∈ _; rw [e]; exact List.mem_map.mpr ⟨_, h, rfl⟩)
      have : posOf (p :: ks) z = posOf ks z := by unfold posOf; rw [List.find?_cons_of_neg (by simp [ne])]
      rw [this]; exact posOf_of h hn.2
theorem posOf_map {ks : List (Str × Int)} (nd : (ks.map (·.1)).Nodup) : (ks.map (·.1)).map (fun z => (z, posOf ks z)) = ks := by
  rw [List.map_map]
  have : ∀ p ∈ ks, ((fun z => (z, posOf ks z)) ∘ fun x => x.1) p = p := fun p hp => by
    show (p.1, posOf ks p.1) = p
    rw [posOf_of (z := p.1) (n := p.2) hp nd]
  rw [List.map_congr_left this]; exact List.map_id _

theorem Paired.app {α β : Type} {F : α → β → Prop} : ∀ {l₁ m₁ : List α} {l₂ m₂ : List β}, Paired F l₁ l₂ → Paired F m₁ m₂ → Paired F (l₁ ++ m₁) (l₂ ++ m₂)
  | _, _, _, _, .nil, k => k
  | _, _, _, _, .cons r t, k => .cons r (Paired.app t k)

/-! ### a rest that is shown once -/
theorem with_e {te : TE} {σ : L2.St} {H : Hp} {Q : VK} (Pq : V → Hp → Prop) (rest : ∀ v H', Pq v H' → Q v H') (go : (∀ v H', Pq v H' → Q v H') → te σ H Q) : te σ H Q := go rest
theorem with_s {t : TS} {σ : L2.St} {H : Hp} {D : Ends} (Pq : L2.St → Hp → Prop) (rest : ∀ σ' H', Pq σ' H' → D.nx σ' H') (go : (∀ σ' H', Pq σ' H' → D.nx σ' H') → t D σ H) : t D σ H := go rest
/-! ### lists of texts, frames, as data -/
def dS (ns : List Str) : List PyData := ns.map PyData.str
theorem dpS {K : PySem.W.Frag} {H : Hp} : ∀ ns : List Str, DpAll K H (ns.map V.str) (dS ns)
  | [] => .nil
  | n :: ns => .cons (.str n) (dpS ns)
theorem canS : ∀ ns : List Str, (∀ z ∈ ns, nmStr z = true) → PyData.canLayAll0 (dS ns) = true
  | [], _ => rfl
  | n :: ns, h => by
    show (PyData.canLay0 (.str n) && PyData.canLayAll0 (dS ns)) = true
    rw [canS ns fun z hz => h z (List.mem_cons_of_mem _ hz), Bool.and_true]
    have hn := h n List.mem_cons_self
    unfold nmStr at hn
    rw [Bool.and_eq_true] at hn
    show (n.cps.all fun c => decide (c < 0x110000)) = true
    rw [← Array.all_toList, List.all_eq_true]
    intro c hc
    have := of_decide_eq_true ((List.all_eq_true.mp hn.2) c hc)
    exact decide_eq_true (by omega)
theorem depS : ∀ ns : List Str, PyData.depthAll (dS ns) = 0
  | [] => rfl
  | n :: ns => by
    show max (PyData.depth (.str n)) (PyData.depthAll (dS ns)) = 0
    rw [depS ns]; rfl
theorem shS (ns : List Str) (h : ∀ z ∈ ns, nmStr z = true) : SeqAt.shaped (.list (dS ns)) = true := by
  unfold SeqAt.shaped
  rw [Bool.and_eq_true]
  refine ⟨canS ns h, decide_eq_true ?_⟩
  show PyData.depthAll (dS ns) + 1 ≤ 64
  rw [depS]; decide
def tS (p : Str × Str) : PyData := .tuple [.str p.1, .str p.2]
/-- frames: a list of tuples of two texts each -/
def TupsAt (H : Hp) (ts : List Addr) (ps : List (Str × Str)) : Prop := Paired (fun t p => H t = some (.tup [.str p.1, .str p.2])) ts ps
theorem TupsAt.mono {H H' : Hp} {ts : List Addr} {ps : List (Str × Str)} (e : Same H H') (h : TupsAt H ts ps) : TupsAt H' ts ps := L2.Paired.mapP h fun _ _ q => e _ _ q
theorem TupsAt.dp {K : PySem.W.Frag} {H : Hp} : ∀ {ts : List Addr} {ps : List (Str × Str)}, TupsAt H ts ps → DpAll K H (ts.map V.ref) (ps.map tS)
  | _, _, .nil => .nil
  | _, _, .cons r t => .cons (.tup (SqT.of r) (.cons (.str _) (.cons (.str _) .nil))) (TupsAt.dp t)
theorem canT : ∀ ps : List (Str × Str), (∀ p ∈ ps, nmStr p.1 = true ∧ nmStr p.2 = true) → PyData.canLayAll0 (ps.map tS) = true
  | [], _ => rfl
  | p :: ps, h => by
    show (PyData.canLayAll0 (dS [p.1, p.2]) && PyData.canLayAll0 (ps.map tS)) = true
    rw [canT ps fun q hq => h q (List.mem_cons_of_mem _ hq), Bool.and_true]
    have := h p List.mem_cons_self
    exact canS _ fun z hz => by
      rcases List.mem_cons.mp hz with e | hz
      · rw [e]; exact this.1
      · rw [List.mem_singleton.mp hz]; exact this.2
theorem depT : ∀ ps : List (Str × Str), PyData.depthAll (ps.map tS) ≤ 1
  | [] => by decide
  | p :: ps => by
    have ih := depT ps
    show max (PyData.depthAll (dS [p.1, p.2]) + 1) (PyData.depthAll (ps.map tS)) ≤ 1
    rw [depS]
    omega
theorem shT (ps : List (Str × Str)) (h : ∀ p ∈ ps, nmStr p.1 = true ∧ nmStr p.2 = true) : SeqAt.shaped (.list (ps.map tS)) = true := by
  unfold SeqAt.shaped
  rw [Bool.and_eq_true]
  refine ⟨canT ps h, decide_eq_true ?_⟩
  have := depT ps
  show PyData.depthAll (ps.map tS) + 1 ≤ 64
  omega
theorem eqv_nil (ds : List PyData) : PyData.eqv (.list ds) (.list []) = ds.isEmpty := by
  cases ds <;> rfl

theorem paired_last {α β : Type} {F : α → β → Prop} : ∀ {xs : List α} {ys : List β}, Paired F xs ys → ys ≠ [] → ∃ xs' x ys' y, xs = xs' ++ [x] ∧ ys = ys' ++ [y] ∧ F x y
  | _, _, .nil, h => absurd rfl h
  | [x], [y], .cons r .nil, _ => ⟨[], x, [], y, rfl, rfl, r⟩
  | x :: x2 :: xs, y :: y2 :: ys, .cons r t, _ => by
    obtain ⟨xs', u, ys', v, e1, e2, q⟩ := paired_last t (by simp)
    exact ⟨x :: xs', u, y :: ys', v, by rw [e1]; rfl, by rw [e2]; rfl, q⟩
theorem isEmpty_nil {α : Type} {l : List α} (h : l.isEmpty = true) : l = [] := by cases l with
  | nil => rfl
  | cons _ _ => cases h
theorem dec_str (z s : Str) : decide (V.str z = V.str s) = decide (z = s) := by
  by_cases e : z = s
  · rw [e, decide_eq_true rfl, decide_eq_true rfl]
  · rw [decide_eq_false e, decide_eq_false fun q => e (by injection q)]
end FL
namespace FL
open PySem PySem.Spec PyProof.Rows L2

/-! ### data that repr can write: short numbers, a bounded weight, a bounded depth -/
structure DOk (d : PyData) (W k : Nat) : Prop where
  ls : d.leavesShort 40 = true
  sh : d.showable = true
  wt : d.weight ≤ W
  dp : d.depth ≤ k
structure DOkA (ds : List PyData) (W k : Nat) : Prop where
  ls : PyData.leavesShortAll 40 ds = true
  sh : PyData.showableAll ds = true
  wt : PyData.weightAll ds ≤ W
  dp : PyData.depthAll ds ≤ k
structure DOkV (ds : List (PyData × PyData)) (W k : Nat) : Prop where
  ls : PyData.leavesShortKv 40 ds = true
  sh : PyData.showableKv ds = true
  wt : PyData.weightKv ds ≤ W
  dp : PyData.depthKv ds ≤ k
theorem DOk.more {d : PyData} {W W' k k' : Nat} (h : DOk d W k) (hw : W ≤ W') (hk : k ≤ k') : DOk d W' k' := ⟨h.ls, h.sh, Nat.le_trans h.wt hw, Nat.le_trans h.dp hk⟩
theorem DOkA.more {d : List PyData} {W W' k k' : Nat} (h : DOkA d W k) (hw : W ≤ W') (hk : k ≤ k') : DOkA d W' k' := ⟨h.ls, h.sh, Nat.le_trans h.wt hw, Nat.le_trans h.dp hk⟩
theorem DOk.non : DOk .none 0 0 := ⟨rfl, rfl, Nat.le_refl _, Nat.le_refl _⟩
theorem DOk.bl (b : Bool) : DOk (.bool b) 0 0 := ⟨rfl, rfl, Nat.le_refl _, Nat.le_refl _⟩
theorem num_len {i : Int} (h0 : -(10 ^ 39) < i) (h1 : i < 10 ^ 39) : (Str.ofString (toString i)).length ≤ 40 := by
  by_cases h : 0 ≤ i
  · exact Nat.le_trans (toString_length_le h (k := 39) (by decide) h1) (by decide)
  · cases i with
    | ofNat n => exact absurd (Int.natCast_nonneg n) h
    | negSucc n =>
      have e : toString (Int.negSucc n) = "-" ++ toString ((n + 1 : Nat) : Int) := rfl
      have h2 := toString_length_le (v := ((n + 1 : Nat) : Int)) (by omega) (k := 39) (by decide) (by omega)
      rw [PyProof.Rows.ofString_length] at h2 ⊢
      rw [e, String.toList_append, List.length_append]
      have e1 : ("-" : String).toList.length = 1 := by decide
      omega
theorem DOk.int {i : Int} (h0 : -(10 ^ 39) < i) (h1 : i < 10 ^ 39) : DOk (.int i) 130 0 := by
  refine ⟨?_, ?_, ?_, Nat.le_refl _⟩
  · show decide ((PyData.shown (.int i)).length ≤ 40) = true
    refine decide_eq_true ?_
    simp only [PyData.shown]
    exact num_len h0 h1
  · show decide (i.natAbs.log2 < 1920) = true
    refine decide_eq_true (Nat.lt_of_lt_of_le (PySem.Flt.log2_lt_of (k := 200) (by decide) ?_) (by decide))
    have : (10 : Nat) ^ 39 < 2 ^ 200 := by decide
    omega
  · show (if i == 0 then 0 else i.natAbs.log2 + 1) ≤ 130
    split
    · decide
    · have h2 : i.natAbs.log2 < 130 := PySem.Flt.log2_lt_of (k := 130) (by decide) (by have : (10 : Nat) ^ 39 < 2 ^ 130 := by decide
                                                                                       omega)
      omega
theorem DOk.str {z : Str} (h : ∀ c ∈ z.cps.toList, c < 16 ^ 8) : DOk (.str z) z.cps.size 0 := by
  refine ⟨?_, rfl, Nat.le_refl _, Nat.le_refl _⟩
  show (z.cps.toList.all fun c => decide (c < 16 ^ 8)) = true
  exact List.all_eq_true.mpr fun c hc => decide_eq_true (h c hc)
theorem nm_small {z : Str} (h : nmStr z = true) : ∀ c ∈ z.cps.toList, c < 16 ^ 8 := fun c hc => by
  unfold nmStr at h
  rw [Bool.and_eq_true] at h
  have := of_decide_eq_true ((List.all_eq_true.mp h.2) c hc)
  have e : (16 : Nat) ^ 8 = 4294967296 := by decide
  omega
theorem DOk.nm {z : Str} (h : nmStr z = true) : DOk (.str z) 8 0 := (DOk.str (nm_small h)).more (nm_len h).2 (Nat.le_refl _)
theorem DOkA.nil {k : Nat} : DOkA [] 0 k := ⟨rfl, rfl, Nat.le_refl _, Nat.zero_le _⟩
theorem DOkA.cons {d : PyData} {ds : List PyData} {w W k : Nat} (h : DOk d w k) (t : DOkA ds W k) : DOkA (d :: ds) (w + 1 + W) k := by
  refine ⟨?_, ?_, ?_, ?_⟩
  · simp only [PyData.leavesShortAll, Bool.and_eq_true]; exact ⟨h.ls, t.ls⟩
  · simp only [PyData.showableAll, Bool.and_eq_true]; exact ⟨h.sh, t.sh⟩
  · simp only [PyData.weightAll]; have := h.wt; have := t.wt; omega
  · simp only [PyData.depthAll]; have := h.dp; have := t.dp; omega
theorem DOkA.append {ds es : List PyData} {W U k : Nat} (h : DOkA ds W k) (t : DOkA es U k) : DOkA (ds ++ es) (W + U) k := by
  induction ds generalizing W with
  | nil => exact (t.more (by omega) (Nat.le_refl _))
  | cons d ds ih =>
    have h1 : DOk d d.weight k := ⟨by have := h.ls; simp only [PyData.leavesShortAll, Bool.and_eq_true] at this; exact this.1, by have := h.sh; simp only [PyData.showableAll, Bool.and_eq_true] at this; exact this.1, Nat.le_refl _, by have := h.dp; simp only [PyData.depthAll] at this; omega⟩
    have h2 : DOkA ds (PyData.weightAll ds) k := ⟨by have := h.ls; simp only [PyData.leavesShortAll, Bool.and_eq_true] at this; exact this.2, by have := h.sh; simp only [PyData.showableAll, Bool.and_eq_true] at this; exact this.2, Nat.le_refl _, by have := h.dp; simp only [PyData.depthAll] at this; omega⟩
    refine (DOkA.cons h1 (ih h2)).more ?_ (Nat.le_refl _)
    have := h.wt
    simp only [PyData.weightAll] at this
    omega
theorem DOkA.all {w k : Nat} : ∀ {ds : List PyData}, (∀ d ∈ ds, DOk d w k) → DOkA ds (ds.length * (w + 1)) k
  | [], _ => DOkA.nil.more (by omega) (Nat.le_refl _)
  | d :: ds, h => (DOkA.cons (h d List.mem_cons_self) (DOkA.all fun e he => h e (List.mem_cons_of_mem _ he))).more (by rw [List.length_cons, Nat.succ_mul]; omega) (Nat.le_refl _)
theorem DOk.list {ds : List PyData} {W k : Nat} (h : DOkA ds W k) : DOk (.list ds) W (k + 1) :=
  ⟨by simp only [PyData.leavesShort]; exact h.ls, by simp only [PyData.showable]; exact h.sh, by simp only [PyData.weight]; exact h.wt, by simp only [PyData.depth]; have := h.dp; omega⟩
theorem DOk.tuple {ds : List PyData} {W k : Nat} (h : DOkA ds W k) : DOk (.tuple ds) W (k + 1) :=
  ⟨by simp only [PyData.leavesShort]; exact h.ls, by simp only [PyData.showable]; exact h.sh, by simp only [PyData.weight]; exact h.wt, by simp only [PyData.depth]; have := h.dp; omega⟩
theorem DOkV.nil {k : Nat} : DOkV [] 0 k := ⟨rfl, rfl, Nat.le_refl _, Nat.zero_le _⟩
theorem DOkV.cons {c d : PyData} {ds : List (PyData × PyData)} {v w W k : Nat} (g : DOk c v k) (h : DOk d w k) (t : DOkV ds W k) : DOkV ((c, d) :: ds) (v + w + 2 + W) k := by
  refine ⟨?_, ?_, ?_, ?_⟩
  · simp only [PyData.leavesShortKv, Bool.and_eq_true]; exact ⟨⟨g.ls, h.ls⟩, t.ls⟩
  · simp only [PyData.showableKv, Bool.and_eq_true]; exact ⟨⟨g.sh, h.sh⟩, t.sh⟩
  · simp only [PyData.weightKv]; have := g.wt; have := h.wt; have := t.wt; omega
  · simp only [PyData.depthKv]; have := g.dp; have := h.dp; have := t.dp; omega
theorem DOk.dict {ds : List (PyData × PyData)} {W k : Nat} (h : DOkV ds W k) : DOk (.dict ds) W (k + 1) :=
  ⟨by simp only [PyData.leavesShort]; exact h.ls, by simp only [PyData.showable]; exact h.sh, by simp only [PyData.weight]; exact h.wt, by simp only [PyData.depth]; have := h.dp; omega⟩
theorem DOk.fits {d : PyData} {W k : Nat} (h : DOk d W k) (hw : W ≤ 399000) : d.shown.length ≤ sizeLine := by
  have h1 := PyData.shown_le 40 (by decide) d h.ls
  have h2 : (40 + 2) * d.weight ≤ 42 * 399000 := Nat.mul_le_mul (by decide) (Nat.le_trans h.wt hw)
  rw [sizeLine_eq]
  omega

/-! ### values of such data -/
def Dx (F : Hp) (v : V) (W k : Nat) : Prop := ∃ d, Dt F v d ∧ DOk d W k
def DxA (F : Hp) (vs : List V) (W k : Nat) : Prop := ∃ ds, DtAll F vs ds ∧ DOkA ds W k
theorem Dx.mono {F F' : Hp} {v : V} {W k : Nat} (e : Same F F') (h : Dx F v W k) : Dx F' v W k := let ⟨d, h1, h2⟩ := h; ⟨d, h1.mono e, h2⟩
theorem Dx.more {F : Hp} {v : V} {W W' k k' : Nat} (h : Dx F v W k) (hw : W ≤ W') (hk : k ≤ k') : Dx F v W' k' := let ⟨d, h1, h2⟩ := h; ⟨d, h1, h2.more hw hk⟩
theorem DxA.mono {F F' : Hp} {v : List V} {W k : Nat} (e : Same F F') (h : DxA F v W k) : DxA F' v W k := let ⟨d, h1, h2⟩ := h; ⟨d, h1.mono e, h2⟩
theorem DxA.more {F : Hp} {v : List V} {W W' k k' : Nat} (h : DxA F v W k) (hw : W ≤ W') (hk : k ≤ k') : DxA F v W' k' := let ⟨d, h1, h2⟩ := h; ⟨d, h1, h2.more hw hk⟩
section
variable {F : Hp} {v : V} {vs us : List V} {w W U k : Nat} {a : Addr}
theorem Dx.non : Dx F .non 0 0 := ⟨_, .non, .non⟩
theorem Dx.bl (b : Bool) : Dx F (.bl b) 0 0 := ⟨_, .bl b, .bl b⟩
theorem Dx.int {i : Int} (h0 : -(10 ^ 39) < i) (h1 : i < 10 ^ 39) : Dx F (.int i) 130 0 := ⟨_, .int i, .int h0 h1⟩
theorem Dx.nm {z : Str} (h : nmStr z = true) : Dx F (.str z) 8 0 := ⟨_, .str z, .nm h⟩
theorem Dx.str {z : Str} (h : ∀ c ∈ z.cps.toList, c < 16 ^ 8) : Dx F (.str z) z.cps.size 0 := ⟨_, .str z, .str h⟩
theorem DxA.nil : DxA F [] 0 k := ⟨_, .nil, .nil⟩
theorem DxA.cons (h : Dx F v w k) (t : DxA F vs W k) : DxA F (v :: vs) (w + 1 + W) k := let ⟨_, h1, h2⟩ := h; let ⟨_, t1, t2⟩ := t; ⟨_, .cons h1 t1, .cons h2 t2⟩
theorem DtAll.append {H : Hp} : ∀ {vs us : List V} {ds es : List PyData}, DtAll H vs ds → DtAll H us es → DtAll H (vs ++ us) (ds ++ es)
  | _, _, _, _, .nil, k => k
  | _, _, _, _, .cons h t, k => .cons h (DtAll.append t k)
theorem DxA.append (h : DxA F vs W k) (t : DxA F us U k) : DxA F (vs ++ us) (W + U) k := let ⟨_, h1, h2⟩ := h; let ⟨_, t1, t2⟩ := t; ⟨_, DtAll.append h1 t1, h2.append t2⟩
theorem DxA.all : ∀ {vs : List V}, (∀ v ∈ vs, Dx F v w k) → DxA F vs (vs.length * (w + 1)) k
  | [], _ => DxA.nil.more (by omega) (Nat.le_refl _)
  | v :: vs, h => (DxA.cons (h v List.mem_cons_self) (DxA.all fun e he => h e (List.mem_cons_of_mem _ he))).more (by rw [List.length_cons, Nat.succ_mul]; omega) (Nat.le_refl _)
theorem Dx.lst (h : F a = some (.lst vs)) (t : DxA F vs W k) : Dx F (.ref a) W (k + 1) := let ⟨_, t1, t2⟩ := t; ⟨_, .lst h t1, .list t2⟩
theorem Dx.tup (h : F a = some (.tup vs)) (t : DxA F vs W k) : Dx F (.ref a) W (k + 1) := let ⟨_, t1, t2⟩ := t; ⟨_, .tup h t1, .tuple t2⟩
theorem line_kv : ∀ (ks : List (Str × Int)), (∀ p ∈ ks, nmStr p.1 = true) → (∀ p ∈ ks, -(10 ^ 30) ≤ p.2 ∧ p.2 ≤ 10 ^ 30) → ∃ ds, DtKv F (lineK ks) ds ∧ DOkV ds (ks.length * 140) 0
  | [], _, _ => ⟨[], .nil, .nil⟩
  | p :: ks, h1, h2 => by
    obtain ⟨ds, q1, q2⟩ := line_kv ks (fun x hx => h1 x (List.mem_cons_of_mem _ hx)) fun x hx => h2 x (List.mem_cons_of_mem _ hx)
    have b := h2 p List.mem_cons_self
    have e : (10 : Int) ^ 30 < 10 ^ 39 := by decide
    refine ⟨(.str p.1, .int p.2) :: ds, .cons (k := .inr p.1) (.int p.2) q1, ?_⟩
    have := DOkV.cons (DOk.nm (h1 p List.mem_cons_self)) (DOk.int (i := p.2) (by omega) (by omega)) q2
    exact ⟨this.ls, this.sh, Nat.le_trans this.wt (by rw [List.length_cons, Nat.succ_mul]; omega), this.dp⟩
theorem Dx.line {ks : List (Str × Int)} (h : F a = some (.dK (lineK ks))) (ok : LineOk ks) : Dx F (.ref a) 5600 1 := by
  obtain ⟨ds, q1, q2⟩ := line_kv (F := F) ks ok.nm ok.ps
  exact ⟨_, .dct h q1, (DOk.dict q2).more (by have := ok.len2; omega) (Nat.le_refl _)⟩
theorem Dx.tS {p : Str × Str} {t : Addr} (h : F t = some (.tup [.str p.1, .str p.2])) (h1 : nmStr p.1 = true) (h2 : nmStr p.2 = true) : Dx F (.ref t) 18 1 :=
  (Dx.tup h (.cons (.nm h1) (.cons (.nm h2) .nil))).more (by decide) (Nat.le_refl _)
end

/-! ### many new things, none of them written again -/
def Has (F : Hp) (l : List (Addr × HO)) : Prop := ∀ x ∈ l, F x.1 = some x.2
section
variable {H H1 F F0 : Hp} {L l : List (Addr × HO)} {p a : Addr} {o : HO}
theorem Has.nil : Has F [] := fun _ h => nomatch h
theorem Has.get (h : Has F l) (i : Nat) (e : l[i]? = some (a, o) := by rfl) : F a = some o := h _ (List.mem_of_getElem? e)
theorem Has.mono {F' : Hp} (s : Same F F') (h : Has F l) : Has F' l := fun x hx => s _ _ (h x hx)
theorem Led.nh (D : Led H F L) (s : Same F0 F) (hh : Has F l) (hp : H p = none) (e : upd H p o = H1) : ∃ F1, Same F0 F1 ∧ Has F1 ((p, o) :: l) ∧ Led H1 F1 L := by
  obtain ⟨F1, s1, h1, _, D1⟩ := D.nf hp e
  refine ⟨F1, s.trans s1, fun x hx => ?_, D1⟩
  rcases List.mem_cons.mp hx with e | hx
  · rw [e]; exact h1
  · exact s1 _ _ (hh x hx)
theorem Led.after {H' : Hp} (D : Led H F L) (s : Same H H') : Led H' F L := ⟨D.ext.trans s, fun x hx => ⟨s _ _ (D.ent x hx).1, (D.ent x hx).2⟩, D.nd⟩
end
theorem y_disp {trs : List (TE × TE)} {σ : L2.St} {H : Hp} {Q : VK} (q : ∀ p, H p = none → tPairs trs σ (upd H p (.dK [])) fun ps H2 => H2 p = some (.dK []) ∧ ∃ kvs : List (Key × V), ps = kvs.map (fun kv => (kV kv.1, kv.2)) ∧ kvs.length ≤ 15 ∧ Q (.ref p) (upd H2 p (.dK (mergeK [] kvs)))) : tDisp trs σ H Q := q
end FL
namespace FL
open PySem PySem.Spec PyProof.Rows L2

/-! ### frames that are none, lists of frames with one that is none -/
section
variable {F : Hp} {ks : List (Str × Int)} {t l : Addr} {u v x : V} {xs : List V} {z : Str} {s s' : String} {W k : Nat}
theorem host_no (h : z ∉ ks.map (·.1)) : isHost ks (.str z) = false := by
  show (ks.any fun p => decide (p.1 = z)) = false
  rw [List.any_eq_false]
  intro p hp e
  exact h (List.mem_map.mpr ⟨p, hp, of_decide_eq_true e⟩)
theorem host_is (h : z ∈ ks.map (·.1)) : isHost ks (.str z) = true := by
  obtain ⟨p, hp, e⟩ := List.mem_map.mp h
  exact List.any_eq_true.mpr ⟨p, hp, decide_eq_true e⟩
theorem frP (h : F t = some (.tup [u, v])) (hu : Ar F u s) (hv : Ar F v s') (e : (isHost ks u && isHost ks v && !decide (u = v)) = false) : FrB ks F (.ref t) false := e ▸ .pair h hu hv
theorem frE (h : F t = some (.tup [.str z, .str z])) : FrB ks F (.ref t) false := frP h (.str _) (.str _) (by simp)
theorem frR (h : F t = some (.tup [u, v])) (hu : Ar F u s) (hv : Ar F v s') (e : isHost ks v = false) : FrB ks F (.ref t) false := frP h hu hv (by rw [e, Bool.and_false, Bool.false_and])
theorem frLf (h : F t = some (.tup [u, v])) (hu : Ar F u s) (hv : Ar F v s') (e : isHost ks u = false) : FrB ks F (.ref t) false := frP h hu hv (by rw [e, Bool.false_and, Bool.false_and])
theorem frT (h : F t = some (.tup xs)) (n : xs.length ≠ 2) (m : xs.length ≤ 100000) : FrB ks F (.ref t) false :=
  .no (.tup h) (fun t' u v e q => by cases e; rw [h] at q; cases q; exact n rfl) (fun t' ys e q => by cases e; rw [h] at q; cases q; exact m)
theorem frL (h : F t = some (.lst xs)) : FrB ks F (.ref t) false :=
  .no (.lst h) (fun t' u v e q => by cases e; rw [h] at q; cases q) (fun t' ys e q => by cases e; rw [h] at q; cases q)
theorem frD {kvs : List (Key × V)} (h : F t = some (.dK kvs)) : FrB ks F (.ref t) false :=
  .no (.dK h) (fun t' u v e q => by cases e; rw [h] at q; cases q) (fun t' ys e q => by cases e; rw [h] at q; cases q)
theorem frA (h : Ar F x s) (n : ∀ a, x ≠ .ref a) : FrB ks F x false := .no h (fun t _ _ e _ => n t e) (fun t _ e _ => absurd e (n t))
theorem frs_true : ∀ {xs : List V}, (∀ v ∈ xs, FrB ks F v true) → ∃ bs, Paired (FrB ks F) xs bs ∧ bs.all id = true
  | [], _ => ⟨[], .nil, rfl⟩
  | x :: xs, h => by
    obtain ⟨bs, p, e⟩ := frs_true fun v hv => h v (List.mem_cons_of_mem _ hv)
    exact ⟨true :: bs, .cons (h x List.mem_cons_self) p, e⟩
theorem frs_any : ∀ {xs : List V}, (∀ v ∈ xs, ∃ b, FrB ks F v b) → ∃ bs, Paired (FrB ks F) xs bs
  | [], _ => ⟨[], .nil⟩
  | x :: xs, h => by
    obtain ⟨bs, p⟩ := frs_any fun v hv => h v (List.mem_cons_of_mem _ hv)
    obtain ⟨b, q⟩ := h x List.mem_cons_self
    exact ⟨b :: bs, .cons q p⟩
theorem frs_false : ∀ {xs : List V}, x ∈ xs → FrB ks F x false → (∀ v ∈ xs, ∃ b, FrB ks F v b) → ∃ bs, Paired (FrB ks F) xs bs ∧ bs.all id = false
  | y :: xs, hx, f, h => by
    rcases List.mem_cons.mp hx with e | hx
    · subst e
      obtain ⟨bs, p⟩ := frs_any fun v hv => h v (List.mem_cons_of_mem _ hv)
      exact ⟨false :: bs, .cons f p, rfl⟩
    · obtain ⟨bs, p, e⟩ := frs_false hx f fun v hv => h v (List.mem_cons_of_mem _ hv)
      obtain ⟨b, q⟩ := h y List.mem_cons_self
      exact ⟨b :: bs, .cons q p, by rw [List.all_cons, e, Bool.and_false]⟩
theorem framesT (h : F l = some (.lst xs)) (n : xs.length ≤ 300) (q : ∀ v ∈ xs, FrB ks F v true) : FramesB ks F (.ref l) true := by
  obtain ⟨bs, p, e⟩ := frs_true q
  have := FramesB.lst h n p
  rw [e] at this
  exact this
theorem framesF (h : F l = some (.lst xs)) (n : xs.length ≤ 300) (hx : x ∈ xs) (f : FrB ks F x false) (q : ∀ v ∈ xs, ∃ b, FrB ks F v b) : FramesB ks F (.ref l) false := by
  obtain ⟨bs, p, e⟩ := frs_false hx f q
  have := FramesB.lst h n p
  rw [e] at this
  exact this
theorem pr_true {p : Str × Str} (h : F t = some (.tup [.str p.1, .str p.2])) (h1 : p.1 ∈ ks.map (·.1)) (h2 : p.2 ∈ ks.map (·.1)) (n : p.1 ≠ p.2) : FrB ks F (.ref t) true := by
  have := FrB.pair (ks := ks) h (.str _) (.str _)
  rw [host_is h1, host_is h2, decide_eq_false (fun e => n (by injection e))] at this
  exact this
theorem sendsT : ∀ {ts : List Addr} {ps : List (Str × Str)}, TupsAt F ts ps → (∀ p ∈ ps, p.1 ∈ ks.map (·.1) ∧ p.2 ∈ ks.map (·.1) ∧ p.1 ≠ p.2) → ∀ v ∈ ts.map V.ref, FrB ks F v true
  | _, _, .nil, _, v, hv => nomatch hv
  | t :: ts, p :: ps, .cons r tp, so, v, hv => by
    rcases List.mem_cons.mp hv with e | hv
    · rw [e]
      have q := so p List.mem_cons_self
      exact pr_true r q.1 q.2.1 q.2.2
    · exact sendsT tp (fun p hp => so p (List.mem_cons_of_mem _ hp)) v hv
theorem sendsX : ∀ {ts : List Addr} {ps : List (Str × Str)}, TupsAt F ts ps → (∀ p ∈ ps, nmStr p.1 = true ∧ nmStr p.2 = true) → ∀ v ∈ ts.map V.ref, Dx F v 18 1
  | _, _, .nil, _, v, hv => nomatch hv
  | t :: ts, p :: ps, .cons r tp, so, v, hv => by
    rcases List.mem_cons.mp hv with e | hv
    · rw [e]
      have q := so p List.mem_cons_self
      exact Dx.tS r q.1 q.2
    · exact sendsX tp (fun p hp => so p (List.mem_cons_of_mem _ hp)) v hv
/-- the sends with one wrong item among them -/
theorem mixF {a : Nat} {fs : List V} (h : F l = some (.lst (fs.take a ++ [x] ++ fs.drop a))) (hl : fs.length ≤ 299) (hf : ∀ v ∈ fs, FrB ks F v true) (f : FrB ks F x false) : FramesB ks F (.ref l) false := by
  refine framesF h ?_ (x := x) (by simp) f fun v hv => ?_
  · rw [List.length_append, List.length_append, List.length_take, List.length_drop, List.length_singleton]; omega
  · rcases List.mem_append.mp hv with hv | hv
    · rcases List.mem_append.mp hv with hv | hv
      · exact ⟨_, hf v (List.mem_of_mem_take hv)⟩
      · rw [List.mem_singleton.mp hv]; exact ⟨_, f⟩
    · exact ⟨_, hf v (List.mem_of_mem_drop hv)⟩
theorem mixX {a : Nat} {fs : List V} (h : F l = some (.lst (fs.take a ++ [x] ++ fs.drop a))) (hl : fs.length ≤ 299) (hf : ∀ v ∈ fs, Dx F v 18 1) (f : Dx F x 200 3) : Dx F (.ref l) 6000 4 := by
  refine (Dx.lst h (DxA.append (DxA.append (DxA.all (w := 18) (k := 3) fun v hv => (hf v (List.mem_of_mem_take hv)).more (Nat.le_refl _) (by decide)) (DxA.cons f DxA.nil)) (DxA.all (w := 18) (k := 3) fun v hv => (hf v (List.mem_of_mem_drop hv)).more (Nat.le_refl _) (by decide)))).more ?_ (Nat.le_refl _)
  rw [List.length_take, List.length_drop]; omega
theorem xN (h : nmStr z = true) : Dx F (.str z) 8 k := (Dx.nm h).more (Nat.le_refl _) (Nat.zero_le _)
theorem xS (h : ∀ c ∈ z.cps.toList, c < 16 ^ 8 := by decide) (e : z.cps.size ≤ 8 := by decide) : Dx F (.str z) 8 k := (Dx.str h).more e (Nat.zero_le _)
theorem xI {i : Int} (h0 : -(10 ^ 39) < i := by decide) (h1 : i < 10 ^ 39 := by decide) : Dx F (.int i) 130 k := (Dx.int h0 h1).more (Nat.le_refl _) (Nat.zero_le _)
theorem xB (b : Bool) : Dx F (.bl b) 0 k := (Dx.bl b).more (Nat.le_refl _) (Nat.zero_le _)
theorem xO : Dx F .non 0 k := Dx.non.more (Nat.le_refl _) (Nat.zero_le _)
theorem xD (h : F t = some (.dK [])) : Dx F (.ref t) 0 (k + 1) := ⟨_, .dct h .nil, DOk.dict (DOkV.nil (k := k))⟩
end
theorem alN {α : Type} {p : α → Prop} : ∀ x ∈ ([] : List α), p x := fun _ h => nomatch h
theorem alC {α : Type} {p : α → Prop} {a : α} {l : List α} (h : p a) (t : ∀ x ∈ l, p x) : ∀ x ∈ a :: l, p x := List.forall_mem_cons.mpr ⟨h, t⟩
theorem alA {α : Type} {p : α → Prop} {l m : List α} (h : ∀ x ∈ l, p x) (t : ∀ x ∈ m, p x) : ∀ x ∈ l ++ m, p x := fun x hx => (List.mem_append.mp hx).elim (h x) (t x)
theorem alR {α : Type} {p : α → Prop} {l : List α} {n : Nat} (h : ∀ x ∈ l, p x) : ∀ x ∈ (List.replicate n l).flatten, p x := fun x hx => by
  obtain ⟨m, hm, q⟩ := List.mem_flatten.mp hx
  rw [List.eq_of_mem_replicate hm] at q
  exact h x q
theorem flat_len {α : Type} (n : Nat) (x : α) : ((List.replicate n [x]).flatten).length = n := by simp
theorem Led.froz {H F : Hp} {L : List (Addr × HO)} {a : Addr} {o : HO} (D : Led H F ((a, o) :: L)) : ∃ F1, Same F F1 ∧ Has F1 [(a, o)] ∧ Led H F1 L :=
  ⟨upd F a o, D.grow, fun x hx => by rw [List.mem_singleton.mp hx]; exact upd_same, D.freeze⟩
theorem bit300 (q : Bool) (n : Prop) (h : q = true → n) : ∃ j : Nat, j ≤ 300 ∧ (300 * (if q = true then (1 : Int) else 0)) = (j : Int) ∧ (j = 0 ∨ n) := by
  cases q with
  | true => exact ⟨300, by decide, by simp, .inr (h rfl)⟩
  | false => exact ⟨0, by decide, by simp, .inl rfl⟩
theorem y_disp1 {σ : L2.St} {H : Hp} {Q : VK} {k : Str} {v : V} (q : ∀ p, H p = none → Q (.ref p) (upd H p (.dK [(.inr k, v)]))) : tDisp [(tC (.str k), tC v)] σ H Q := y_disp fun p np => by
  have e : upd (upd H p (.dK [])) p (.dK [(.inr k, v)]) = upd H p (.dK [(.inr k, v)]) := by
    funext b
    by_cases h : b = p
    · rw [h, upd_same, upd_same]
    · rw [upd_ne h, upd_ne h, upd_ne h]
  have h := q p np
  rw [← e] at h
  exact ⟨upd_same, [(.inr k, v)], rfl, by simp, h⟩
theorem oneA : LineOk [("a", 0)] := ⟨by decide, by decide, by decide, by decide, by decide, by decide⟩
theorem Ar.lock {H : Hp} {x : V} {s : String} {a : Addr} {o : HO} (h : Ar H x s) (n : x ≠ .ref a) : Ar (upd H a o) x s := by
  cases h with
  | non => exact .non
  | bl b => exact .bl b
  | int i => exact .int i
  | str x => exact .str x
  | lst h => exact .lst (by rw [upd_ne (fun e => n (by rw [e]))]; exact h)
  | tup h => exact .tup (by rw [upd_ne (fun e => n (by rw [e]))]; exact h)
  | dK h => exact .dK (by rw [upd_ne (fun e => n (by rw [e]))]; exact h)
end FL
namespace FL
open PySem PySem.Spec PyProof.Rows L2

/-! ### a law's def, called by nobody else: no repr runs -/
section
variable {P : Program} {w : World} {K : PySem.W.Frag} {mg : Str → Option Value} {k : Nat} {f a : Addr} {nm x : Str} {sp : Sp} {z : Shared} {us : List Value} {ns : List Int}
/-- what the script's list is, in the abstract -/
theorem pick_script (ha : z.heap.get? a = some { cls := .type "list", data := .seq us.toArray }) (hi : IntsAre us ns) (hl : ns.length ≤ sizeLine) (kx : K.In z.heap) :
    ∃ H : Hp, HOk P w H z.heap ∧ SqL K H a (ns.map V.int) ∧ ∀ b o, H b = some o → b = a ∧ K.lookup a = none ∧ ∃ o' xs, o = .frz o' (.lst xs) := by
  have rv := vals_ints hi
  cases hk : K.lookup a with
  | some o =>
    have e := (kx a o hk).symm.trans ha
    cases e
    refine ⟨fun _ => none, (fun b o q => nomatch q), .inr ⟨_, us.toArray, _, hk, rfl, rfl, rfl, ?_, ?_⟩, fun b o q => nomatch q⟩
    · rw [List.size_toArray, hi.length]; exact hl
    · simpa using rv
  | none =>
    refine ⟨upd (fun _ => none) a (.frz { cls := .type "list", data := .seq us.toArray } (.lst (ns.map V.int))), fun b o q => ?_, .inl (.inr ⟨_, upd_same⟩), fun b o q => ?_⟩
    · by_cases hb : b = a
      · subst hb
        rw [upd_same] at q
        cases q
        exact ⟨ha, by rw [List.length_map]; exact hl, us, _, rv, ha⟩
      · rw [upd_ne hb] at q; cases q
    · by_cases hb : b = a
      · subst hb
        rw [upd_same] at q
        cases q
        exact ⟨rfl, rfl, _, _, rfl⟩
      · rw [upd_ne hb] at q; cases q
theorem run_script (M : L2.Mod K mg z.heap) (hsm : ∃ o es ep, z.heap.get? sysModules = some o ∧ o.data = .dict es ep) (hg : z.gens = #[])
    (ha : z.heap.get? a = some { cls := .type "list", data := .seq us.toArray }) (hi : IntsAre us ns) (hl : ns.length ≤ sizeLine) (hr : Room k callerA)
    (hf : mg nm = some (.ref f)) (F : ∀ base : Heap, (∃ o, base.get? sysModules = some o) → DfnG P w K mg base nm [x] k sp)
    (hsp : ∀ H : Hp, SqL K H a (ns.map V.int) → sp [.ref a] H (fun v _ => v = .bl true) fun _ _ _ => False) :
    codeAny (model P w) callerA (.call (.ref f) ⟨[.ref a], []⟩) (fun r s' => r = .ok (.ret (.bool true)) ∧ OldK z.heap s'.heap ∧ s'.os = z.os ∧ AllBare s'.gens) z := by
  obtain ⟨H, ok, hs, own⟩ := pick_script (P := P) (w := w) ha hi hl M.kin
  have notA : ∀ {b : Addr} {o : Obj} {es : Array DictEntry} {ep : Nat}, z.heap.get? b = some o → o.data = .dict es ep → H b = none := fun {b o es ep} e d => by
    cases q : H b with
    | none => rfl
    | some u =>
      obtain ⟨rfl, _⟩ := own b u q
      rw [ha] at e
      cases e
      cases (show Data.seq us.toArray _ = Data.dict es ep from d)
  have ns_up : ∀ {b : Addr} {m : Str → Option Value}, z.heap.Ns b m → (hidT z.heap H).Ns b m := fun ⟨o, es, ep, e, d, r⟩ => ⟨o, es, ep, hidT_get e (notA e d), d, r⟩
  have kin : K.In (hidT z.heap H) := fun b o e => hidT_get (M.kin b o e) (by
    cases q : H b with
    | none => rfl
    | some u =>
      obtain ⟨rfl, h, _⟩ := own b u q
      rw [h] at e
      cases e)
  obtain ⟨mb, b1, b2⟩ := M.blt
  obtain ⟨mc, c1, c2⟩ := M.nolimit
  have M' : L2.Mod K mg (hidT z.heap H) := { kin := kin, glob := ns_up M.glob, blt := ⟨mb, ns_up b1, b2⟩, nolimit := ⟨mc, ns_up c1, c2⟩ }
  have sm : ∃ o, (hidT z.heap H).get? sysModules = some o := let ⟨o, _, _, e, d⟩ := hsm; ⟨o, hidT_get e (notA e d)⟩
  have start : Env0 P w K mg (hidT z.heap H) callerA [] z H :=
    { frames := rfl, mod := M', bs := fun _ _ e => of_hidT e, bsz := Nat.le_of_eq (hidT_size _ _), funs := trivial, frf := fun b hm => absurd hm (by show b ∉ ([] : List Addr); simp), hok := ok, bare := .of_eq hg }
  obtain ⟨f', fd, hm', _, hb, FF⟩ := (F _ sm).ex
  cases hm'.symm.trans hf
  have bt := hb z [Value.ref a] M.kin rfl
  rw [List.append_nil] at bt
  have call := FF.run callerA [] z H ⟨[.ref a], []⟩ [.ref a] [.ref a] _ _ hr rfl start bt (.cons rfl .nil) (hsp H hs)
  refine codeAny_mono call fun r s' end_ => ?_
  match r, end_ with
  | .error e, h => exact False.elim h
  | .ok .next, h => exact False.elim h
  | .ok .brk, h => exact False.elim h
  | .ok .cont, h => exact False.elim h
  | .ok (.ret u), ⟨v, H', e1, e2, un, ok', rv, hv⟩ =>
    have hv : v = .bl true := hv
    subst hv
    cases (show u = Value.bool true from rv)
    refine ⟨rfl, OldK.of_keep fun b o e => ?_, e1, e2⟩
    cases q : H b with
    | none => exact un.keep b o e q (fun hm => absurd hm (by show b ∉ ([] : List Addr); simp)) (by simp)
    | some u =>
      obtain ⟨rfl, _, o', xs, rfl⟩ := own b u q
      have g1 := (ok b _ q).1
      have g2 := (ok' b _ (un.frzs b o' _ q)).1
      rw [e] at g1
      cases g1
      exact g2
end
/-- the goal that the head leaves, from what the law's def promises -/
theorem law_end {l : PySem.W.OpenLaw} {n k : Nat} {q : Program} {loose : List Str} {XP : (Str → Option Value) → Heap → Prop} {YP : World → Heap → Prop} {d : DefRec} {K : Params → PySem.W.Frag} {x : Str} {sp : PySem.W.Frag → Sp}
    (hn : l.most = some n) (hn2 : n ≤ sizeLine) (hdf : d.params.defaults = []) (hr : Room k callerA) (hY : ∀ (w : World) (h : Heap), YP w h → (K w.params).In h) (hi : importsNone q = true)
    (F : ∀ (w : World) (mg : Str → Option Value) (h : Heap), (K w.params).In h → h.Ns mainGlobals mg → XP mg h → ∀ base : Heap, (∃ o, base.get? sysModules = some o) → DfnG l.prog w (K w.params) mg base d.name [x] k (sp (K w.params)))
    (hsp : ∀ (K : PySem.W.Frag) (H : Hp) (a : Addr) (ns : List Int), ns.length ≤ n → SqL K H a (ns.map V.int) → sp K [.ref a] H (fun v _ => v = .bl true) fun _ _ _ => False) :
    PySem.W.WalkO q loose XP YP l.row.toRowW d [] (fun f vs => PySem.call f vs) := by
  refine Att.attach_call hn hdf fun w s₀ z mg mb fa o pm cd doc a us ns G Y ho hd hcd hmg hobj hints hlen hg => ?_
  have kx := hY w _ Y
  obtain ⟨mm, m1, _⟩ := (G.T.seer hi).mods
  obtain ⟨so, es, ep, m2, m3, _⟩ := m1
  exact run_script ⟨kx, G.T.g, ⟨mb, G.T.b, G.T.builtins⟩, G.T.nolimit⟩ ⟨so, es, ep, m2, m3⟩ hg hobj hints (Nat.le_trans hlen hn2) hr hmg (F w mg z.heap kx G.T.g G.X) (fun H hS => hsp _ H a ns hlen hS)
end FL
namespace FL
open PySem PySem.Spec PyProof.Rows L2

/-! ### intervals as data -/
abbrev Span := Option (Option Int × Option Int)
def oV : Option Int → V
  | none => .non
  | some i => .int i
def SpanAt (F : Hp) (v : V) : Span → Prop
  | none => v = .non
  | some (l, h) => ∃ t, v = .ref t ∧ F t = some (.tup [oV l, oV h])
theorem SpanAt.mono {F F' : Hp} {v : V} : ∀ {s : Span}, Same F F' → SpanAt F v s → SpanAt F' v s
  | none, _, h => h
  | some (_, _), e, ⟨t, h1, h2⟩ => ⟨t, h1, e _ _ h2⟩
def lowOk : Option Int → Int → Bool
  | none, _ => true
  | some i, p => decide (i ≤ p)
def highOk : Option Int → Int → Bool
  | none, _ => true
  | some i, p => decide (p ≤ i)
def inSpan : Span → Int → Bool
  | none, _ => false
  | some (l, h), p => lowOk l p && highOk h p

/-! ### dicts with text keys, any values; states -/
def strK (es : List (Str × V)) : List (Key × V) := es.map fun p => (.inr p.1, p.2)
theorem strK_app (es fs : List (Str × V)) : strK (es ++ fs) = strK es ++ strK fs := List.map_append ..
theorem strK_len (es : List (Str × V)) : (strK es).length = es.length := List.length_map ..
theorem strK_keys (es : List (Str × V)) : (strK es).map (·.1) = (es.map (·.1)).map Sum.inr := by
  unfold strK
  rw [List.map_map, List.map_map]; rfl
theorem putK_str {es : List (Str × V)} {z : Str} (v : V) (h : z ∉ es.map (·.1)) : putK (strK es) (.inr z) v = strK (es ++ [(z, v)]) := by
  unfold putK
  rw [if_neg]
  · rw [strK_app]; rfl
  · rw [List.any_eq_true]
    rintro ⟨kv, hm, e⟩
    have e := of_decide_eq_true e
    obtain ⟨p, hp, rfl⟩ := List.mem_map.mp hm
    have e : (Sum.inr p.1 : Key) = Sum.inr z := e
    injection e with e
    exact h (List.mem_map.mpr ⟨p, hp, e⟩)
theorem merge_str : ∀ (fs es : List (Str × V)), ((es ++ fs).map (·.1)).Nodup → mergeK (strK es) (strK fs) = strK (es ++ fs)
  | [], es, _ => by rw [List.append_nil]; rfl
  | p :: fs, es, h => by
    show mergeK (putK (strK es) (.inr p.1) p.2) (strK fs) = _
    have hn : p.1 ∉ es.map (·.1) := fun z => by
      rw [List.map_append, List.map_cons, List.nodup_append] at h
      exact h.2.2 _ z _ List.mem_cons_self rfl
    rw [putK_str p.2 hn, merge_str fs _ (by rw [List.append_assoc]; exact h), List.append_assoc]; rfl
theorem valV_str {z : Str} {v : V} : ∀ {es : List (Str × V)}, (z, v) ∈ es → (es.map (·.1)).Nodup → valV (strK es) (.inr z) = some v
  | p :: es, h, nd => by
    show valV ((Sum.inr p.1, p.2) :: strK es) (Sum.inr z : Key) = _
    rcases List.mem_cons.mp h with e | h
    · rw [valV_pos (by show (Sum.inr p.1 : Key) = Sum.inr z; rw [← e]), ← e]
    · have hn := List.nodup_cons.mp nd
      have ne : p.1 ≠ z := fun e => hn.1 (by show p.1 ∈ _; rw [e]; exact List.mem_map.mpr ⟨_, h, rfl⟩)
      have ih := valV_str h hn.2
      unfold valV at ih ⊢
      rw [List.find?_cons_of_neg (by simp; exact ne)]
      exact ih
/-- a state stands at d: the hosts in some order, the interval of each -/
def StAt (F : Hp) (ks : List (Str × Int)) (d : Addr) (sp : Str → Span) : Prop :=
  ∃ es : List (Str × V), F d = some (.dK (strK es)) ∧ (es.map (·.1)).Perm (ks.map (·.1)) ∧ ∀ p ∈ es, SpanAt F p.2 (sp p.1)
theorem StAt.mono {F F' : Hp} {ks : List (Str × Int)} {d : Addr} {sp : Str → Span} (s : Same F F') : StAt F ks d sp → StAt F' ks d sp :=
  fun ⟨es, h1, h2, h3⟩ => ⟨es, s _ _ h1, h2, fun p hp => (h3 p hp).mono s⟩
/-- an interval that a host at o may have on the line ks -/
def spanOk (ks : List (Str × Int)) (o : Int) : Span → Prop
  | none => True
  | some (l, h) => (∀ i, l = some i → i ∈ ks.map (·.2) ∧ i ≤ o) ∧ ∀ i, h = some i → i ∈ ks.map (·.2) ∧ o ≤ i

/-! ### a comprehension over a dict's values, the dict locked meanwhile; its items make nothing new -/
section
variable {H F H' : Hp} {L : List (Addr × HO)} {a : Addr} {o u : HO}
theorem Led.lockF (D : Led H F L) (hf : F a = some u) : Led (upd H a o) (upd F a o) L := by
  refine ⟨fun b x e => ?_, fun x hx => ?_, D.nd⟩
  · by_cases hb : b = a
    · subst hb; rw [upd_same] at e ⊢; exact e
    · rw [upd_ne hb] at e ⊢; exact D.ext b x e
  · have q := D.ent x hx
    have ne : x.1 ≠ a := fun e => by rw [e, hf] at q; cases q.2
    rw [upd_ne ne, upd_ne ne]; exact q
theorem Led.unlock (D : Led H' (upd F a o) L) (hf : F a = some u) : Led (upd H' a u) F L := by
  refine ⟨fun b x e => ?_, fun x hx => ?_, D.nd⟩
  · by_cases hb : b = a
    · subst hb; rw [hf] at e; rw [upd_same]; exact e
    · rw [upd_ne hb]; exact D.ext b x (by rw [upd_ne hb]; exact e)
  · have q := D.ent x hx
    have ne : x.1 ≠ a := fun e => by rw [e, upd_same] at q; cases q.2
    rw [upd_ne ne] at q ⊢; exact q
theorem walk_vals {kvs : List (Key × V)} {od : Obj} : WalkIt (Itd a od kvs) kvs.length (fun i x => ∃ k, kvs[i]? = some (k, x)) (fun H => H a = some (.frz od (.dK kvs))) where
  go := fun i H h hi => ⟨h, hi⟩
  yld := fun i H x H' h y => ⟨y.1, y.2⟩
  stop := fun H h => ⟨h, Nat.le_refl _⟩
end
section
variable {σ : L2.St} {H F : Hp} {L : List (Addr × HO)} {a : Addr} {kvs : List (Key × V)} {Q : VK} {g : TG} {tt : TT} {te tc : TE} {vs : List Nat}
theorem lc_lockVals (D0 : Led H F L) (hf : F a = some (.dK kvs)) (hn : kvs.length ≤ 100000) (acc : Nat → List V) (h0 : acc 0 = []) (he : ∀ H1 R, R (.ref a) H1 → tc σ H1 R)
    (turn : ∀ (od : Obj) (Kp : V → Hp → Prop) (Sk : Hp → Prop) i H' x k, kvs[i]? = some (k, x) → H' a = some (.frz od (.dK kvs)) → (∀ y, acc (i + 1) = acc i ++ [y] → Kp y H') → (acc (i + 1) = acc i → Sk H') →
      g x (wipe σ vs) H' fun σ2 H2 => wipe σ2 vs = wipe σ vs ∧ tt σ2 H2 fun b H3 => if b = true then te σ2 H3 Kp else Sk H3)
    (done : ∀ Dl H', Led H' F ((Dl, .lst (acc kvs.length)) :: L) → Q (.ref Dl) H') : tLockE (tLc (iVals tc) g tt te vs) σ H Q := by
  refine ⟨a, .dK kvs, D0.frz hf, trivial, fun od => ?_⟩
  refine y_lc (he _ _ ⟨a, od, kvs, rfl, upd_same, ?_⟩)
  refine lc_led (D0.lockF hf) walk_vals hn (fun i ac F' L' => F' = upd F a (.frz od (.dK kvs)) ∧ L' = L ∧ ac = acc i) ⟨rfl, rfl, h0.symm⟩ (fun i ac F' L' H' Dl ⟨e, _, _⟩ D => D.frz (by rw [e, upd_same])) ?_ ?_
  · rintro Kp Sk i ac F' L' H' Dl x hi ⟨k, hx⟩ ⟨rfl, rfl, rfl⟩ D ha kp sk
    exact turn od Kp Sk i H' x k hx (D.frz upd_same) (fun y e => kp y _ _ H' D ⟨rfl, rfl, e.symm⟩) (fun e => sk _ _ H' D ⟨rfl, rfl, e.symm⟩)
  · rintro ac F' L' H' Dl ⟨rfl, rfl, rfl⟩ D ha
    exact ⟨D.frz upd_same, done Dl _ (D.unlock hf)⟩
end
theorem line_at {ks : List (Str × Int)} {i : Nat} {k : Key} {v : V} (h : (lineK ks)[i]? = some (k, v)) : ∃ p, ks[i]? = some p ∧ (k, v) = (.inr p.1, .int p.2) := by
  unfold lineK at h
  rw [List.getElem?_map] at h
  cases e : ks[i]? with
  | none => rw [e] at h; cases h
  | some p => rw [e] at h; exact ⟨p, rfl, (Option.some.inj h).symm⟩
theorem side_at {ks : List (Str × Int)} {pr : Str × Int → Bool} {d : Int} (h0 : 0 ≤ d) (h1 : d < ((((ks.filter pr).map fun p => V.int p.2) ++ [V.non]).length : Int)) :
    ∃ l : Option Int, atI (((ks.filter pr).map fun p => V.int p.2) ++ [V.non]) d = some (oV l) ∧ ∀ i, l = some i → ∃ p ∈ ks, p.2 = i ∧ pr p = true := by
  obtain ⟨k, rfl⟩ := Int.eq_ofNat_of_zero_le h0
  have hk : k < (((ks.filter pr).map fun p => V.int p.2) ++ [V.non]).length := by omega
  have hm := List.getElem_mem hk
  have e := List.getElem?_eq_getElem hk
  rcases List.mem_append.mp hm with m | m
  · obtain ⟨p, hp, q⟩ := List.mem_map.mp m
    obtain ⟨p1, p2⟩ := List.mem_filter.mp hp
    refine ⟨some p.2, at_nat (by rw [e, ← q]; rfl), fun i e => ?_⟩
    cases e
    exact ⟨p, p1, rfl, p2⟩
  · refine ⟨none, at_nat (by rw [e, List.mem_singleton.mp m]; rfl), fun i e => nomatch e⟩
theorem take_fresh {ys : List Str} {i : Nat} {z : Str} (nd : ys.Nodup) (h : ys[i]? = some z) : z ∉ ys.take i := fun m => by
  have e : ys.take (i + 1) = ys.take i ++ [z] := by rw [List.take_add_one, h]; rfl
  have n2 : (ys.take (i + 1)).Nodup := nd.sublist (List.take_sublist _ _)
  rw [e, List.nodup_append] at n2
  exact n2.2.2 z m z List.mem_cons_self rfl
theorem posOf_eq {ks : List (Str × Int)} {p : Str × Int} (nd : (ks.map (·.1)).Nodup) (h : p ∈ ks) : posOf ks p.1 = p.2 := by
  have h1 := valV_line_some (z := p.1) (n := p.2) h nd
  have h2 := valV_line_some (posOf_in (List.mem_map.mpr ⟨p, h, rfl⟩)) nd
  rw [h1] at h2
  exact (V.int.inj (Option.some.inj h2)).symm
/-- intervals by name, out of a list -/
def spOf (fs : List (Str × Span)) (z : Str) : Span := ((fs.find? fun f => decide (f.1 = z)).map (·.2)).getD none
theorem spOf_in : ∀ {fs : List (Str × Span)} {f : Str × Span}, (fs.map (·.1)).Nodup → f ∈ fs → spOf fs f.1 = f.2
  | g :: fs, f, nd, h => by
    have hn := List.nodup_cons.mp nd
    unfold spOf
    rcases List.mem_cons.mp h with e | h
    · rw [List.find?_cons_of_pos (by simp [e]), e]; rfl
    · have ne : g.1 ≠ f.1 := fun e => hn.1 (by show g.1 ∈ _; rw [e]; exact List.mem_map.mpr ⟨f, h, rfl⟩)
      rw [List.find?_cons_of_neg (by simp; exact ne)]
      exact spOf_in hn.2 h
theorem paired_mem {α β : Type} {F : α → β → Prop} : ∀ {xs : List α} {ys : List β}, Paired F xs ys → ∀ x ∈ xs, ∃ y ∈ ys, F x y
  | _, _, .nil, x, h => nomatch h
  | _, _, .cons r t, x, h => by
    rcases List.mem_cons.mp h with e | h
    · subst e; exact ⟨_, List.mem_cons_self, r⟩
    · obtain ⟨y, h1, h2⟩ := paired_mem t x h
      exact ⟨y, List.mem_cons_of_mem _ h1, h2⟩
theorem paired_fst {G : (Str × V) → (Str × Span) → Prop} : ∀ {es : List (Str × V)} {fs : List (Str × Span)}, Paired G es fs → (∀ e f, G e f → e.1 = f.1) → es.map (·.1) = fs.map (·.1)
  | _, _, .nil, _ => rfl
  | _, _, .cons r t, h => by rw [List.map_cons, List.map_cons, h _ _ r, paired_fst t h]
end FL
/-! ### sorted of pairs of an int and a text, no int with two texts -/
namespace SrtF
open PySem PySem.W PySem.Calls PyProof.Rows Srt SrtO
def IsIS (h : Heap) (v : Value) (x : Int) (z : Str) : Prop := ∃ b ob t u n, v = .ref b ∧ h.get? b = some ob ∧ ob.cls = .type "tuple" ∧ ob.data = .seq #[.int x t, .str z u] n
theorem IsIS.up {h h' : Heap} {v : Value} {x : Int} {z : Str} (p : IsIS h v x z) (k : ∀ b o, h.get? b = some o → o.cls = .type "tuple" → h'.get? b = some o) : IsIS h' v x z :=
  let ⟨b, ob, t, u, n, e1, e2, e3, e4⟩ := p; ⟨b, ob, t, u, n, e1, k _ _ e2 e3, e3, e4⟩
def byFst (k : Value → Int × Str) (v u : Value) : Bool := decide ((k v).1 < (k u).1)
theorem swo_fst {α : Type} (f : α → Int) : Swo fun v u => decide (f v < f u) :=
  ⟨fun x y h => decide_eq_false (by have := of_decide_eq_true h; omega), fun x y z h1 h2 => decide_eq_false (by have := of_decide_eq_false h1; have := of_decide_eq_false h2; omega)⟩
theorem heads_of {h : Heap} : ∀ {us : List Value}, (∀ v ∈ us, ∃ x z, IsIS h v x z) → ∃ fs : List Value, KatTups h us fs ∧ fs.length = us.length ∧ ∀ f ∈ fs, ∃ x t, f = Value.int x t
  | [], _ => ⟨[], .nil, rfl, fun _ q => nomatch q⟩
  | v :: us, hp => by
    obtain ⟨fs, k1, k2, k3⟩ := heads_of (us := us) fun y hy => hp y (.tail _ hy)
    obtain ⟨x, z, b, ob, t, u, n, rfl, e2, e3, e4⟩ := hp v (.head _)
    refine ⟨.int x t :: fs, .cons e2 e3 e4 rfl k1, by simp [k2], fun f hf => ?_⟩
    rcases List.mem_cons.mp hf with e | hf
    · exact ⟨x, t, e⟩
    · exact k3 f hf
section
variable {prog : Program} {w : World} {A : Around} {E : Value → Shared → Prop} {s : Shared}
theorem cmp_is {us : List Value} {k : Value → Int × Str} (hp : ∀ v ∈ us, IsIS s.heap v (k v).1 (k v).2) (hd : ∀ v ∈ us, ∀ u ∈ us, (k v).1 = (k u).1 → (k v).2 = (k u).2) :
    Cmp prog w A s (tuples' true) (fun p => p.1 ∈ us) (lt2 (byFst k)) := by
  intro p q mp mq
  have ip := hp _ mp
  have iq := hp _ mq
  have dd := hd _ mp _ mq
  show wpAny (model prog w) A (keyLt' (tuples' true) p.1 q.1) (fun r s' => s' = s ∧ r = decide ((k p.1).1 < (k q.1).1)) (fun _ _ => False) s
  generalize (k p.1).1 = x at ip dd ⊢
  generalize (k p.1).2 = z at ip dd
  generalize (k q.1).1 = x' at iq dd ⊢
  generalize (k q.1).2 = z' at iq dd
  obtain ⟨b, ob, t, u, n, e1, e2, e3, e4⟩ := ip
  obtain ⟨b', ob', t', u', n', e1', e2', e3', e4'⟩ := iq
  rw [e1, e1']
  refine kat_lt e2 e4 e2' e4' ?_
  show KatLex prog w A true (decide (2 < 2)) _ [(.int x t, .int x' t'), (.str z u, .str z' u')] 0 s
  refine kat_cons (SeqAt.EqAt.int_int x t x' t' prog w _ _ ?_)
  refine kat_go (fun eq => ?_) (fun ne => ?_)
  · have ex : x = x' := by simpa using eq
    have ez := dd ex
    subst ex ez
    refine kat_yes (kat_cons (SeqAt.EqAt.str_str z u z u' prog w _ _ ?_))
    refine kat_go (fun _ => ?_) (fun ne => ?_)
    · exact kat_yes (kat_nil ⟨rfl, (decide_eq_false (Int.lt_irrefl _)).symm⟩)
    · exact absurd ne (by simp)
  · exact kat_no (oneLt_int ⟨rfl, rfl⟩)
theorem sorted_is {l : Addr} {us : List Value} {k : Value → Int × Str} {Q : Value → Shared → Prop} (hl : s.heap.IsList l us.toArray) (hz : us.length ≤ sizeLine) (hp : ∀ v ∈ us, IsIS s.heap v (k v).1 (k v).2)
    (hd : ∀ v ∈ us, ∀ u ∈ us, (k v).1 = (k u).1 → (k v).2 = (k u).2)
    (h : ∀ (h' : Heap) (d : Addr) (out : List Value), Srtd (byFst k) out → out.Perm us → (∀ b o, s.heap.get? b = some o → h'.get? b = some o) → s.heap.objs.size ≤ d → (∃ n, h'.get? d = some (seqObj "list" out.toArray n)) → Q (.ref d) { s with heap := h' }) :
    wpAny (model prog w) A (call (.builtin "sorted") [.ref l]) Q E s := by
  refine sorted_ord (swo_fst fun v => (k v).1) hl hz (fun h2 h1 a ha kk => ?_) fun out hs hb => h _ _ out hs hb.perm (fun b o e => sortedAll_old e) (Nat.le_succ _) (sortedAll_at s.heap us out.toArray)
  intro h' keep
  have at1 : ∀ v ∈ us, IsIS h' v (k v).1 (k v).2 := fun v hv => (hp v hv).up fun b o e c => keep b o (fun z => by
    subst z
    exact (kk _ _ e).1 rfl) (kk _ _ e).2
  obtain ⟨fs, k1, k2, k3⟩ := heads_of fun v hv => ⟨_, _, at1 v hv⟩
  refine ⟨tuples' true, fun Q E hq => ?_, cmp_is at1 hd⟩
  refine kat_kind (T := .type "int") k1 (by omega) (fun f hf => ?_) (by rfl) ?_
  · obtain ⟨x, t, rfl⟩ := k3 f hf
    exact Looks.now
  · rw [show (Value.type "int" != Value.type "tuple") = true from by decide +kernel]
    exact hq
end
end SrtF
namespace FL
open PySem PySem.Spec PyProof.Rows L2
def rSortedF (K : PySem.W.Frag) : List V → Hp → VK → Prop := fun vs H Q => ∃ (a : Addr) (xs : List V) (k : V → Int × Str), vs = [V.ref a] ∧ SqL K H a xs ∧ (∀ x ∈ xs, ∃ t, x = V.ref t ∧ H t = some (.tup [.int (k x).1, .str (k x).2])) ∧
  (∀ x ∈ xs, ∀ y ∈ xs, (k x).1 = (k y).1 → (k x).2 = (k y).2) ∧ ∀ ys p, ys.Perm xs → ys.Pairwise (fun x y => (k x).1 ≤ (k y).1) → H p = none → Q (.ref p) (upd H p (.lst ys))
theorem cr_sortedF {X : Cx} : CallR X (.builtin "sorted") (rSortedF X.K) := by
  intro pins s σ H vs us Q I r h
  obtain ⟨a, xs, k, rfl, hs, hx, hd, q⟩ := h
  obtain ⟨its, rv, hl, hz⟩ := I.list hs
  obtain ⟨u, rfl, ru⟩ := vals1 r
  obtain rfl : u = Value.ref a := ru
  obtain ⟨e1, e2⟩ := refs_back rv fun x m => let ⟨t, e, _⟩ := hx x m; ⟨t, e⟩
  have inX : ∀ v ∈ its, backV v ∈ xs := fun v hv => by rw [e1]; exact List.mem_map.mpr ⟨_, hv, rfl⟩
  refine SrtF.sorted_is (k := fun u => k (backV u)) hl.isList (by rw [← rv.length]; exact hz) (fun v hv => ?_) (fun v hv u hu => hd _ (inX v hv) _ (inX u hu)) fun h' d out h1 h2 kp hd2 hn => ?_
  · have hm := inX v hv
    obtain ⟨t, rfl⟩ := e2 v hv
    obtain ⟨t', e, ht⟩ := hx _ hm
    cases e
    obtain ⟨_, its2, r2, o, ho, hc, n, hd3⟩ := I.hok _ _ ht
    obtain ⟨u1, u2, rfl, ⟨t1, rfl⟩, ⟨t2, rfl⟩⟩ := vals2 r2
    exact ⟨t, o, t1, t2, n, rfl, ho, hc, hd3⟩
  · have h3 : ∀ u ∈ out, ∃ a, u = Value.ref a := fun u hu => e2 u (h2.mem_iff.mp hu)
    obtain ⟨n, hn⟩ := hn
    have hb : (out.map backV).Perm xs := by rw [e1]; exact h2.map backV
    refine ⟨.ref d, upd H d (.lst (out.map backV)), I.laid (t' := s.toks) kp hd2 ⟨by rw [hb.length_eq]; exact hz, out, n, vals_back h3, hn⟩, rfl, q _ d hb ?_ (I.hok.fresh hd2)⟩
    exact List.pairwise_map.mpr (h1.imp fun {v u} e => Int.not_lt.mp (of_decide_eq_false e))
end FL
namespace FL
open PySem PySem.Spec PyProof.Rows L2
section
variable {σ : L2.St} {H F : Hp} {L : List (Addr × HO)} {a : Addr} {kvs : List (Key × V)} {Q : VK} {g : TG} {tt : TT} {te tc : TE} {vs : List Nat}
/-- a comprehension over a dict's items, the dict locked meanwhile -/
theorem lc_lockItems (D0 : Led H F L) (hf : F a = some (.dK kvs)) (hn : kvs.length ≤ 100000) (Inv : Nat → List V → Hp → Prop) (h0 : ∀ F', Inv 0 [] F') (he : ∀ H1 R, R (.ref a) H1 → tc σ H1 R)
    (turn : ∀ (od : Obj) (Kp : V → Hp → Prop) (Sk : Hp → Prop) i acc F' H' T Dl k v, kvs[i]? = some (k, v) → F' a = some (.frz od (.dK kvs)) → Inv i acc F' → Led H' F' ((Dl, .lst acc) :: L) → F' T = some (.tup [kV k, v]) → acc.length ≤ i →
      (∀ y F2 H4, Same F' F2 → Led H4 F2 ((Dl, .lst acc) :: L) → Inv (i + 1) (acc ++ [y]) F2 → Kp y H4) →
      g (.ref T) (wipe σ vs) H' fun σ2 H2 => wipe σ2 vs = wipe σ vs ∧ tt σ2 H2 fun b H3 => if b = true then te σ2 H3 Kp else Sk H3)
    (mono : ∀ i acc F1 F2, Inv i acc F1 → Same F1 F2 → Inv i acc F2)
    (fin : ∀ od acc F1 F2, Inv kvs.length acc F1 → F1 a = some (.frz od (.dK kvs)) → (∀ b o, b ≠ a → F1 b = some o → F2 b = some o) → Inv kvs.length acc F2)
    (done : ∀ acc Dl F' H', Same F F' → Inv kvs.length acc F' → Led H' F' ((Dl, .lst acc) :: L) → acc.length ≤ kvs.length → Q (.ref Dl) H') : tLockE (tLc (iItems tc) g tt te vs) σ H Q := by
  refine ⟨a, .dK kvs, D0.frz hf, trivial, fun od => ?_⟩
  refine y_lc (he _ _ ⟨a, od, kvs, rfl, upd_same, ?_⟩)
  have D1 := D0.lockF (o := .frz od (.dK kvs)) hf
  intro Dl hD
  refine ⟨fun i m H' => m = kvs.length - i ∧ i ≤ kvs.length ∧ ∃ acc F', Same (upd F a (.frz od (.dK kvs))) F' ∧ Led H' F' ((Dl, .lst acc) :: L) ∧ Inv i acc F' ∧ acc.length ≤ i, ⟨kvs.length, by omega, by omega, [], _, Same.refl _, D1.new hD, h0 _, Nat.le_refl _⟩, ?_⟩
  rintro i m H' ⟨rfl, hi, acc, F', s, D, I, ha⟩
  have hfa : F' a = some (.frz od (.dK kvs)) := s _ _ upd_same
  by_cases hlt : i < kvs.length
  · refine .inr ⟨⟨D.frz hfa, hlt⟩, fun H2 => i + 1 ≤ kvs.length ∧ ∃ acc F', Same (upd F a (.frz od (.dK kvs))) F' ∧ Led H2 F' ((Dl, .lst acc) :: L) ∧ Inv (i + 1) acc F' ∧ acc.length ≤ i + 1, fun H2 ⟨_, q⟩ => ⟨kvs.length - (i + 1), by omega, rfl, hlt, q⟩, fun x H2 y => ?_⟩
    obtain ⟨T, k, v, e, rfl, hT, rfl⟩ := y
    obtain ⟨F2, s2, hT2, -, D2⟩ := D.nf hT rfl
    exact turn od _ _ i acc F2 _ T Dl k v e (s2 _ _ hfa) (mono _ _ _ _ I s2) D2 hT2 ha
      (fun y F3 H4 s3 D3 I3 => ⟨acc, D3.get 0, lt_line (by omega), hlt, acc ++ [y], F3, s.trans (s2.trans s3), D3.set 0, I3, by simp; omega⟩)
  · have e : i = kvs.length := by omega
    subst e
    refine .inl ⟨⟨D.frz hfa, Nat.le_refl _⟩, D.frz hfa, ?_⟩
    exact done acc Dl (upd F' a (.dK kvs)) _ (same_lock hf s) (fin od acc F' _ I hfa fun b o nb e => by rw [upd_ne nb]; exact e) (D.lockF hfa) ha
end
/-- the hosts by their positions: no two ways -/
theorem ord_uniq : ∀ {l m : List (Str × Int)}, l.Perm m → l.Pairwise (fun x y => x.2 < y.2) → m.Pairwise (fun x y => x.2 < y.2) → l = m
  | [], m, p, _, _ => (List.Perm.eq_nil p.symm).symm
  | x :: l, [], p, _, _ => absurd p.length_eq (by simp)
  | x :: l, y :: m, p, hl, hm => by
    obtain ⟨x1, x2⟩ := List.pairwise_cons.mp hl
    obtain ⟨y1, y2⟩ := List.pairwise_cons.mp hm
    have e : x = y := by
      rcases List.mem_cons.mp (p.mem_iff.mp (List.mem_cons_self (a := x) (l := l))) with e | hx
      · exact e
      · rcases List.mem_cons.mp (p.mem_iff.mpr (List.mem_cons_self (a := y) (l := m))) with e | hy
        · exact e.symm
        · have := y1 _ hx
          have := x1 _ hy
          omega
    subst e
    rw [ord_uniq (List.Perm.cons_inv p) x2 y2]
def byPos (ks os : List (Str × Int)) : Prop := os.Perm ks ∧ os.Pairwise fun x y => x.2 < y.2
/-- an int and a text out of a tuple -/
def kOf (F : Hp) : V → Int × Str
  | .ref t => match F t with
    | some (.tup [.int i, .str z]) => (i, z)
    | _ => (0, "")
  | _ => (0, "")
theorem kOf_at {F : Hp} {t : Addr} {i : Int} {z : Str} (h : F t = some (.tup [.int i, .str z])) : kOf F (.ref t) = (i, z) := by
  show (match F t with | some (.tup [.int i, .str z]) => (i, z) | _ => (0, Str.ofString "")) = (i, z)
  rw [h]
def IsAt (F : Hp) (ts : List Addr) (ps : List (Str × Int)) : Prop := Paired (fun t (p : Str × Int) => F t = some (.tup [.int p.2, .str p.1])) ts ps
theorem kOf_map {F : Hp} : ∀ {ts : List Addr} {ps : List (Str × Int)}, IsAt F ts ps → (ts.map V.ref).map (fun x => ((kOf F x).2, (kOf F x).1)) = ps
  | _, _, .nil => rfl
  | _, _, .cons r t => by rw [List.map_cons, List.map_cons, kOf_at r, kOf_map t]
theorem kOf_mem {F : Hp} {ts : List Addr} {ps : List (Str × Int)} (h : IsAt F ts ps) : ∀ x ∈ ts.map V.ref, ∃ t, x = V.ref t ∧ F t = some (.tup [.int (kOf F x).1, .str (kOf F x).2]) ∧ ((kOf F x).2, (kOf F x).1) ∈ ps := fun x hx => by
  obtain ⟨t, ht, rfl⟩ := List.mem_map.mp hx
  obtain ⟨p, hp, e⟩ := paired_mem h t ht
  rw [kOf_at e]
  exact ⟨t, rfl, e, hp⟩
theorem pos_inj {ks : List (Str × Int)} (nd : (ks.map (·.2)).Nodup) {p q : Str × Int} (hp : p ∈ ks) (hq : q ∈ ks) (e : p.2 = q.2) : p = q := by
  induction ks with
  | nil => cases hp
  | cons x ks ih =>
    obtain ⟨n1, n2⟩ := List.nodup_cons.mp nd
    rcases List.mem_cons.mp hp with e1 | h1 <;> rcases List.mem_cons.mp hq with e2 | h2
    · rw [e1, e2]
    · subst e1; exact absurd (List.mem_map.mpr ⟨q, h2, e.symm⟩) n1
    · subst e2; exact absurd (List.mem_map.mpr ⟨p, h1, e⟩) n1
    · exact ih n2 h1 h2
theorem sorted_byPos {F : Hp} {ks : List (Str × Int)} {ts : List Addr} {ys : List V} (nd : (ks.map (·.2)).Nodup) (pt : IsAt F ts ks) (perm : ys.Perm (ts.map V.ref)) (srt : ys.Pairwise fun x y => (kOf F x).1 ≤ (kOf F y).1) :
    byPos ks (ys.map fun x => ((kOf F x).2, (kOf F x).1)) := by
  have pm : (ys.map fun x => ((kOf F x).2, (kOf F x).1)).Perm ks := by
    have := perm.map fun x => ((kOf F x).2, (kOf F x).1)
    rwa [kOf_map pt] at this
  refine ⟨pm, List.pairwise_map.mpr ?_⟩
  have n2 : (ys.map fun x => (kOf F x).1).Nodup := by
    have := (pm.map (·.2)).nodup_iff.mpr nd
    rw [List.map_map] at this
    exact this
  have n3 : ys.Pairwise fun x y => (kOf F x).1 ≠ (kOf F y).1 := List.pairwise_map.mp n2
  exact (srt.and n3).imp fun {x y} h => by
    have h1 := h.1
    have h2 := h.2
    show (kOf F x).1 < (kOf F y).1
    omega
end FL
namespace FL
open PySem PySem.Spec PyProof.Rows L2
section
variable {σ : L2.St} {H F : Hp} {L : List (Addr × HO)} {a : Addr} {kvs : List (Key × V)} {Q : VK} {g : TG} {tt : TT} {te tc : TE} {vs : List Nat}
/-- a comprehension over a dict's keys, the dict locked meanwhile -/
theorem lc_lockKeys (D0 : Led H F L) (hf : F a = some (.dK kvs)) (hn : kvs.length ≤ 100000) (Inv : Nat → List V → Hp → Prop) (h0 : ∀ F', Inv 0 [] F') (he : ∀ H1 R, R (.ref a) H1 → tc σ H1 R)
    (turn : ∀ (od : Obj) (Kp : V → Hp → Prop) (Sk : Hp → Prop) i acc F' H' Dl k v, kvs[i]? = some (k, v) → Same (upd F a (.frz od (.dK kvs))) F' → Inv i acc F' → Led H' F' ((Dl, .lst acc) :: L) → acc.length ≤ i →
      (∀ y F2 H4, Same F' F2 → Led H4 F2 ((Dl, .lst acc) :: L) → Inv (i + 1) (acc ++ [y]) F2 → Kp y H4) → (∀ F2 H3, Same F' F2 → Led H3 F2 ((Dl, .lst acc) :: L) → Inv (i + 1) acc F2 → Sk H3) →
      g (kV k) (wipe σ vs) H' fun σ2 H2 => wipe σ2 vs = wipe σ vs ∧ tt σ2 H2 fun b H3 => if b = true then te σ2 H3 Kp else Sk H3)
    (fin : ∀ od acc F1 F2, Inv kvs.length acc F1 → F1 a = some (.frz od (.dK kvs)) → (∀ b o, b ≠ a → F1 b = some o → F2 b = some o) → Inv kvs.length acc F2)
    (done : ∀ acc Dl F' H', Same F F' → Inv kvs.length acc F' → Led H' F' ((Dl, .lst acc) :: L) → acc.length ≤ kvs.length → Q (.ref Dl) H') : tLockE (tLc (iKeys tc) g tt te vs) σ H Q := by
  refine ⟨a, .dK kvs, D0.frz hf, trivial, fun od => ?_⟩
  refine y_lc (he _ _ ⟨a, od, rfl, .inl ⟨kvs, upd_same, ?_⟩⟩)
  have D1 := D0.lockF (o := .frz od (.dK kvs)) hf
  intro Dl hD
  refine ⟨fun i m H' => m = kvs.length - i ∧ i ≤ kvs.length ∧ ∃ acc F', Same (upd F a (.frz od (.dK kvs))) F' ∧ Led H' F' ((Dl, .lst acc) :: L) ∧ Inv i acc F' ∧ acc.length ≤ i, ⟨kvs.length, by omega, by omega, [], _, Same.refl _, D1.new hD, h0 _, Nat.le_refl _⟩, ?_⟩
  rintro i m H' ⟨rfl, hi, acc, F', s, D, I, ha⟩
  have hfa : F' a = some (.frz od (.dK kvs)) := s _ _ upd_same
  by_cases hlt : i < kvs.length
  · refine .inr ⟨⟨D.frz hfa, hlt⟩, fun H2 => i + 1 ≤ kvs.length ∧ ∃ acc F', Same (upd F a (.frz od (.dK kvs))) F' ∧ Led H2 F' ((Dl, .lst acc) :: L) ∧ Inv (i + 1) acc F' ∧ acc.length ≤ i + 1, fun H2 ⟨_, q⟩ => ⟨kvs.length - (i + 1), by omega, rfl, hlt, q⟩, fun x H2 y => ?_⟩
    obtain ⟨rfl, k, v, e, rfl⟩ := y
    exact turn od _ _ i acc F' _ Dl k v e s I D ha
      (fun y F3 H4 s3 D3 I3 => ⟨acc, D3.get 0, lt_line (by omega), hlt, acc ++ [y], F3, s.trans s3, D3.set 0, I3, by simp; omega⟩)
      (fun F3 H3 s3 D3 I3 => ⟨hlt, acc, F3, s.trans s3, D3, I3, by omega⟩)
  · have e : i = kvs.length := by omega
    subst e
    refine .inl ⟨⟨D.frz hfa, Nat.le_refl _⟩, D.frz hfa, ?_⟩
    exact done acc Dl (upd F' a (.dK kvs)) _ (same_lock hf s) (fin od acc F' _ I hfa fun b o nb e => by rw [upd_ne nb]; exact e) (D.lockF hfa) ha
end
theorem lock_asg {t : TE} {σ : L2.St} {H : Hp} {D : Ends} {i : Nat} (h : tLockE t σ H fun v H' => D.nx (σ.set i (some v)) H') : tLock (tAsg t (gName i)) D σ H := h
theorem eqv_texts : ∀ xs ys : List Str, PyData.eqv (.list (dS xs)) (.list (dS ys)) = decide (xs = ys)
  | [], [] => rfl
  | [], _ :: _ => rfl
  | _ :: _, [] => rfl
  | x :: xs, y :: ys => by
    have ih := eqv_texts xs ys
    have e : PyData.eqv (.list (dS (x :: xs))) (.list (dS (y :: ys))) = ((x == y) && PyData.eqv (.list (dS xs)) (.list (dS ys))) := by
      first | rfl | (show PyData.eqvAll _ _ = _; simp only [dS, List.map_cons, PyData.eqvAll]; rfl) | simp [dS, PyData.eqv, PyData.eqvAll]
    rw [e, ih]
    by_cases h : x = y
    · subst h
      rw [beq_self_eq_true, Bool.true_and]
      exact decide_eq_decide.mpr ⟨fun q => by rw [q], fun q => by injection q⟩
    · rw [beq_false_of_ne h, Bool.false_and, decide_eq_false fun q => h (by injection q)]
theorem stAt_val {F : Hp} {ks : List (Str × Int)} {d : Addr} {sp : Str → Span} (h : StAt F ks d sp) (nd : (ks.map (·.1)).Nodup) : ∃ es : List (Str × V), F d = some (.dK (strK es)) ∧ es.length = ks.length ∧ ∀ z ∈ ks.map (·.1), ∃ v, valV (strK es) (.inr z) = some v ∧ SpanAt F v (sp z) := by
  obtain ⟨es, h1, h2, h3⟩ := h
  refine ⟨es, h1, by have := h2.length_eq; rwa [List.length_map, List.length_map] at this, fun z hz => ?_⟩
  obtain ⟨e, he, q⟩ := List.mem_map.mp (h2.mem_iff.mpr hz)
  have := h3 e he
  rw [q] at this
  exact ⟨e.2, valV_str (by rw [← q]; exact he) (h2.nodup_iff.mpr nd), this⟩
theorem SpanAt.up {F F' : Hp} {a : Addr} {kvs : List (Key × V)} {v : V} (ha : F a = some (.dK kvs)) (up : ∀ b o, b ≠ a → F b = some o → F' b = some o) : ∀ {s : Span}, SpanAt F v s → SpanAt F' v s
  | none, h => h
  | some (_, _), ⟨t, e, h⟩ => ⟨t, e, up t _ (fun z => by rw [z, ha] at h; cases h) h⟩
theorem SpanAt.noInt {F : Hp} {o : Int} : ∀ {s : Span}, ¬ SpanAt F (.int o) s
  | none, h => by cases (show V.int o = V.non from h)
  | some (_, _), ⟨t, e, h⟩ => by cases e
theorem flat_texts (n : Nat) (z : Str) : (List.replicate n [V.str z]).flatten = (List.replicate n z).map V.str := by
  induction n with
  | zero => rfl
  | succ n ih => rw [List.replicate_succ, List.flatten_cons, ih, List.replicate_succ, List.map_cons]; rfl
theorem all_same (z : Str) : ∀ kk : List Str, decide (kk = List.replicate kk.length z) = (kk.map fun k => decide (k = z)).all id
  | [] => rfl
  | k :: kk => by
    have ih := all_same z kk
    rw [List.map_cons, List.all_cons, ← ih, List.length_cons, List.replicate_succ]
    by_cases h : k = z
    · subst h
      rw [id, decide_eq_true rfl, Bool.true_and]
      exact decide_eq_decide.mpr ⟨fun q => by injection q, fun q => by rw [← q]⟩
    · rw [id, decide_eq_false h, Bool.false_and]
      exact decide_eq_false fun q => h (by injection q)
end FL
namespace FL
open PySem PySem.Spec PyProof.Rows L2
/-! ### sorted(e.values()) of a dict with fewer than 64 ints as values -/
def rSortVals : V → Hp → VK → Prop := fun x H Q => ∃ (d : Addr) (kvs : List (Key × V)) (ns : List Int), x = .ref d ∧ Rd H d (.dK kvs) ∧ kvs.map (·.2) = ns.map V.int ∧ ns.length < 64 ∧
  ∀ (ns' : List Int) (p : Addr), ns'.Perm ns → ns'.Pairwise (· ≤ ·) → H p = none → Q (.ref p) (upd H p (.lst (ns'.map V.int)))
def tSortVals (te : TE) : TE := fun σ H Q => te σ H fun x H1 => rSortVals x H1 Q
section
variable {X : Cx} {e : Expr} {te : TE} {p apos cpos pos : Pos}
theorem pe_sortValues (hcalm : X.calm = true) (he : PE X e te) (hg : Gl X "sorted") (hm : X.mg "sorted" = none) (hv : bootBuiltins "sorted" = some (.builtin "sorted"))
    (hbase : attributeBase e "values" X.env (eval e X.env) = eval e X.env := by rfl) (hline : (apos.endLine == cpos.line) = true := by rfl)
    (hs : starEach [.Call (.Attribute e "values" apos) [] [] cpos] X.env = (false, eval (.Call (.Attribute e "values" apos) [] [] cpos) X.env) :: starEach [] X.env := by rfl) :
    PE X (.Call (.Name "sorted" p) [.Call (.Attribute e "values" apos) [] [] cpos] [] pos) (tSortVals te) := by
  refine ⟨fun pins s σ H Q I hq => wpAny_Call_Name_kw (ld_blt I hg hm hv (PyProof.Rows.callWith_builtin1 ?_ hs rfl))⟩
  rw [hs]
  show wpAny (model X.prog X.w) X.A (spliced ((false, eval (Expr.Call (Expr.Attribute e "values" apos) [] [] cpos) X.env) :: backTo pos (starEach [] X.env))) _ X.xe s
  refine Calls.spliced_cons (wpAny_Call_method (args := []) (T := "dict") (id := "dict.values") hbase rfl hline F.plainAttrs_dict F.slot_dict_values F.type_dict_values
    (thn (he.run pins s σ H _ I hq) fun u s1 ⟨x, H1, I1, rx, d, kvs, ns, ex, hd, hns, h64, q⟩ => ?_))
  subst ex
  obtain rfl : u = Value.ref d := rx
  obtain ⟨hz, hs0, vs, kv, hdo⟩ : ObjOk X.prog X.w H1 s1.heap d (.dK kvs) := hd.elim (I1.hok d _) fun ⟨_, hq⟩ => (I1.hok d _ hq).2
  obtain ⟨ep, hat⟩ := hdo.dictAt
  have I2 : Inv X pins σ H1 { s1 with heap := s1.heap.push { cls := .type "dict_values", data := .fields #[.ref d] } } := I1.kept (t' := s1.toks) fun b ob w => Heap.get?_push_of_some _ w
  have lk : kvs.length = vs.length := Paired.length kv
  refine ⟨hdo.typeIs, hdo.mapOf.noDict, ?_⟩
  show wpAny (model X.prog X.w) X.A (callWith cpos (Value.builtin "dict.values") [Value.ref d] [] []) _ X.xe s1
  refine method_meetsIn F.slot_dict_values F.entry_dict_values rfl (PySem.evalArgs_none ⟨rfl, hdo.typeIs, F.args_dict_values_1 _, _, meets_dict_values (mixKind X.prog X.w) d hs0, ⟨vs, hdo⟩, Calls.spliced_nil ?_⟩)
  refine Calls.call_function_entry PyProof.Rows.kind_sorted PyProof.Rows.plain_sorted PyProof.Rows.entry_sorted (PyProof.Rows.args_sorted1 _) ?_
  unfold Builtin.«sorted»
  refine wpAny_bind (m := checkCount "sorted" 1 1 _) (wpAny_pure ?_)
  refine wpAny_bind (PySem.W.kdu_collect (A := X.A.in1) (PySem.W.kdl_values (knd := mixKind X.prog X.w) (kvs := vs) (ep := ep)) (I1.ok.hd hcalm) ⟨⟨_, Heap.get?_push_size _ rfl, rfl, rfl⟩, hat.push _⟩ (by omega) fun h' tk acc hk hacc => ?_)
  have ev : acc.toList = vs.map (·.2) := PySem.W.kdl_vals_eq acc.toList (by rw [Array.length_toList]; exact hacc.1) fun j v e => hacc.2 j v (by rw [← Array.getElem?_toList]; exact e)
  have hvv : Vals (kvs.map (·.2)) acc.toList := by rw [ev]; exact kv_snd kv
  rw [hns] at hvv
  have hI := hvv.ints
  have hal : acc.toList.length = ns.length := by rw [← hvv.length, List.length_map]
  have I3 : Inv X pins σ H1 { s1 with heap := h', toks := tk } := I2.kept hk
  refine wpAny_bind (wpAny_newList ?_ (by rw [hal, sizeLine_eq]; omega))
  have hoL : (h'.push (seqObj "list" acc.toList.toArray 0)).get? h'.objs.size = some (seqObj "list" acc.toList.toArray 0) := Heap.get?_push_size _ rfl
  show wpAny _ _ _ _ _ { s1 with heap := h'.push (seqObj "list" acc.toList.toArray 0), toks := tk }
  refine wpAny_bind (wpAny_holding (wpAny_call_entry PyProof.Rows.slot_list_sort ⟨_, hoL, rfl⟩ PyProof.Rows.entry_list_sort
    (PyProof.Rows.list_sort_tree hoL hI (by rw [hal]; exact h64) fun out ns' a1 a2 a3 => ⟨_, rfl, ?_⟩) (PyProof.Rows.args_list_sort _)))
  obtain ⟨ep', he'⟩ := PyProof.Rows.sortedHeap_at (vs := acc.toList) (out := out) hoL
  have hlen : (ns'.map V.int).length ≤ sizeLine := by rw [List.length_map, a2.length_eq]; exact lt_line (by omega) |> Nat.le_of_lt
  refine wpAny_pure ⟨_, rfl, .ref h'.objs.size, upd H1 h'.objs.size (.lst (ns'.map V.int)), I3.laid (t' := tk) (fun b u e => ?_) (Nat.le_refl _)
    (show ObjOk X.prog X.w _ _ _ (.lst (ns'.map V.int)) from ⟨hlen, out.toList, ep', vals_of_ints a1, by rw [Array.toArray_toList]; exact he'⟩), rfl, q ns' _ a2 a3 (I3.hok.fresh (Nat.le_refl _))⟩
  have hb : b < h'.objs.size := Heap.lt_size e
  rw [PyProof.Rows.sortedHeap_old (Nat.ne_of_lt hb) (by rw [size_push']; exact Nat.lt_succ_of_lt hb)]
  exact Heap.get?_push_of_some _ e
end
end FL
namespace FL
open PySem PySem.Spec PyProof.Rows L2
/-! ### who lacks: two ways to say it -/
theorem low_up {l : Option Int} {x z : Int} (h : lowOk l x = true) (e : x ≤ z) : lowOk l z = true := by
  cases l with
  | none => rfl
  | some i => exact decide_eq_true (Int.le_trans (of_decide_eq_true h) e)
theorem high_down {l : Option Int} {y z : Int} (h : highOk l y = true) (e : z ≤ y) : highOk l z = true := by
  cases l with
  | none => rfl
  | some i => exact decide_eq_true (Int.le_trans e (of_decide_eq_true h))
theorem span_mid {s : Span} {x y z : Int} (h1 : inSpan s x = true) (h2 : inSpan s y = true) (e1 : x ≤ z) (e2 : z ≤ y) : inSpan s z = true := by
  match s with
  | none => cases h1
  | some (l, h) =>
    obtain ⟨a1, _⟩ := Bool.and_eq_true_iff.mp (show (lowOk l x && highOk h x) = true from h1)
    obtain ⟨_, b2⟩ := Bool.and_eq_true_iff.mp (show (lowOk l y && highOk h y) = true from h2)
    exact Bool.and_eq_true_iff.mpr ⟨low_up a1 e1, high_down b2 e2⟩
theorem span_own {ks : List (Str × Int)} {o : Int} {s : Span} (ok : spanOk ks o s) (h : s ≠ none) : inSpan s o = true := by
  match s with
  | none => exact absurd rfl h
  | some (l, hi) =>
    obtain ⟨k1, k2⟩ := ok
    refine Bool.and_eq_true_iff.mpr ⟨?_, ?_⟩
    · cases l with
      | none => rfl
      | some i => exact decide_eq_true (k1 i rfl).2
    · cases hi with
      | none => rfl
      | some i => exact decide_eq_true (k2 i rfl).2
theorem pos_head {os : List (Str × Int)} {a : Str × Int} (h : os[0]? = some a) (pw : os.Pairwise fun x y => x.2 < y.2) : ∀ p ∈ os, a.2 ≤ p.2 := by
  match os, h with
  | x :: os, h =>
    have e : x = a := Option.some.inj h
    subst e
    intro p hp
    rcases List.mem_cons.mp hp with e | hp
    · rw [e]; exact Int.le_refl _
    · exact Int.le_of_lt ((List.pairwise_cons.mp pw).1 p hp)
theorem pos_last {oi : List (Str × Int)} {b : Str × Int} (pw : (oi ++ [b]).Pairwise fun x y => x.2 < y.2) : ∀ p ∈ oi ++ [b], p.2 ≤ b.2 := by
  intro p hp
  rcases List.mem_append.mp hp with hp | hp
  · exact Int.le_of_lt ((List.pairwise_append.mp pw).2.2 p hp b List.mem_cons_self)
  · rw [List.mem_singleton.mp hp]; exact Int.le_refl _
def lackN (sp : Str → Span) (os : List (Str × Int)) (lo hi : Int) : List Str := (os.filter fun p => !(inSpan (sp p.1) lo && inSpan (sp p.1) hi)).map (·.1)
/-- the hosts that lack, os by positions -/
def lackO (sp : Str → Span) (os : List (Str × Int)) : List Str := if os.length = 1 then [] else lackN sp os ((os.head?.map (·.2)).getD 0) ((os.getLast?.map (·.2)).getD 0)
def dueAt (sp : Str → Span) (ks : List (Str × Int)) (p : Str × Int) : Bool := !((ks.filter fun q => !decide (q.1 = p.1)).all fun q => inSpan (sp p.1) q.2)
def dueO (sp : Str → Span) (ks os : List (Str × Int)) : List Str := (os.filter (dueAt sp ks)).map (·.1)
theorem name_inj {ks : List (Str × Int)} (nd : (ks.map (·.1)).Nodup) {p q : Str × Int} (hp : p ∈ ks) (hq : q ∈ ks) (e : p.1 = q.1) : p = q := by
  have h1 := posOf_eq nd hp
  have h2 := posOf_eq nd hq
  rw [e] at h1
  exact Prod.ext e (h1.symm.trans h2)
theorem lack_due {ks os : List (Str × Int)} {sp : Str → Span} (hk : LineOk ks) (bp : byPos ks os) (ok : ∀ p ∈ ks, spanOk ks p.2 (sp p.1)) : lackO sp os = dueO sp ks os := by
  have lo := bp.1.length_eq
  have l1 := hk.len1
  unfold lackO
  by_cases h1 : os.length = 1
  · rw [if_pos h1]
    match os, h1, bp with
    | [p], _, bp =>
      have e : ks = [p] := (List.perm_singleton.mp bp.1.symm)
      unfold dueO dueAt
      rw [e]
      simp
  rw [if_neg h1]
  obtain ⟨o1, h0⟩ : ∃ z, os[0]? = some z := ⟨_, List.getElem?_eq_getElem (by omega)⟩
  obtain ⟨oi, ol, eos⟩ : ∃ yi yl, os = yi ++ [yl] := ⟨_, _, (List.dropLast_concat_getLast (l := os) (by intro e; rw [e] at lo; simp at lo; omega)).symm⟩
  rw [show (os.head?.map (·.2)).getD 0 = o1.2 from by rw [List.head?_eq_getElem?, h0]; rfl, show (os.getLast?.map (·.2)).getD 0 = ol.2 from by rw [eos]; simp]
  have m0 : o1 ∈ ks := bp.1.mem_iff.mp (List.mem_of_getElem? h0)
  have ml : ol ∈ ks := bp.1.mem_iff.mp (by rw [eos]; simp)
  have le0 : ∀ q ∈ ks, o1.2 ≤ q.2 := fun q hq => pos_head h0 bp.2 q (bp.1.mem_iff.mpr hq)
  have leL : ∀ q ∈ ks, q.2 ≤ ol.2 := fun q hq => by
    have pw := bp.2
    have hq2 := bp.1.mem_iff.mpr hq
    rw [eos] at pw hq2
    exact pos_last pw q hq2
  have key : ∀ p ∈ os, (!(inSpan (sp p.1) o1.2 && inSpan (sp p.1) ol.2)) = dueAt sp ks p := fun p hp => by
    have pk := bp.1.mem_iff.mp hp
    unfold dueAt
    congr 1
    cases hc : (ks.filter fun q => !decide (q.1 = p.1)).all fun q => inSpan (sp p.1) q.2 with
    | true =>
      have all := List.all_eq_true.mp hc
      have other : ∃ q ∈ ks, q.1 ≠ p.1 := by
        by_cases e : o1.1 = p.1
        · refine ⟨ol, ml, fun e2 => ?_⟩
          have e3 := name_inj hk.ndn m0 ml (e.trans e2.symm)
          have pw := bp.2
          rw [eos] at pw h0
          cases oi with
          | nil => rw [eos] at h1; exact h1 rfl
          | cons x xs =>
            have ex : x = o1 := Option.some.inj h0
            have := (List.pairwise_append.mp pw).2.2 x List.mem_cons_self ol List.mem_cons_self
            rw [ex, e3] at this
            exact absurd this (Int.lt_irrefl _)
        · exact ⟨o1, m0, e⟩
      obtain ⟨q, hq, nq⟩ := other
      have inq := all q (List.mem_filter.mpr ⟨hq, by simp [nq]⟩)
      have nn : sp p.1 ≠ none := fun e => by rw [e] at inq; cases inq
      have own := span_own (ok p pk) nn
      have every : ∀ q ∈ ks, inSpan (sp p.1) q.2 = true := fun q hq => by
        by_cases e : q.1 = p.1
        · rw [name_inj hk.ndn hq pk e]; exact own
        · exact all q (List.mem_filter.mpr ⟨hq, by simp [e]⟩)
      rw [every o1 m0, every ol ml]; rfl
    | false =>
      cases hb : inSpan (sp p.1) o1.2 && inSpan (sp p.1) ol.2 with
      | false => rfl
      | true =>
        obtain ⟨b1, b2⟩ := Bool.and_eq_true_iff.mp hb
        obtain ⟨q, hq, nq⟩ := List.all_eq_false.mp hc
        have qk := (List.mem_filter.mp hq).1
        exact absurd (span_mid b1 b2 (le0 q qk) (leL q qk)) nq
  unfold lackN dueO
  rw [List.filter_congr key]
end FL
namespace FL
open PySem PySem.Spec PyProof.Rows L2
def rReprB : List V → Hp → VK → Prop := fun xs H Q => ∃ b : Bool, xs = [.bl b] ∧ Q (.str (if b then "True" else "False")) H
theorem call_reprB {X : Cx} : CallR X (.builtin "repr") rReprB := by
  intro pins s σ H xs us Q I r h
  obtain ⟨b, rfl, q⟩ := h
  obtain ⟨u, rfl, rb⟩ := vals1 r
  cases rb
  exact PySem.P.repr_of_bool ⟨.str _, H, I.tok _, ⟨_, rfl⟩, q⟩
theorem pos_of {ks : List (Str × Int)} (hk : LineOk ks) {i : Int} (h : i ∈ ks.map (·.2)) : -(10 ^ 39) < i ∧ i < 10 ^ 39 := by
  obtain ⟨p, hp, e⟩ := List.mem_map.mp h
  have b := hk.ps p hp
  rw [← e]
  have c : (10 : Int) ^ 30 < 10 ^ 39 := by decide
  omega
theorem oV_dx {F : Hp} {ks : List (Str × Int)} (hk : LineOk ks) : ∀ {o : Option Int}, (∀ i, o = some i → i ∈ ks.map (·.2)) → Dx F (oV o) 130 0
  | none, _ => xO.more (Nat.zero_le _) (Nat.le_refl _)
  | some i, h => Dx.int (pos_of hk (h i rfl)).1 (pos_of hk (h i rfl)).2
theorem span_dx {F : Hp} {ks : List (Str × Int)} (hk : LineOk ks) {o : Int} {v : V} : ∀ {s : Span}, spanOk ks o s → SpanAt F v s → Dx F v 262 1
  | none, _, e => by rw [show v = V.non from e]; exact xO.more (Nat.zero_le _) (Nat.le_refl _)
  | some (l, h), ⟨k1, k2⟩, ⟨t, e, ht⟩ => by
    rw [e]
    exact (Dx.tup ht (.cons (oV_dx hk fun i e => (k1 i e).1) (.cons (oV_dx hk fun i e => (k2 i e).1) .nil))).more (by decide) (Nat.le_refl _)
theorem es_kv {F : Hp} : ∀ (es : List (Str × V)), (∀ e ∈ es, nmStr e.1 = true ∧ Dx F e.2 262 1) → ∃ ds, DtKv F (strK es) ds ∧ DOkV ds (es.length * 272) 1
  | [], _ => ⟨[], .nil, DOkV.nil⟩
  | e :: es, h => by
    obtain ⟨ds, q1, q2⟩ := es_kv es fun x hx => h x (List.mem_cons_of_mem _ hx)
    obtain ⟨h1, d, h2, h3⟩ := h e List.mem_cons_self
    refine ⟨(.str e.1, d) :: ds, .cons (k := .inr e.1) h2 q1, ?_⟩
    have := DOkV.cons ((DOk.nm h1).more (Nat.le_refl _) (Nat.zero_le 1)) h3 q2
    exact ⟨this.ls, this.sh, Nat.le_trans this.wt (by rw [List.length_cons, Nat.succ_mul]; omega), this.dp⟩
theorem Dx.state {F : Hp} {ks : List (Str × Int)} {d : Addr} {sp : Str → Span} (hk : LineOk ks) (h : StAt F ks d sp) (ok : ∀ p ∈ ks, spanOk ks p.2 (sp p.1)) : Dx F (.ref d) 10880 2 := by
  obtain ⟨es, h1, h2, h3⟩ := h
  have l2 := hk.len2
  have le : es.length ≤ 40 := by have := h2.length_eq; rw [List.length_map, List.length_map] at this; omega
  obtain ⟨ds, q1, q2⟩ := es_kv (F := F) es fun e he => by
    obtain ⟨p, hp, q⟩ := List.mem_map.mp (h2.mem_iff.mp (List.mem_map.mpr ⟨e, he, rfl⟩))
    have o := ok p hp
    rw [q] at o
    exact ⟨by rw [← q]; exact hk.nm p hp, span_dx hk o (h3 e he)⟩
  exact ⟨_, .dct h1 q1, (DOk.dict q2).more (by omega) (Nat.le_refl _)⟩
theorem due_nm {ks os : List (Str × Int)} {sp : Str → Span} (hk : LineOk ks) (bp : byPos ks os) : ∀ z ∈ dueO sp ks os, nmStr z = true := fun z hz => by
  obtain ⟨p, hp, e⟩ := List.mem_map.mp hz
  rw [← e]
  exact hk.nm p (bp.1.mem_iff.mp (List.mem_filter.mp hp).1)
theorem due_len {ks os : List (Str × Int)} {sp : Str → Span} (hk : LineOk ks) (bp : byPos ks os) : (dueO sp ks os).length ≤ 40 := by
  unfold dueO
  rw [List.length_map]
  have h1 := bp.1.length_eq
  have h2 := hk.len2
  exact Nat.le_trans (List.length_filter_le _ _) (by omega)
theorem byPos_uniq {ks os os' : List (Str × Int)} (h : byPos ks os) (h' : byPos ks os') : os' = os := ord_uniq (h'.1.trans h.1.symm) h'.2 h.2
theorem exA3 : LineOk [("a", 3)] := ⟨by decide, by decide, by decide, by decide, by decide, by decide⟩
theorem exAB : LineOk [("a", 0), ("b", 1)] := ⟨by decide, by decide, by decide, by decide, by decide, by decide⟩
def spAB (z : Str) : Span := if z = "a" then some (some 0, some 1) else none
theorem okAB : ∀ p ∈ ([("a", 0), ("b", 1)] : List (Str × Int)), spanOk [("a", 0), ("b", 1)] p.2 (spAB p.1) :=
  alC (by
    show spanOk _ 0 (spAB "a")
    rw [show spAB "a" = some (some 0, some 1) from by decide]
    exact ⟨fun i e => by cases e; decide, fun i e => by cases e; decide⟩) (alC (by
    show spanOk _ 1 (spAB "b")
    rw [show spAB "b" = none from by decide]
    trivial) alN)
theorem byAB : byPos [("a", 0), ("b", 1)] [("a", 0), ("b", 1)] := ⟨List.Perm.refl _, by decide⟩
theorem lackAB : lackO spAB [("a", 0), ("b", 1)] = [Str.ofString "b"] := by decide +kernel
end FL
namespace FL.k04
open PySem PySem.Spec PyProof.Rows L2 FL
-- one step of a reading
local macro_rules | `(tactic| walk_at "py1") => `(tactic| with_reducible first
  | refine y_var (by with_unfolding_all rfl) ?_
  | refine y_c ?_
  | refine y_op ?_
  | refine y_seq ?_
  | refine y_asg ?_
  | refine y_gname (by simp only [L2.wipe, List.map_cons, List.map_nil, List.set_cons_zero, List.set_cons_succ]; rfl) ?_
  | refine y_cb ?_
  | refine y_cons ?_
  | refine y_nil ?_
  | refine y_ret ?_
  | refine y_if ?_
  | refine y_andV ?_
  | refine y_orV ?_
  | refine y_notV ?_
  | refine y_un ?_
  | refine y_tTest ?_
  | refine y_tB ?_
  | refine y_tNot ?_
  | refine y_tAnd ?_
  | refine y_tOr ?_
  | refine y_tIf ?_
  | refine y_chain ?_
  | refine y_call ?_
  | refine y_lst ?_
  | refine y_tup ?_
  | refine y_slice ?_
  | refine y_part ?_
  | refine y_nopart ?_
  | refine y_bm ?_
  | refine y_bm0 ?_
  | refine y_dget ?_
  | refine y_din ?_
  | refine y_dnotin ?_
  | refine y_dnew ?_
  | refine y_next ?_
  | refine y_retN ?_
  | refine y_drop ?_
  | refine y_gsub ?_
  | refine y_par3 ?_
  | refine y_par ?_
  | refine y_dput ?_
  | refine r_add ?_
  | refine r_sub ?_
  | refine r_lt ?_
  | refine r_le ?_
  | refine r_gt ?_
  | refine r_ge ?_
  | refine r_leS ?_
  | refine r_eq (by with_unfolding_all rfl) ?_
  | refine r_ne (by with_unfolding_all rfl) ?_
  | refine r_isN ?_
  | refine r_isB ?_
  | refine r_notN ?_
  | refine r_notB ?_
  | refine y_neg ?_
  | refine tkK ?_
  | refine ikK ?_
  | refine andK_t ?_
  | refine andK_f ?_)
local macro_rules | `(tactic| walk_at "py") => `(tactic| repeat walk_at "py1")
local macro_rules | `(tactic| walk_at "py1") => `(tactic| with_reducible first
  | refine y_lc ?_
  | refine y_lenSet ?_
  | refine y_listVals ?_
  | refine y_listItems ?_
  | refine y_yes ?_
  | refine y_allE fun _ _ _ _ _ => ?_
  | refine y_allT fun _ _ _ _ _ => ?_
  | refine y_allG fun _ _ _ _ _ => ?_
  | refine iteT ?_
  | refine iteF ?_
  | refine iteNT ?_
  | refine iteNF ?_
  | refine y_iList ?_
  | refine y_iStr ?_
  | refine y_iRng ?_)
local macro_rules | `(tactic| walk_at "py1") => `(tactic| with_reducible first
  | refine y_for ?_)
-- the numbers of the drawing
local macro_rules | `(tactic| walk_at "nums") => `(tactic| first
  | (refine r_pow ⟨by decide +kernel, by decide +kernel, by decide +kernel⟩ ?_)
  | (refine r_mul (wide_mul (a := 400) (b := 400) (by decide +kernel) (by decide +kernel) (by decide) (by decide) (by decide)) ?_)
  | (refine r_mod (by decide +kernel) ?_))

def top (i : Nat) : Stmt := PySem.Challenge.pw_floodline_k04_lacking_hosts.main.body.getD i (.Pass ⟨0, 0, 0, 0⟩)
abbrev s_is_integer : Stmt := top 7
abbrev nn_is_integer : List Str := ["value"]
theorem sc_is_integer : FnScope nn_is_integer ["value"] (defScope s_is_integer) := ⟨rfl, rfl, rfl, by decide +kernel, rfl, by decide +kernel, by decide +kernel⟩
abbrev s_is_position : Stmt := top 8
abbrev nn_is_position : List Str := ["value"]
theorem sc_is_position : FnScope nn_is_position ["value"] (defScope s_is_position) := ⟨rfl, rfl, rfl, by decide +kernel, rfl, by decide +kernel, by decide +kernel⟩
abbrev s_is_name : Stmt := top 9
abbrev nn_is_name : List Str := ["value", "letter"]
theorem sc_is_name : FnScope nn_is_name ["value"] (defScope s_is_name) := ⟨rfl, rfl, rfl, by decide +kernel, rfl, by decide +kernel, by decide +kernel⟩
abbrev s_is_pair : Stmt := top 10
abbrev nn_is_pair : List Str := ["value"]
theorem sc_is_pair : FnScope nn_is_pair ["value"] (defScope s_is_pair) := ⟨rfl, rfl, rfl, by decide +kernel, rfl, by decide +kernel, by decide +kernel⟩
abbrev s_contains : Stmt := top 12
abbrev nn_contains : List Str := ["interval", "position", "low", "high"]
theorem sc_contains : FnScope nn_contains ["interval", "position"] (defScope s_contains) := ⟨rfl, rfl, rfl, by decide +kernel, rfl, by decide +kernel, by decide +kernel⟩
abbrev s_covers : Stmt := top 13
abbrev nn_covers : List Str := ["interval", "first", "last"]
theorem sc_covers : FnScope nn_covers ["interval", "first", "last"] (defScope s_covers) := ⟨rfl, rfl, rfl, by decide +kernel, rfl, by decide +kernel, by decide +kernel⟩
abbrev s_is_line : Stmt := top 16
abbrev nn_is_line : List Str := ["value", "host", "position"]
theorem sc_is_line : FnScope nn_is_line ["value"] (defScope s_is_line) := ⟨rfl, rfl, rfl, by decide +kernel, rfl, by decide +kernel, by decide +kernel⟩
abbrev s_is_state : Stmt := top 17
abbrev nn_is_state : List Str := ["line", "value", "host"]
theorem sc_is_state : FnScope nn_is_state ["line", "value"] (defScope s_is_state) := ⟨rfl, rfl, rfl, by decide +kernel, rfl, by decide +kernel, by decide +kernel⟩
abbrev s_in_order : Stmt := top 18
abbrev nn_in_order : List Str := ["line", "places", "place", "host", "position"]
theorem sc_in_order : FnScope nn_in_order ["line"] (defScope s_in_order) := ⟨rfl, rfl, rfl, by decide +kernel, rfl, by decide +kernel, by decide +kernel⟩
abbrev s_lacking : Stmt := top 19
abbrev nn_lacking : List Str := ["line", "state", "hosts", "first", "last", "host"]
theorem sc_lacking : FnScope nn_lacking ["line", "state"] (defScope s_lacking) := ⟨rfl, rfl, rfl, by decide +kernel, rfl, by decide +kernel, by decide +kernel⟩
abbrev s_is_quiet : Stmt := top 20
abbrev nn_is_quiet : List Str := ["line", "state"]
theorem sc_is_quiet : FnScope nn_is_quiet ["line", "state"] (defScope s_is_quiet) := ⟨rfl, rfl, rfl, by decide +kernel, rfl, by decide +kernel, by decide +kernel⟩
abbrev s_is_known_interval : Stmt := top 21
abbrev nn_is_known_interval : List Str := ["line", "host", "value", "low", "high", "own", "low_fits", "high_fits"]
theorem sc_is_known_interval : FnScope nn_is_known_interval ["line", "host", "value"] (defScope s_is_known_interval) := ⟨rfl, rfl, rfl, by decide +kernel, rfl, by decide +kernel, by decide +kernel⟩
abbrev s_is_end : Stmt := top 22
abbrev nn_is_end : List Str := ["line", "value"]
theorem sc_is_end : FnScope nn_is_end ["line", "value"] (defScope s_is_end) := ⟨rfl, rfl, rfl, by decide +kernel, rfl, by decide +kernel, by decide +kernel⟩
abbrev s_check_line : Stmt := top 23
abbrev nn_check_line : List Str := ["line"]
theorem sc_check_line : FnScope nn_check_line ["line"] (defScope s_check_line) := ⟨rfl, rfl, rfl, by decide +kernel, rfl, by decide +kernel, by decide +kernel⟩
abbrev s_check_state : Stmt := top 24
abbrev nn_check_state : List Str := ["line", "state"]
theorem sc_check_state : FnScope nn_check_state ["line", "state"] (defScope s_check_state) := ⟨rfl, rfl, rfl, by decide +kernel, rfl, by decide +kernel, by decide +kernel⟩
abbrev s__law_reel : Stmt := top 26
abbrev nn__law_reel : List Str := ["script", "stir", "cell", "great"]
theorem sc__law_reel : FnScope nn__law_reel ["script"] (defScope s__law_reel) := ⟨rfl, rfl, rfl, by decide +kernel, rfl, by decide +kernel, by decide +kernel⟩
abbrev s__law_draw : Stmt := top 27
abbrev nn__law_draw : List Str := ["reel", "many", "rest", "extra", "stir"]
theorem sc__law_draw : FnScope nn__law_draw ["reel", "many"] (defScope s__law_draw) := ⟨rfl, rfl, rfl, by decide +kernel, rfl, by decide +kernel, by decide +kernel⟩
abbrev s__law_net : Stmt := top 28
abbrev nn__law_net : List Str := ["reel", "most", "way", "count", "found", "pool", "place", "turn", "names", "mixed", "sign", "name"]
theorem sc__law_net : FnScope nn__law_net ["reel", "most"] (defScope s__law_net) := ⟨rfl, rfl, rfl, by decide +kernel, rfl, by decide +kernel, by decide +kernel⟩
abbrev s__law_sends : Stmt := top 29
abbrev nn__law_sends : List Str := ["reel", "net", "many", "names", "found", "way", "few", "turn", "pool", "sender", "others", "name"]
theorem sc__law_sends : FnScope nn__law_sends ["reel", "net", "many"] (defScope s__law_sends) := ⟨rfl, rfl, rfl, by decide +kernel, rfl, by decide +kernel, by decide +kernel⟩
abbrev s__law_holds : Stmt := top 30
abbrev nn__law_holds : List Str := ["span", "place"]
theorem sc__law_holds : FnScope nn__law_holds ["span", "place"] (defScope s__law_holds) := ⟨rfl, rfl, rfl, by decide +kernel, rfl, by decide +kernel, by decide +kernel⟩
abbrev s__law_reach : Stmt := top 31
abbrev nn__law_reach : List Str := ["net", "spans", "pair", "begin", "goal"]
theorem sc__law_reach : FnScope nn__law_reach ["net", "spans", "pair"] (defScope s__law_reach) := ⟨rfl, rfl, rfl, by decide +kernel, rfl, by decide +kernel, by decide +kernel⟩
abbrev s__law_sent : Stmt := top 32
abbrev nn__law_sent : List Str := ["net", "spans", "pair", "kind", "low", "high", "found", "own"]
theorem sc__law_sent : FnScope nn__law_sent ["net", "spans", "pair"] (defScope s__law_sent) := ⟨rfl, rfl, rfl, by decide +kernel, rfl, by decide +kernel, by decide +kernel⟩
abbrev s__law_none : Stmt := top 33
abbrev nn__law_none : List Str := ["net", "name"]
theorem sc__law_none : FnScope nn__law_none ["net"] (defScope s__law_none) := ⟨rfl, rfl, rfl, by decide +kernel, rfl, by decide +kernel, by decide +kernel⟩
abbrev s__law_spans : Stmt := top 34
abbrev nn__law_spans : List Str := ["reel", "net", "found", "name", "lower", "upper", "some", "place"]
theorem sc__law_spans : FnScope nn__law_spans ["reel", "net"] (defScope s__law_spans) := ⟨rfl, rfl, rfl, by decide +kernel, rfl, by decide +kernel, by decide +kernel⟩
abbrev s__law_wide : Stmt := top 35
abbrev nn__law_wide : List Str := ["reel", "net", "spans", "places", "found", "name"]
theorem sc__law_wide : FnScope nn__law_wide ["reel", "net", "spans"] (defScope s__law_wide) := ⟨rfl, rfl, rfl, by decide +kernel, rfl, by decide +kernel, by decide +kernel⟩
abbrev s__law_due : Stmt := top 36
abbrev nn__law_due : List Str := ["net", "spans", "found", "place", "target", "kinds", "name", "sender"]
theorem sc__law_due : FnScope nn__law_due ["net", "spans"] (defScope s__law_due) := ⟨rfl, rfl, rfl, by decide +kernel, rfl, by decide +kernel, by decide +kernel⟩
abbrev s_law : Stmt := top 37
abbrev nn_law : List Str := ["script", "reel", "k", "net", "spans", "some", "kept", "due", "found"]
theorem sc_law : FnScope nn_law ["script"] (defScope s_law) := ⟨rfl, rfl, rfl, by decide +kernel, rfl, by decide +kernel, by decide +kernel⟩
structure Tx (mg : Str → Option Value) : Prop where
  b_all : mg "all" = none
  b_bool : mg "bool" = none
  b_dict : mg "dict" = none
  b_int : mg "int" = none
  b_isinstance : mg "isinstance" = none
  b_len : mg "len" = none
  b_list : mg "list" = none
  b_max : mg "max" = none
  b_min : mg "min" = none
  b_range : mg "range" = none
  b_repr : mg "repr" = none
  b_set : mg "set" = none
  b_sorted : mg "sorted" = none
  b_str : mg "str" = none
  b_tuple : mg "tuple" = none
  b_type : mg "type" = none
  g_FARTHEST : ∃ t, mg "FARTHEST" = some (.int (1000000000000000000000000000000) t)
  g_MOST_HOSTS : ∃ t, mg "MOST_HOSTS" = some (.int (40) t)
  g_MOST_LETTERS : ∃ t, mg "MOST_LETTERS" = some (.int (8) t)
section
variable {P : Program} {w : World} {K : PySem.W.Frag} {mg : Str → Option Value} {base : Heap}
/-- whether a value is an int -/
def isI : V → Bool
  | .int _ => true
  | _ => false
def sp_is_integer : Sp := fun vs H Q _ => ∃ (x : V) (s : String), vs = [x] ∧ Ar H x s ∧ Q (.bl (isI x)) H
theorem ok_is_integer (T : Tx mg) (D : At K mg "is_integer" s_is_integer ["value"]) : Dfn P w K mg base "is_integer" ["value"] 1 (sp_is_integer ) := by
  refine dfn D sc_is_integer (fun vs H Q E h => ?_) (fun X f cdv A outer s H vs Q E hX hr h => ?_)
  · obtain ⟨x, s, rfl, ha, q⟩ := h
    rfl
  · subst hX
    obtain ⟨x, s, rfl, ha, q⟩ := h
    refine ⟨_, (pss_one (ps_ret (pe_and (pe_callB call_isi (by rfl) T.b_isinstance (by decide +kernel) (pa_cons (pvl 0) (pa_cons (pe_bltn (v := .ty "int") (by rfl) T.b_int boot_int rfl) pa_nil))) (pe_one (pe_not (pe_callB call_isi (by rfl) T.b_isinstance (by decide +kernel) (pa_cons (pvl 0) (pa_cons (pe_bltn (v := .ty "bool") (by rfl) T.b_bool (by decide +kernel) rfl) pa_nil)))))))), ?_⟩
    refine y_start (σ' := [some _]) (by rfl) ?_
    walk_at "py"
    refine r_isi ha (by simp) ?_
    cases ha
    all_goals (try exact andK_f q)
    all_goals (refine andK_t ?_; (walk_at "py"))
    · exact r_isi (.bl _) (by simp) (tkK q)
    · exact r_isi (.int _) (by simp) (tkK q)
def isNm : V → Bool
  | .str z => nmStr z
  | _ => false
def sp_is_name : Sp := fun vs H Q _ => ∃ (x : V) (s : String), vs = [x] ∧ Ar H x s ∧ (∀ z, x = .str z → z.length ≤ 100000) ∧ ∀ H', Same H H' → Q (.bl (isNm x)) H'
theorem sign_lt (c d : Nat) : decide ((⟨#[c]⟩ : Str).cps.toList < (⟨#[d]⟩ : Str).cps.toList) = decide (c < d) := by
  refine decide_eq_decide.mpr ?_
  show [c] < [d] ↔ c < d
  rw [List.cons_lt_cons_iff]
  exact ⟨fun h => h.elim id fun z => absurd z.2 (by simp), fun h => .inl h⟩
theorem sign_a : (Str.ofString "a" : Str) = ⟨#[97]⟩ := by decide +kernel
theorem sign_z : (Str.ofString "z" : Str) = ⟨#[122]⟩ := by decide +kernel
theorem ok_is_name (T : Tx mg) (D : At K mg "is_name" s_is_name ["value"]) : Dfn P w K mg base "is_name" ["value"] 1 (sp_is_name ) := by
  refine dfn D sc_is_name (fun vs H Q E h => ?_) (fun X f cdv A outer s H vs Q E hX hr h => ?_)
  · obtain ⟨x, s, rfl, ha, hz, q⟩ := h
    rfl
  · subst hX
    obtain ⟨x, s, rfl, ha, hz, q⟩ := h
    refine ⟨_, (pss_cons (ps_if (PW.pt (pw_or (pt_not (pt_val (pe_callB call_isi (by rfl) T.b_isinstance (by decide +kernel) (pa_cons (pvl 0) (pa_cons (pe_bltn (v := .ty "str") (by rfl) T.b_str (by decide +kernel) rfl) pa_nil))))) (pw_or1 (pt_not (pt_chain opLe opLe pe_int (pe_callB call_len (by rfl) T.b_len PySem.boot_len (pa_cons (pvl 0) pa_nil)) (pe_glob (v := .int (8)) (by rfl) (Exists.choose_spec T.g_MOST_LETTERS) ⟨_, rfl⟩)))))) (pss_one (ps_ret pe_bl)) pss_nil) (pss_one (ps_ret (pe_callB (cr_all rfl) (by rfl) T.b_all (by decide +kernel) (pa_cons (pe_lc (own := [("letter", 1)]) (g := gName 1) (tt := tYes) rfl sc_is_name.nd (pi_str (pvl 0)) (blkOk_by (own := [("letter", 1)]) (N := nn_is_name) (sc := defScope s_is_name) (by decide +kernel)) (fun _ _ _ _ _ => (pg_name (i := 1) sc_is_name.nd rfl (Or.inl rfl))) (fun _ _ _ _ _ => pts_nil) (blk_e fun _ _ _ _ _ => (pe_chain opLe opLe pe_str (pvl 1) pe_str))) pa_nil))))), ?_⟩
    refine y_start (σ' := [some _, none]) (by rfl) ?_
    walk_at "py"
    refine r_isi ha (by simp) ?_
    walk_at "py"
    refine ite_b (fun e => ?_) (fun e => ?_)
    · have e1 : isT s "str" = false := by simpa using e
      have e2 : isNm x = false := by
        cases x with
        | str z => exact absurd rfl (ha.noStr e1 z)
        | _ => rfl
      refine iteT ?_
      walk_at "py"
      have q2 := q H (Same.refl H)
      rw [e2] at q2
      exact q2
    obtain ⟨z, rfl⟩ := ha.isStr (by simpa using e)
    have hz := hz z rfl
    walk_at "py"
    refine ⟨.str z, z.length, rfl, ⟨le_line (by omega), rfl⟩, ?_⟩
    walk_at "py"
    refine andK_b (fun e1 => ?_) (fun e1 => ?_)
    rotate_left
    · walk_at "py"
      have q2 := q H (Same.refl H)
      have e2 : isNm (.str z) = false := by
        have e3 := of_decide_eq_false e1
        show nmStr z = false
        unfold nmStr
        rw [decide_eq_false (by omega)]; rfl
      rw [e2] at q2
      exact q2
    have e2 := of_decide_eq_true e1
    walk_at "py"
    refine ite_b (fun e3 => ?_) (fun e3 => ?_)
    · have e4 : ¬ (z.length : Int) ≤ 8 := by simpa using e3
      walk_at "py"
      have q2 := q H (Same.refl H)
      have e2 : isNm (.str z) = false := by
        show nmStr z = false
        unfold nmStr
        rw [decide_eq_false (by omega)]; rfl
      rw [e2] at q2
      exact q2
    have e4 : (z.length : Int) ≤ 8 := by simpa using e3
    walk_at "py"
    refine ⟨z, rfl, ?_⟩
    refine lc_led (Led.same0 H) walk_str (by show z.length ≤ 100000; omega) (fun i acc F' L' => Same H F' ∧ L' = [] ∧ acc = ((z.cps.toList.take i).map fun c => decide (97 ≤ c ∧ c ≤ 122)).map V.bl) ⟨Same.refl H, rfl, rfl⟩ (fun _ _ _ _ _ _ _ _ => trivial) ?_ ?_
    · rintro Kp Sk i acc F' L' H' Dl x hi ⟨c, hc, rfl⟩ ⟨i1, rfl, i3⟩ D ha kp sk
      walk_at "py"
      refine ⟨rfl, ?_⟩
      walk_at "py"
      rw [sign_a, sign_lt]
      have ec : z.cps.toList[i]? = some c := by simpa using hc
      have et : (z.cps.toList.take (i + 1)) = z.cps.toList.take i ++ [c] := by rw [List.take_add_one, ec]; rfl
      have fin : ∀ b : Bool, b = decide (97 ≤ c ∧ c ≤ 122) → Kp (.bl b) H' := fun b eb => by
        refine kp _ F' [] H' D ⟨i1, rfl, ?_⟩
        rw [et, i3, eb]; simp
      refine andK_b (fun e5 => ?_) (fun e5 => fin _ ?_)
      · walk_at "py"
        rw [sign_z, sign_lt]
        refine fin _ ?_
        have e6 : ¬ c < 97 := by simpa using e5
        by_cases e7 : 122 < c
        · rw [decide_eq_true e7, decide_eq_false (by omega)]; rfl
        · rw [decide_eq_false e7, decide_eq_true (by omega)]; rfl
      · have e6 : c < 97 := by simpa using e5
        rw [decide_eq_false (by omega)]
    · rintro acc F' L' H' Dl ⟨i1, rfl, i3⟩ D ha
      walk_at "py"
      refine ⟨Dl, _, rfl, SqL.of (by rw [← i3]; exact D.get 0), ?_⟩
      have q2 := q H' (i1.trans D.ext)
      have e5 : isNm (.str z) = ((z.cps.toList.take z.cps.size).map fun c => decide (97 ≤ c ∧ c ≤ 122)).all id := by
        show nmStr z = _
        unfold nmStr
        rw [decide_eq_true (by omega), Bool.true_and, List.take_of_length_le (by simp), List.all_map]
        rfl
      rw [e5] at q2
      exact q2
def sp_is_pair : Sp := fun vs H Q _ => ∃ (x : V) (s : String) (b : Bool), vs = [x] ∧ Ar H x s ∧ (b = true ↔ ∃ t u v, x = .ref t ∧ H t = some (.tup [u, v])) ∧ (∀ t xs, x = .ref t → H t = some (.tup xs) → xs.length ≤ 100000) ∧ Q (.bl b) H
theorem ok_is_pair (T : Tx mg) (D : At K mg "is_pair" s_is_pair ["value"]) : Dfn P w K mg base "is_pair" ["value"] 1 (sp_is_pair ) := by
  refine dfn D sc_is_pair (fun vs H Q E h => ?_) (fun X f cdv A outer s H vs Q E hX hr h => ?_)
  · obtain ⟨x, s, b, rfl, ha, hb, hz, q⟩ := h
    rfl
  · subst hX
    obtain ⟨x, s, b, rfl, ha, hb, hz, q⟩ := h
    refine ⟨_, (pss_one (ps_ret (pe_and (pe_cmpR (opEq hr.units) (pe_callTy call_type1 (by rfl) T.b_type (by decide +kernel) (pa_cons (pvl 0) pa_nil)) (pe_bltn (v := .ty "tuple") (by rfl) T.b_tuple boot_tuple rfl) (nomark _)) (pe_one (pe_cmpR (opEq hr.units) (pe_callB call_len (by rfl) T.b_len PySem.boot_len (pa_cons (pvl 0) pa_nil)) pe_int (nomark _)))))), ?_⟩
    refine y_start (σ' := [some _]) (by rfl) ?_
    walk_at "py"
    refine r_typ ha ?_
    walk_at "py"
    refine r_eqT ha.isTy TypeEq.meta_tuple ?_
    refine andK_b (fun e => ?_) (fun e => ?_)
    · have e := of_decide_eq_true e
      obtain ⟨t, xs, rfl, ht⟩ := ha.isTup (by rw [e]; decide)
      walk_at "py"
      refine ⟨.ref t, xs.length, rfl, Or.inr ⟨xs, SqT.of ht, rfl⟩, ?_⟩
      walk_at "py"
      have e2 : decide (V.int (xs.length : Int) = V.int 2) = b := by
        by_cases h2 : xs.length = 2
        · obtain ⟨u, v, rfl⟩ : ∃ u v, xs = [u, v] := by
            match xs, h2 with
            | [u, v], _ => exact ⟨u, v, rfl⟩
          rw [hb.mpr ⟨t, u, v, rfl, ht⟩]; rfl
        · rw [decide_eq_false (fun z => h2 (by injection z with z; omega))]
          cases b with
          | false => rfl
          | true =>
            obtain ⟨t', u, v, e1, e2⟩ := hb.mp rfl
            cases e1
            rw [ht] at e2
            cases e2
            exact absurd rfl h2
      rw [e2]; exact q
    · have e := of_decide_eq_false e
      cases b with
      | false => exact q
      | true =>
        obtain ⟨t', u, v, rfl, e2⟩ := hb.mp rfl
        cases ha with
        | tup h => exact absurd rfl e
        | lst h => rw [h] at e2; cases e2
        | dK h => rw [h] at e2; cases e2
def sp_contains : Sp := fun vs H Q _ => ∃ (v : V) (p : Int) (s : Span), vs = [v, .int p] ∧ SpanAt H v s ∧ Q (.bl (inSpan s p)) H
theorem ok_contains (T : Tx mg) (D : At K mg "contains" s_contains ["interval", "position"]) : Dfn P w K mg base "contains" ["interval", "position"] 1 (sp_contains ) := by
  refine dfn D sc_contains (fun vs H Q E h => ?_) (fun X f cdv A outer s H vs Q E hX hr h => ?_)
  · obtain ⟨v, p, s, rfl, hs, q⟩ := h
    rfl
  · subst hX
    obtain ⟨v, p, s, rfl, hs, q⟩ := h
    refine ⟨_, (pss_cons (ps_if (pt_cmpR opIs (pvl 0) pe_non (nomark _)) (pss_one (ps_ret pe_bl)) pss_nil) (pss_cons (ps_asg (pvl 0) (pg_tup rfl (pgs_cons (pg_name (i := 2) sc_contains.nd rfl (Or.inl rfl)) (pgs_cons (pg_name (i := 3) sc_contains.nd rfl (Or.inl rfl)) pgs_nil)))) (pss_one (ps_ret (pe_and (pe_or (pe_cmpR opIs (pvl 2) pe_non (nomark _)) (pe_one (pe_cmpR opLe (pvl 2) (pvl 1) (nomark _)))) (pe_one (pe_or (pe_cmpR opIs (pvl 3) pe_non (nomark _)) (pe_one (pe_cmpR opLe (pvl 1) (pvl 3) (nomark _)))))))))), ?_⟩
    refine y_start (σ' := [some _, some _, none, none]) (by rfl) ?_
    walk_at "py"
    match s, hs, q with
    | none, hs, q =>
      cases hs
      rw [decide_eq_true rfl]
      walk_at "py"
      exact q
    | some (l, hi), ⟨t, e, ht⟩, q =>
      subst e
      rw [decide_eq_false (by intro e; cases e)]
      walk_at "py"
      refine y_gtup (SqT.of ht) rfl ?_
      refine y_gcons ?_
      walk_at "py"
      refine y_gcons ?_
      walk_at "py"
      refine y_gnil ?_
      walk_at "py"
      cases l with
      | none =>
        rw [decide_eq_true (show oV none = V.non from rfl)]
        refine andK_t (andK_t ?_)
        walk_at "py"
        cases hi with
        | none =>
          rw [decide_eq_true (show oV none = V.non from rfl)]
          refine andK_t ?_
          exact q
        | some j =>
          rw [decide_eq_false (show ¬ oV (some j) = V.non from fun e => by cases e)]
          refine andK_f ?_
          walk_at "py"
          exact r_le (a := p) (b := j) q
      | some i =>
        rw [decide_eq_false (show ¬ oV (some i) = V.non from fun e => by cases e)]
        refine andK_f ?_
        walk_at "py"
        refine r_le (a := i) (b := p) ?_
        refine andK_b (fun e => ?_) (fun e => ?_)
        · walk_at "py"
          cases hi with
          | none =>
            rw [decide_eq_true (show oV none = V.non from rfl)]
            refine andK_t ?_
            exact (by have q' : Q (.bl (decide (i ≤ p) && highOk _ p)) H := q; rw [e] at q'; exact q')
          | some j =>
            rw [decide_eq_false (show ¬ oV (some j) = V.non from fun e => by cases e)]
            refine andK_f ?_
            walk_at "py"
            exact r_le (a := p) (b := j) (by have q' : Q (.bl (decide (i ≤ p) && highOk _ p)) H := q; rw [e] at q'; exact q')
        · have q' : Q (.bl (decide (i ≤ p) && highOk hi p)) H := q
          rw [e] at q'
          exact q'
def sp__law_reel (K : PySem.W.Frag) : Sp := fun vs H Q _ => ∃ (F : Hp) (L : List (Addr × HO)) (a : Addr) (ns : List Int), vs = [.ref a] ∧ Led H F L ∧ SqL K F a (ns.map V.int) ∧ ns.length ≤ 63 ∧
  ∀ r g c R F' H', Same F F' → Led H' F' (rE r g c R ++ L) → RlOk R → R.n = 0 → Q (.ref r) H'
theorem ok__law_reel (T : Tx mg) (D : At K mg "_law_reel" s__law_reel ["script"]) : Dfn P w K mg base "_law_reel" ["script"] 1 (sp__law_reel K) := by
  refine dfn D sc__law_reel (fun vs H Q E h => ?_) (fun X f cdv A outer s H vs Q E hX hr h => ?_)
  · obtain ⟨F, L, a, ns, rfl, D0, hs, hl, q⟩ := h
    rfl
  · subst hX
    obtain ⟨F, L, a, ns, rfl, D0, hs, hl, q⟩ := h
    refine ⟨_, (pss_cons (ps_set (i := 1) sc__law_reel.nd rfl (Or.inl rfl) (pe_op opPow pe_int pe_int)) (pss_cons (ps_for PassesOwn.never rfl (pi_list (pe_slice sl_list (pvl 0) po_none (po_some pe_int))) (pg_name (i := 2) sc__law_reel.nd rfl (Or.inl rfl)) (pss_one (ps_set (i := 1) sc__law_reel.nd rfl (Or.inl rfl) (pe_op opMod (pe_op opAdd (pe_op opAdd (pe_op opMul (pvl 1) (pvl 1)) (pe_op opMod (pvl 2) pe_int)) pe_int) (pe_op opSub (pe_op opMul (pe_op opPow pe_int pe_int) (pe_op opPow pe_int pe_int)) pe_int))))) (pss_cons (ps_setLc (i := 3) (own := [("cell", 2)]) (g := gName 2)  rfl sc__law_reel.nd rfl rfl (sw_true rfl rfl rfl (by decide +kernel)) (pi_list (pe_slice sl_list (pvl 0) po_none (po_some pe_int))) (blkOk_by (own := [("cell", 2)]) (N := nn__law_reel) (sc := defScope s__law_reel) (by decide +kernel)) (fun _ _ _ _ _ => (pg_name (i := 2) sc__law_reel.nd rfl (Or.inl rfl))) (blk_t fun _ _ _ _ _ => (pts_one (pt_cmpR opGe (pvl 2) (pe_op opPow pe_int pe_int) (nomark _)))) (blk_e fun _ _ _ _ _ => (pe_op opSub (pvl 2) (pe_op opPow pe_int pe_int)))) (pss_one (ps_ret (pe_lst (pa_cons (pvl 3) (pa_cons (pe_op opAdd (pe_lc (own := [("cell", 2)]) (g := gName 2) (tt := tYes) rfl sc__law_reel.nd (pi_list (pe_slice sl_list (pvl 0) po_none (po_some pe_int))) (blkOk_by (own := [("cell", 2)]) (N := nn__law_reel) (sc := defScope s__law_reel) (by decide +kernel)) (fun _ _ _ _ _ => (pg_name (i := 2) sc__law_reel.nd rfl (Or.inl rfl))) (fun _ _ _ _ _ => pts_nil) (blk_e fun _ _ _ _ _ => (pe_op opMod (pvl 2) pe_int))) (pe_lst (pa_cons pe_int pa_nil))) (pa_cons pe_int (pa_cons (pvl 1) pa_nil)))))))))), ?_⟩
    refine y_start (σ' := [some _, none, none, none]) (by rfl) ?_
    walk_at "py"
    walk_at "nums"
    walk_at "py"
    have cut : cutV (ns.map V.int) none (some 63) = ns.map V.int := (cut_take _ 63).trans (List.take_of_length_le (by rw [List.length_map]; exact hl))
    refine r_sl (D0.seq hs) ?_
    rw [cut]
    intro p np
    generalize eh : upd H p _ = H1
    obtain ⟨F1, e1, hp, -, D1⟩ := D0.nf np eh
    refine ⟨p, rfl, ⟨_, SqL.of (D1.frz hp)⟩, ?_⟩
    refine for_any (walk_list (xs := ns.map V.int)) (fun i σ' H' => ∃ (st : Int) (v : Option V), σ' = [some (.ref a), some (.int st), v, none] ∧ H' = H1 ∧ 0 ≤ st ∧ st < 2 ^ 140) ⟨_, _, rfl, rfl, by decide +kernel, by decide +kernel⟩ (fun i σ' H' ⟨st, v, _, e, _⟩ => by rw [e]; exact SqL.of (D1.frz hp)) ?_ ?_
    · rintro i x σ' H' hi hx ⟨st, v, rfl, rfl, h0, h1⟩
      obtain ⟨z, rfl⟩ : ∃ z, x = V.int z := by
        rw [List.getElem?_map] at hx
        cases e : ns[i]? with
        | none => rw [e] at hx; cases hx
        | some z => rw [e] at hx; exact ⟨z, (Option.some.inj hx).symm⟩
      walk_at "py"
      refine r_mul (wide_mul (abs_lt h0 h1) (abs_lt h0 h1) (by decide) (by decide) (by decide)) ?_
      walk_at "py"
      walk_at "nums"
      walk_at "py"
      walk_at "nums"
      walk_at "py"
      walk_at "nums"
      walk_at "nums"
      walk_at "py"
      walk_at "nums"
      walk_at "py"
      obtain ⟨m0, m1⟩ := mod_m (st * st + z % 1000000000000000003 + 29)
      exact ⟨_, _, rfl, rfl, m0, m1⟩
    · rintro σ' H' ⟨st, v, rfl, rfl, h0, h1⟩
      walk_at "py"
      refine r_sl (D1.seq (e1.seq hs)) ?_
      rw [cut]
      intro p2 np2
      generalize eh2 : upd H' p2 _ = H2
      obtain ⟨F2, e2, hp2, -, D2⟩ := D1.nf np2 eh2
      refine ⟨p2, rfl, ⟨_, SqL.of (D2.frz hp2)⟩, ?_⟩
      refine lc_led D2 (walk_list (xs := ns.map V.int)) (by rw [List.length_map]; omega) (fun i acc F' L' => F' = F2 ∧ L' = L ∧ ∃ gs : List Int, acc = gs.map V.int) ⟨rfl, rfl, [], rfl⟩
        (fun i acc F' L' H' Dl ⟨z, _, _⟩ D => SqL.of (D.ext _ _ (by rw [z]; exact hp2))) ?_ ?_
      · rintro Kp Sk i acc F' L' H3 Dl x hi hx ⟨rfl, rfl, gs, rfl⟩ D ha kp sk
        obtain ⟨z, rfl, hz⟩ := ints_at hx
        walk_at "py"
        refine ⟨rfl, ?_⟩
        walk_at "py"
        walk_at "nums"
        walk_at "py"
        refine ite_b (fun _ => ?_) (fun _ => sk F' L' H3 D ⟨rfl, rfl, gs, rfl⟩)
        walk_at "py"
        walk_at "nums"
        walk_at "py"
        exact kp _ F' L' H3 D ⟨rfl, rfl, gs ++ [_], by rw [List.map_append]; rfl⟩
      rintro acc F3 L3 H3 Dg ⟨rfl, rfl, gs, rfl⟩ D3 hgl
      walk_at "py"
      refine r_sl (D3.seq (e2.seq (e1.seq hs))) ?_
      rw [cut]
      intro p4 np4
      generalize eh4 : upd H3 p4 _ = H4
      obtain ⟨F4, e4, hp4, -, D4⟩ := D3.nf np4 eh4
      refine ⟨p4, rfl, ⟨_, SqL.of (D4.frz hp4)⟩, ?_⟩
      refine lc_led D4 (walk_list (xs := ns.map V.int)) (by rw [List.length_map]; omega) (fun i acc F' L' => F' = F4 ∧ L' = (Dg, .lst (gs.map V.int)) :: L3 ∧ ∃ cs : List Int, acc = cs.map V.int ∧ ∀ x ∈ cs, 0 ≤ x ∧ x < 1000003) ⟨rfl, rfl, [], rfl, by simp⟩
        (fun i acc F' L' H' Dl ⟨z, _, _⟩ D => SqL.of (D.ext _ _ (by rw [z]; exact hp4))) ?_ ?_
      · rintro Kp Sk i acc F' L' H5 Dl x hi hx ⟨rfl, rfl, cs, rfl, hcs⟩ D ha kp sk
        obtain ⟨z, rfl, hz⟩ := ints_at hx
        walk_at "py"
        refine ⟨rfl, ?_⟩
        walk_at "py"
        walk_at "nums"
        refine kp _ F' _ H5 D ⟨rfl, rfl, cs ++ [_], by rw [List.map_append]; rfl, fun y hy => ?_⟩
        rcases List.mem_append.mp hy with h | h
        · exact hcs y h
        · rw [List.mem_singleton.mp h]; exact ⟨Int.emod_nonneg _ (by decide), Int.emod_lt_of_pos _ (by decide)⟩
      rintro acc F5 L5 H5 Dc ⟨rfl, rfl, cs, rfl, hcs⟩ D5 hcl
      walk_at "py"
      refine ⟨by decide, ?_⟩
      intro p6 np6
      generalize eh6 : upd H5 p6 _ = H6
      have D6 := D5.nl np6 eh6
      refine r_addL (D6.get 1) (D6.get 0) (by rw [List.length_map] at hcl ⊢; rw [List.length_map] at hcl; exact le_line (by show cs.length + 1 ≤ 1000000; omega)) ?_
      intro p7 np7
      generalize eh7 : upd H6 p7 _ = H7
      have D7 := D6.nl np7 eh7
      walk_at "py"
      refine ⟨by show 4 ≤ sizeLine; decide, ?_⟩
      intro p8 np8
      generalize eh8 : upd H7 p8 _ = H8
      have D8 := D7.nl np8 eh8
      rw [List.length_map, List.length_map] at hgl hcl
      refine q p8 Dg p7 ⟨gs, cs ++ [57], 0, st⟩ _ H8 (e1.trans (e2.trans e4)) ?_ ⟨by show gs.length ≤ 64; omega, by simp, by show (cs ++ [57]).length ≤ 64; simp; omega, fun x hx => ?_, h0, h1⟩ rfl
      · have D9 := D8.sub (L' := [_, _, _] ++ L3) (.cons₂ _ (.cons₂ _ (.cons _ (.cons _ (.cons₂ _ (List.Sublist.refl _))))))
        have D10 := (D9.perm (.cons _ (.swap _ _ _)))
        show Led H8 _ ((p8, HO.lst [.ref Dg, .ref p7, .int 0, .int st]) :: (Dg, _) :: (p7, .lst ((cs ++ [57]).map V.int)) :: L3)
        rw [List.map_append]
        exact D10
      · rcases List.mem_append.mp hx with h | h
        · exact hcs x h
        · rw [List.mem_singleton.mp h]; decide
def sp__law_draw : Sp := fun vs H Q _ => ∃ (F : Hp) (L : List (Addr × HO)) (r g c : Addr) (R : Rl) (m : Int), vs = [.ref r, .int m] ∧ Led H F (rE r g c R ++ L) ∧ RlOk R ∧ 0 < m ∧ m < 2 ^ 100 ∧ R.n < 1000000000 ∧
  ∀ d g' R' H', 0 ≤ d → d < m → Led H' F (rE r g' c R' ++ L) → RlOk R' → R'.n ≤ R.n + 1 → Q (.int d) H'
theorem ok__law_draw (T : Tx mg) (D : At K mg "_law_draw" s__law_draw ["reel", "many"]) : Dfn P w K mg base "_law_draw" ["reel", "many"] 1 (sp__law_draw ) := by
  refine dfn D sc__law_draw (fun vs H Q E h => ?_) (fun X f cdv A outer s H vs Q E hX hr h => ?_)
  · obtain ⟨F, L, r, g, c, R, m, rfl, D0, ok, hm, hm2, hn, q⟩ := h
    rfl
  · subst hX
    obtain ⟨F, L, r, g, c, R, m, rfl, D0, ok, hm, hm2, hn, q⟩ := h
    refine ⟨_, (pss_cons (ps_if (pt_cmpR (opNe hr.units) (pe_ix ix_seq (pvl 0) pe_int (fun _ _ => rfl)) (pe_lst pa_nil) (nomark _)) (pss_cons (ps_set (i := 2) sc__law_draw.nd rfl (Or.inl rfl) (pe_ix ix_seq (pe_ix ix_seq (pvl 0) pe_int (fun _ _ => rfl)) pe_int (fun _ _ => rfl))) (pss_cons (ps_asg (pe_op opAdd (pe_op opMul (pe_lst (pa_cons (pe_op opFdv (pvl 2) (pvl 1)) pa_nil)) (pe_callTy call_int1 (by rfl) T.b_int boot_int (pa_cons (pe_cmpR opGe (pvl 2) (pvl 1) (nomark _)) pa_nil))) (pe_slice sl_list (pe_ix ix_seq (pvl 0) pe_int (fun _ _ => rfl)) (po_some pe_int) po_none)) (pg_sub (pvl 0) pe_int set_list)) (pss_one (ps_ret (pe_op opMod (pvl 2) (pvl 1)))))) pss_nil) (pss_cons (ps_asg (pe_op opAdd (pe_ix ix_seq (pvl 0) pe_int (fun _ _ => rfl)) pe_int) (pg_sub (pvl 0) pe_int set_list)) (pss_cons (ps_set (i := 3) sc__law_draw.nd rfl (Or.inl rfl) (pe_ix ix_seq (pe_ix ix_seq (pvl 0) pe_int (fun _ _ => rfl)) (pe_op opMod (pe_ix ix_seq (pvl 0) pe_int (fun _ _ => rfl)) (pe_callB call_len (by rfl) T.b_len PySem.boot_len (pa_cons (pe_ix ix_seq (pvl 0) pe_int (fun _ _ => rfl)) pa_nil))) (fun _ _ => rfl))) (pss_cons (ps_set (i := 4) sc__law_draw.nd rfl (Or.inl rfl) (pe_op opAdd (pe_op opAdd (pe_op opMul (pe_ix ix_seq (pvl 0) pe_int (fun _ _ => rfl)) (pe_ix ix_seq (pvl 0) pe_int (fun _ _ => rfl))) (pe_op opMul (pe_op opAdd (pvl 3) pe_int) pe_int)) (pe_op opMul (pe_ix ix_seq (pvl 0) pe_int (fun _ _ => rfl)) pe_int))) (pss_cons (ps_asg (pe_op opMod (pvl 4) (pe_op opSub (pe_op opMul (pe_op opPow pe_int pe_int) (pe_op opPow pe_int pe_int)) pe_int)) (pg_sub (pvl 0) pe_int set_list)) (pss_one (ps_ret (pe_op opMod (pe_op opFdv (pe_ix ix_seq (pvl 0) pe_int (fun _ _ => rfl)) (pe_op opPow pe_int pe_int)) (pvl 1))))))))), ?_⟩
    refine y_start (σ' := [some _, some _, none, none, none]) (by rfl) ?_
    walk_at "py"
    refine r_ixL (SqL.of (D0.get 0)) (at_nat (k := 0) rfl) ?_
    walk_at "py"
    refine ⟨by decide, ?_⟩
    intro p np
    generalize eh : upd H p _ = H1
    have D1 := D0.nl np eh
    refine r_neD (.lst (SqL.of (D1.get 2)) (dpI R.great)) (.lst (SqL.of (D1.get 0)) (dpI [])) (shI _) (shI _) ?_
    obtain ⟨great, cells, n, stir⟩ := R
    cases great with
    | cons rest more =>
      rw [show (!PyData.eqv (.list (dI (rest :: more))) (.list (dI []))) = true from rfl]
      walk_at "py"
      refine r_ixL (SqL.of (D1.get 1)) (at_nat (k := 0) rfl) ?_
      walk_at "py"
      refine r_ixL (SqL.of (D1.get 2)) (at_nat (k := 0) rfl) ?_
      walk_at "py"
      refine r_fdv (wide_div hm (b := 101) (by omega) (by decide) (by decide)) ?_
      walk_at "py"
      refine ⟨by show 1 ≤ sizeLine; decide, ?_⟩
      intro p2 np2
      generalize eh2 : upd H1 p2 _ = H2
      have D2 := D1.nl np2 eh2
      walk_at "py"
      refine .inr ⟨_, rfl, ?_⟩
      refine r_mulL (D2.get 0) (by split <;> decide) (by split <;> decide) (by split <;> first | (show 1 * 1 ≤ sizeLine; decide) | (show 1 * 0 ≤ sizeLine; decide)) ?_
      intro p3 np3
      generalize eh3 : upd H2 p3 _ = H3
      have D3 := D2.nl np3 eh3
      walk_at "py"
      refine r_ixL (SqL.of (D3.get 3)) (at_nat (k := 0) rfl) ?_
      walk_at "py"
      refine r_sl (SqL.of (D3.get 4)) ?_
      intro p4 np4
      generalize eh4 : upd H3 p4 _ = H4
      have D4 := D3.nl np4 eh4
      have el : (List.replicate (if decide (m ≤ rest) = true then (1 : Int) else 0).toNat [V.int (rest / m)]).flatten = ((if m ≤ rest then [rest / m] else []).map V.int) := by
        by_cases h : m ≤ rest
        · rw [if_pos (decide_eq_true h), if_pos h]; rfl
        · rw [if_neg (by rw [decide_eq_false h]; decide), if_neg h]; rfl
      have ec : cutV ((rest :: more).map V.int) (some 1) none = more.map V.int := cut_drop _ 1
      have hl := ok.gl
      have hlm : more.length + 1 ≤ 64 := hl
      refine r_addL (D4.get 1) (D4.get 0) ?_ ?_
      · show _ + (cutV ((rest :: more).map V.int) (some 1) none).length ≤ _
        rw [el, ec, List.length_map, List.length_map]
        refine le_line ?_
        split <;> simp <;> omega
      intro p5 np5
      generalize eh5 : upd H4 p5 _ = H5
      have D5 := D4.nl np5 eh5
      walk_at "py"
      refine r_setL (j := 0) (D5.get 5) (by show 0 < 4; decide) ?_
      generalize eh6 : upd H5 r _ = H6
      have D6 := D5.st 5 eh6
      walk_at "py"
      refine r_mod hm ?_
      refine q _ p5 ⟨(if m ≤ rest then [rest / m] else []) ++ more, cells, n, stir⟩ H6 (Int.emod_nonneg _ (by omega)) (Int.emod_lt_of_pos _ hm) ?_ ⟨?_, ok.c1, ok.c2, ok.cb, ok.s0, ok.s1⟩ (by show n ≤ n + 1; omega)
      · have D7 := D6.sub (L' := (p5, _) :: (r, _) :: (c, _) :: L) (.cons₂ _ (.cons _ (.cons _ (.cons _ (.cons _ (.cons₂ _ (.cons _ (List.Sublist.refl _))))))))
        have D8 := D7.swap
        have e8 : (List.replicate (if decide (m ≤ rest) = true then (1 : Int) else 0).toNat [V.int (rest / m)]).flatten ++ cutV ((rest :: more).map V.int) (some 1) none = ((if m ≤ rest then [rest / m] else []) ++ more).map V.int := by
          rw [el, ec, List.map_append]
        show Led H6 F ((r, HO.lst [.ref p5, .ref c, .int n, .int stir]) :: (p5, .lst (((if m ≤ rest then [rest / m] else []) ++ more).map V.int)) :: (c, .lst (cells.map V.int)) :: L)
        rw [← e8]
        exact D8
      · show ((if m ≤ rest then [rest / m] else []) ++ more).length ≤ 64
        split <;> simp <;> omega
    | nil =>
      rw [show (!PyData.eqv (.list (dI [])) (.list (dI []))) = false from rfl]
      walk_at "py"
      refine r_ixL (SqL.of (D1.get 1)) (at_nat (k := 2) rfl) ?_
      walk_at "py"
      refine r_setL (j := 2) (D1.get 1) (by show 2 < 4; decide) ?_
      generalize eh2 : upd H1 r _ = H2
      have D2 := D1.st 1 eh2
      walk_at "py"
      refine r_ixL (SqL.of (D2.get 1)) (at_nat (k := 1) rfl) ?_
      walk_at "py"
      refine r_ixL (SqL.of (D2.get 1)) (at_nat (k := 2) rfl) ?_
      walk_at "py"
      refine r_ixL (SqL.of (D2.get 1)) (at_nat (k := 1) rfl) ?_
      walk_at "py"
      refine ⟨_, _, rfl, Or.inl ⟨_, SqL.of (D2.get 3), rfl⟩, ?_⟩
      have c1 := ok.c1
      have c1 : 1 ≤ cells.length := c1
      have cl : (cells.map V.int).length = cells.length := List.length_map ..
      rw [cl]
      refine r_mod (by omega) ?_
      obtain ⟨k, hk, ek⟩ : ∃ k : Nat, k < cells.length ∧ ((n : Int) + 1) % (cells.length : Int) = (k : Int) := by
        refine ⟨(n + 1) % cells.length, Nat.mod_lt _ (by omega), ?_⟩
        rw [Int.natCast_emod]; rfl
      rw [ek]
      obtain ⟨z, hz⟩ : ∃ z, cells[k]? = some z := ⟨_, List.getElem?_eq_getElem hk⟩
      have zb := ok.cb z (List.mem_of_getElem? hz)
      refine r_ixL (SqL.of (D2.get 3)) (at_nat (c := V.int z) (by rw [List.getElem?_map, hz]; rfl)) ?_
      walk_at "py"
      refine r_ixL (SqL.of (D2.get 1)) (at_nat (k := 3) rfl) ?_
      walk_at "py"
      refine r_ixL (SqL.of (D2.get 1)) (at_nat (k := 3) rfl) ?_
      have s0 := ok.s0
      have s1 := ok.s1
      have s0 : 0 ≤ stir := s0
      have s1 : stir < 2 ^ 140 := s1
      have hn : n < 1000000000 := hn
      refine r_mul (wide_mul (abs_lt s0 s1) (abs_lt s0 s1) (by decide) (by decide) (by decide)) ?_
      walk_at "py"
      refine r_mul (wide_mul (a := 21) (b := 26) (by omega) (by decide) (by decide) (by decide) (by decide)) ?_
      walk_at "py"
      refine r_ixL (SqL.of (D2.get 1)) (at_nat (k := 2) rfl) ?_
      walk_at "py"
      refine r_mul (wide_mul (a := 31) (b := 26) (by omega) (by decide) (by decide) (by decide) (by decide)) ?_
      walk_at "py"
      walk_at "nums"
      walk_at "py"
      walk_at "nums"
      walk_at "nums"
      walk_at "py"
      walk_at "nums"
      walk_at "py"
      obtain ⟨m0, m1⟩ := mod_m (stir * stir + (z + 11) * 32452867 + ((n : Int) + 1) * 999953)
      refine r_setL (j := 3) (D2.get 1) (by show 3 < 4; decide) ?_
      generalize eh3 : upd H2 r _ = H3
      have D3 := D2.st 1 eh3
      walk_at "py"
      refine r_ixL (SqL.of (D3.get 1)) (at_nat (k := 3) rfl) ?_
      walk_at "py"
      walk_at "nums"
      refine r_fdv (wide_div (b := 42) (by decide +kernel) (by decide +kernel) (by decide) (by decide)) ?_
      walk_at "py"
      refine r_mod hm ?_
      exact q _ g ⟨[], cells, n + 1, _⟩ H3 (Int.emod_nonneg _ (by omega)) (Int.emod_lt_of_pos _ hm) D3.drop ⟨by show 0 ≤ 64; decide, ok.c1, ok.c2, ok.cb, m0, m1⟩ (Nat.le_refl _)
def sp__law_holds : Sp := fun vs H Q _ => ∃ (v : V) (p : Int) (s : Span), vs = [v, .int p] ∧ SpanAt H v s ∧ Q (.bl (inSpan s p)) H
theorem ok__law_holds (T : Tx mg) (D : At K mg "_law_holds" s__law_holds ["span", "place"]) : Dfn P w K mg base "_law_holds" ["span", "place"] 1 (sp__law_holds ) := by
  refine dfn D sc__law_holds (fun vs H Q E h => ?_) (fun X f cdv A outer s H vs Q E hX hr h => ?_)
  · obtain ⟨v, p, s, rfl, hs, q⟩ := h
    rfl
  · subst hX
    obtain ⟨v, p, s, rfl, hs, q⟩ := h
    refine ⟨_, (pss_cons (ps_if (pt_cmpR opIs (pvl 0) pe_non (nomark _)) (pss_one (ps_ret pe_bl)) pss_nil) (pss_one (ps_ret (pe_and (pe_or (pe_cmpR opIs (pe_ix ix_seq (pvl 0) pe_int (fun _ _ => rfl)) pe_non (nomark _)) (pe_one (pe_cmpR opLe (pe_ix ix_seq (pvl 0) pe_int (fun _ _ => rfl)) (pvl 1) (nomark _)))) (pe_one (pe_or (pe_cmpR opIs (pe_ix ix_seq (pvl 0) pe_int (fun _ _ => rfl)) pe_non (nomark _)) (pe_one (pe_cmpR opLe (pvl 1) (pe_ix ix_seq (pvl 0) pe_int (fun _ _ => rfl)) (nomark _))))))))), ?_⟩
    refine y_start (σ' := [some _, some _]) (by rfl) ?_
    walk_at "py"
    match s, hs, q with
    | none, hs, q =>
      cases hs
      rw [decide_eq_true rfl]
      walk_at "py"
      exact q
    | some (l, hi), ⟨t, e, ht⟩, q =>
      subst e
      rw [decide_eq_false (by intro e; cases e)]
      walk_at "py"
      refine r_ixT (SqT.of ht) (at_nat (k := 0) rfl) ?_
      walk_at "py"
      cases l with
      | none =>
        rw [decide_eq_true (show oV none = V.non from rfl)]
        refine andK_t (andK_t ?_)
        walk_at "py"
        refine r_ixT (SqT.of ht) (at_nat (k := 1) rfl) ?_
        walk_at "py"
        cases hi with
        | none =>
          rw [decide_eq_true (show oV none = V.non from rfl)]
          refine andK_t ?_
          exact q
        | some j =>
          rw [decide_eq_false (show ¬ oV (some j) = V.non from fun e => by cases e)]
          refine andK_f ?_
          walk_at "py"
          refine r_ixT (SqT.of ht) (at_nat (k := 1) rfl) ?_
          exact r_le (a := p) (b := j) q
      | some i =>
        rw [decide_eq_false (show ¬ oV (some i) = V.non from fun e => by cases e)]
        refine andK_f ?_
        walk_at "py"
        refine r_ixT (SqT.of ht) (at_nat (k := 0) rfl) ?_
        walk_at "py"
        refine r_le (a := i) (b := p) ?_
        refine andK_b (fun e => ?_) (fun e => ?_)
        · walk_at "py"
          refine r_ixT (SqT.of ht) (at_nat (k := 1) rfl) ?_
          walk_at "py"
          cases hi with
          | none =>
            rw [decide_eq_true (show oV none = V.non from rfl)]
            refine andK_t ?_
            exact (by have q' : Q (.bl (decide (i ≤ p) && highOk _ p)) H := q; rw [e] at q'; exact q')
          | some j =>
            rw [decide_eq_false (show ¬ oV (some j) = V.non from fun e => by cases e)]
            refine andK_f ?_
            walk_at "py"
            refine r_ixT (SqT.of ht) (at_nat (k := 1) rfl) ?_
            exact r_le (a := p) (b := j) (by have q' : Q (.bl (decide (i ≤ p) && highOk _ p)) H := q; rw [e] at q'; exact q')
        · have q' : Q (.bl (decide (i ≤ p) && highOk hi p)) H := q
          rw [e] at q'
          exact q'
def sp__law_none : Sp := fun vs H Q _ => ∃ (F : Hp) (L : List (Addr × HO)) (a : Addr) (ks : List (Str × Int)), vs = [.ref a] ∧ Led H F L ∧ F a = some (.dK (lineK ks)) ∧ LineOk ks ∧
  ∀ d F' H', Same F F' → StAt F' ks d (fun _ => none) → Led H' F' L → Q (.ref d) H'
theorem ok__law_none (T : Tx mg) (D : At K mg "_law_none" s__law_none ["net"]) : Dfn P w K mg base "_law_none" ["net"] 1 (sp__law_none ) := by
  refine dfn D sc__law_none (fun vs H Q E h => ?_) (fun X f cdv A outer s H vs Q E hX hr h => ?_)
  · obtain ⟨F, L, a, ks, rfl, D0, hf, hk, q⟩ := h
    rfl
  · subst hX
    obtain ⟨F, L, a, ks, rfl, D0, hf, hk, q⟩ := h
    refine ⟨_, (pss_one (ps_ret (pe_callTy (call_dictP rfl) (by rfl) T.b_dict boot_dict (pa_cons (pe_lc (own := [("name", 1)]) (g := gName 1) (tt := tYes) rfl sc__law_none.nd (pi_list (pe_callB (call_sortedD rfl) (by rfl) T.b_sorted (by decide +kernel) (pa_cons (pvl 0) pa_nil))) (blkOk_by (own := [("name", 1)]) (N := nn__law_none) (sc := defScope s__law_none) (by decide +kernel)) (fun _ _ _ _ _ => (pg_name (i := 1) sc__law_none.nd rfl (Or.inl rfl))) (fun _ _ _ _ _ => pts_nil) (blk_e fun _ _ _ _ _ => (pe_tup (pa_cons (pvl 1) (pa_cons pe_non pa_nil))))) pa_nil)))), ?_⟩
    refine y_start (σ' := [some _, none]) (by rfl) ?_
    have l1 := hk.len1
    have l2 := hk.len2
    have ekk : (lineK ks).map (·.1) = (ks.map (·.1)).map Sum.inr := by
      unfold lineK
      rw [List.map_map, List.map_map]; rfl
    walk_at "py"
    refine ⟨a, _, ks.map (·.1), rfl, .inl (D0.frz hf), ekk, by rw [List.length_map]; omega, fun ys nm perm _ nnm => ?_⟩
    generalize eh : upd H nm _ = H1
    obtain ⟨F1, s1, hn1, -, D1⟩ := D0.nf nnm eh
    have ly : ys.length = ks.length := by rw [perm.length_eq, List.length_map]
    walk_at "py"
    refine ⟨nm, rfl, ⟨_, SqL.of (D1.frz hn1)⟩, ?_⟩
    refine lc_led D1 (walk_list (xs := ys.map V.str)) (by rw [List.length_map]; omega) (fun i acc F' L' => Same F1 F' ∧ L' = L ∧
      ∃ ts, acc = ts.map V.ref ∧ Paired (fun t kv => F' t = some (.tup [kV kv.1, kv.2])) ts (strK ((ys.take i).map fun z => (z, V.non)))) ⟨Same.refl _, rfl, [], rfl, .nil⟩
      (fun i acc F' L' H' Dl ⟨s, _, _⟩ D => SqL.of (D.frz (s _ _ hn1))) ?_ ?_
    · rintro Kp Sk i acc F' L' H10 Dl x hi hx ⟨s3, rfl, ts, rfl, pt⟩ D10 ha2 kp sk
      obtain ⟨z, rfl, hz⟩ := strs_at hx
      walk_at "py1"
      refine ⟨rfl, ?_⟩
      walk_at "py"
      refine ⟨by show 2 ≤ sizeLine; decide, ?_⟩
      intro t nt
      generalize eh10 : upd H10 t _ = H11
      obtain ⟨F2, s2, ht, -, D11⟩ := D10.nf nt eh10
      refine kp (.ref t) F2 _ H11 D11 ⟨s3.trans s2, rfl, ts ++ [t], by rw [List.map_append]; rfl, ?_⟩
      rw [List.take_add_one, hz, List.map_append, strK_app]
      exact Paired.app (L2.Paired.mapP pt fun _ _ h => s2 _ _ h) (.cons ht .nil)
    rintro acc F10 L10 H10 Dt ⟨s3, rfl, ts, rfl, pt⟩ D10 ha2
    walk_at "py"
    rw [List.length_map, List.take_of_length_le (Nat.le_refl _)] at pt
    refine ⟨Dt, ts, _, rfl, SqL.of (D10.get 0), L2.Paired.mapP pt fun _ _ h => SqT.of (D10.frz h), ?_⟩
    intro d nd
    have enm : (ys.map fun z => (z, V.non)).map (·.1) = ys := by rw [List.map_map]; exact List.map_id' _
    rw [show mergeK [] (strK (ys.map fun z => (z, V.non))) = strK (ys.map fun z => (z, V.non)) from merge_str _ [] (by rw [List.nil_append, enm]; exact perm.nodup_iff.mpr hk.ndn)]
    generalize eh11 : upd H10 d _ = H11
    obtain ⟨F11, s2, hd, -, D11⟩ := D10.drop.nf nd eh11
    exact q d F11 H11 (s1.trans (s3.trans s2)) ⟨_, hd, by rw [enm]; exact perm, fun p hp => by obtain ⟨z, _, rfl⟩ := List.mem_map.mp hp; rfl⟩ D11
def isPos : V → Bool
  | .int i => decide (-(10 ^ 30) ≤ i ∧ i ≤ 10 ^ 30)
  | _ => false
def sp_is_position : Sp := fun vs H Q _ => ∃ (x : V) (s : String), vs = [x] ∧ Ar H x s ∧ Q (.bl (isPos x)) H
theorem ok_is_position (T : Tx mg) (D : At K mg "is_position" s_is_position ["value"]) (D_is_integer : Dfn P w K mg base "is_integer" ["value"] 1 (sp_is_integer )) : Dfn P w K mg base "is_position" ["value"] 2 (sp_is_position ) := by
  refine dfn D sc_is_position (fun vs H Q E h => ?_) (fun X f cdv A outer s H vs Q E hX hr h => ?_)
  · obtain ⟨x, s, rfl, ha, q⟩ := h
    rfl
  · subst hX
    obtain ⟨x, s, rfl, ha, q⟩ := h
    refine ⟨_, (pss_one (ps_ret (pe_and (pe_callD D_is_integer (hr.mono (by decide)) (by rfl) (pa_cons (pvl 0) pa_nil)) (pe_one (pe_chain opLe opLe (pe_un un_neg (pe_glob (v := .int (1000000000000000000000000000000)) (by rfl) (Exists.choose_spec T.g_FARTHEST) ⟨_, rfl⟩)) (pvl 0) (pe_glob (v := .int (1000000000000000000000000000000)) (by rfl) (Exists.choose_spec T.g_FARTHEST) ⟨_, rfl⟩)))))), ?_⟩
    refine y_start (σ' := [some _]) (by rfl) ?_
    walk_at "py"
    refine ⟨x, s, rfl, ha, ?_⟩
    cases ha
    all_goals (try exact andK_f q)
    rename_i i
    refine andK_t ?_
    walk_at "py"
    refine andK_b (fun e => ?_) (fun e => ?_)
    · walk_at "py"
      have e1 := of_decide_eq_true e
      have e2 : (decide (i ≤ 1000000000000000000000000000000)) = isPos (.int i) := by
        show _ = decide (-(10 ^ 30) ≤ i ∧ i ≤ 10 ^ 30)
        exact decide_eq_decide.mpr ⟨fun z => ⟨by omega, by omega⟩, fun z => by omega⟩
      rw [e2]; exact q
    · have e1 := of_decide_eq_false e
      have e2 : isPos (.int i) = false := decide_eq_false fun z => e1 (by omega)
      rw [e2] at q; exact q
def sp_covers : Sp := fun vs H Q _ => ∃ (v : V) (p p' : Int) (s : Span), vs = [v, .int p, .int p'] ∧ SpanAt H v s ∧ Q (.bl (inSpan s p && inSpan s p')) H
theorem ok_covers (T : Tx mg) (D : At K mg "covers" s_covers ["interval", "first", "last"]) (D_contains : Dfn P w K mg base "contains" ["interval", "position"] 1 (sp_contains )) : Dfn P w K mg base "covers" ["interval", "first", "last"] 2 (sp_covers ) := by
  refine dfn D sc_covers (fun vs H Q E h => ?_) (fun X f cdv A outer s H vs Q E hX hr h => ?_)
  · obtain ⟨v, p, p', s, rfl, hs, q⟩ := h
    rfl
  · subst hX
    obtain ⟨v, p, p', s, rfl, hs, q⟩ := h
    refine ⟨_, (pss_one (ps_ret (pe_and (pe_callD D_contains (hr.mono (by decide)) (by rfl) (pa_cons (pvl 0) (pa_cons (pvl 1) pa_nil))) (pe_one (pe_callD D_contains (hr.mono (by decide)) (by rfl) (pa_cons (pvl 0) (pa_cons (pvl 2) pa_nil))))))), ?_⟩
    refine y_start (σ' := [some _, some _, some _]) (by rfl) ?_
    walk_at "py"
    refine ⟨v, p, s, rfl, hs, ?_⟩
    refine andK_b (fun e => ?_) (fun e => by rw [e] at q; exact q)
    walk_at "py"
    refine ⟨v, p', s, rfl, hs, ?_⟩
    walk_at "py"
    rw [e] at q
    exact q
def isEnd (ks : List (Str × Int)) : V → Bool
  | .int i => ks.any fun p => p.2 == i
  | _ => false
def sp_is_end : Sp := fun vs H Q _ => ∃ (a : Addr) (x : V) (s : String) (ks : List (Str × Int)), vs = [.ref a, x] ∧ Rd H a (.dK (lineK ks)) ∧ Ar H x s ∧ ∀ H', Same H H' → Q (.bl (isEnd ks x)) H'
theorem ok_is_end (T : Tx mg) (D : At K mg "is_end" s_is_end ["line", "value"]) (D_is_integer : Dfn P w K mg base "is_integer" ["value"] 1 (sp_is_integer )) : Dfn P w K mg base "is_end" ["line", "value"] 2 (sp_is_end ) := by
  refine dfn D sc_is_end (fun vs H Q E h => ?_) (fun X f cdv A outer s H vs Q E hX hr h => ?_)
  · obtain ⟨a, x, s, ks, rfl, hl, ha, q⟩ := h
    rfl
  · subst hX
    obtain ⟨a, x, s, ks, rfl, hl, ha, q⟩ := h
    refine ⟨_, (pss_one (ps_ret (pe_and (pe_callD D_is_integer (hr.mono (by decide)) (by rfl) (pa_cons (pvl 1) pa_nil)) (pe_one (pe_cmpR op_in_seq (pvl 1) (pe_listValues rfl (pvl 0) (by rfl) T.b_list boot_list) rfl))))), ?_⟩
    refine y_start (σ' := [some _, some _]) (by rfl) ?_
    walk_at "py"
    refine ⟨x, s, rfl, ha, ?_⟩
    cases ha
    all_goals (try exact andK_f (q _ (Same.refl _)))
    rename_i i
    refine andK_t ?_
    walk_at "py"
    refine ⟨a, _, rfl, hl, fun p hp => ?_⟩
    have ev : (lineK ks).map (·.2) = ks.map fun p => V.int p.2 := by
      unfold lineK
      rw [List.map_map]; rfl
    refine ⟨p, _, rfl, .inl (SqL.of (by rw [upd_same, ev])), rfl, by rw [List.all_map]; exact List.all_eq_true.mpr fun _ _ => rfl, ?_⟩
    have ei : inV (.int i) (ks.map fun p => V.int p.2) = isEnd ks (.int i) := by
      unfold inV
      rw [List.any_map]; rfl
    rw [ei]
    exact q _ fun b o e => by rw [upd_ne (ne_of_none e hp)]; exact e
def poolA : List Str := (Str.ofString "abcdefghijklmnopqrstuvwxyz").cps.toList.map fun c => ⟨#[c]⟩
def poolB : List Str := ["ab", "ba", "zz", "abcdefgh", "all", "flood"]
def poolC : List Str := (Str.ofString "abcdefghij").cps.toList.map fun c => Str.ofString "h" ++ ⟨#[c]⟩
def POOL : List Str := poolA ++ poolB ++ poolC
theorem pool_nd : POOL.Nodup := by decide +kernel
theorem pool_nm : ∀ z ∈ POOL, nmStr z = true := by decide +kernel
theorem pool_len : POOL.length = 42 := by decide +kernel
def stepOf (k : Nat) : Int := ([1, 5, 4 * 10 ^ (28 : Int).toNat, 6] : List Int).getD k 1
theorem step_at : ∀ k : Nat, k < 4 → ([V.int 1, V.int 5, V.int (4 * 10 ^ (28 : Int).toNat), V.int 6] : List V)[k]? = some (V.int (stepOf k)) ∧ 0 < stepOf k ∧ stepOf k < 2 ^ 100
  | 0, _ => ⟨rfl, by decide +kernel, by decide +kernel⟩
  | 1, _ => ⟨rfl, by decide +kernel, by decide +kernel⟩
  | 2, _ => ⟨rfl, by decide +kernel, by decide +kernel⟩
  | 3, _ => ⟨rfl, by decide +kernel, by decide +kernel⟩
theorem place_at (d : Int) (h0 : 0 ≤ d) (h1 : d < 50) : ∀ k : Nat, k < 4 → ∃ p, ([V.int 0, V.int (0 - d), V.int (0 - 10 ^ (30 : Int).toNat), V.int (10 ^ (30 : Int).toNat - 240)] : List V)[k]? = some (V.int p) ∧ -(10 ^ 30) ≤ p ∧ p + 39 * stepOf k ≤ 10 ^ 30
  | 0, _ => ⟨_, rfl, by decide +kernel, by decide +kernel⟩
  | 1, _ => ⟨_, rfl, by omega, by rw [show stepOf 1 = 5 from rfl]; omega⟩
  | 2, _ => ⟨_, rfl, by decide +kernel, by decide +kernel⟩
  | 3, _ => ⟨_, rfl, by decide +kernel, by decide +kernel⟩
def sp__law_net : Sp := fun vs H Q _ => ∃ (F : Hp) (L : List (Addr × HO)) (r g c : Addr) (R : Rl) (m : Int), vs = [.ref r, .int m] ∧ Led H F (rE r g c R ++ L) ∧ RlOk R ∧ 1 ≤ m ∧ m ≤ 40 ∧ R.n < 999999000 ∧
  ∀ a ks g' R' F' H', LineOk ks → (∀ p ∈ ks, p.1 ∈ POOL) → (ks.length : Int) ≤ m → Same F F' → F' a = some (.dK (lineK ks)) → Led H' F' (rE r g' c R' ++ L) → RlOk R' → R'.n ≤ R.n + 200 → Q (.ref a) H'
theorem ok__law_net (T : Tx mg) (D : At K mg "_law_net" s__law_net ["reel", "most"]) (D__law_draw : Dfn P w K mg base "_law_draw" ["reel", "many"] 1 (sp__law_draw )) : Dfn P w K mg base "_law_net" ["reel", "most"] 2 (sp__law_net ) := by
  refine dfn D sc__law_net (fun vs H Q E h => ?_) (fun X f cdv A outer s H vs Q E hX hr h => ?_)
  · obtain ⟨F, L, r, g, c, R, m, rfl, D0, ok, m1, m2, hn, q⟩ := h
    rfl
  · subst hX
    obtain ⟨F, L, r, g, c, R, m, rfl, D0, ok, m1, m2, hn, q⟩ := h
    refine ⟨_, (pss_cons (ps_asg (pe_tup (pa_cons (pe_callD D__law_draw (hr.mono (by decide)) (by rfl) (pa_cons (pvc 0) (pa_cons pe_int pa_nil))) (pa_cons (pe_op opAdd pe_int (pe_callD D__law_draw (hr.mono (by decide)) (by rfl) (pa_cons (pvc 0) (pa_cons (pvl 1) pa_nil)))) (pa_cons pe_dnewK pa_nil)))) (pg_tup rfl (pgs_cons (pg_name (i := 2) sc__law_net.nd rfl (Or.inl rfl)) (pgs_cons (pg_name (i := 3) sc__law_net.nd rfl (Or.inl rfl)) (pgs_cons (pg_name (i := 4) sc__law_net.nd rfl (Or.inr rfl)) pgs_nil))))) (pss_cons (ps_set (i := 5) sc__law_net.nd rfl (Or.inl rfl) (pe_op opAdd (pe_callTy (call_listStr rfl) (by rfl) T.b_list boot_list (pa_cons pe_str pa_nil)) (pe_lst (pa_cons pe_str (pa_cons pe_str (pa_cons pe_str (pa_cons pe_str (pa_cons pe_str (pa_cons pe_str pa_nil))))))))) (pss_cons (ps_set (i := 5) sc__law_net.nd rfl (Or.inl rfl) (pe_op opAdd (pvl 5) (pe_lc (own := [("sign", 10)]) (g := gName 10) (tt := tYes) rfl sc__law_net.nd (pi_str pe_str) (blkOk_by (own := [("sign", 10)]) (N := nn__law_net) (sc := defScope s__law_net) (by decide +kernel)) (fun _ _ _ _ _ => (pg_name (i := 10) sc__law_net.nd rfl (Or.inl rfl))) (fun _ _ _ _ _ => pts_nil) (blk_e fun _ _ _ _ _ => (pe_op opAdd pe_str (pvl 10)))))) (pss_cons (ps_set (i := 6) sc__law_net.nd rfl (Or.inl rfl) (pe_ix ix_seq (pe_lst (pa_cons pe_int (pa_cons (pe_op opSub pe_int (pe_callD D__law_draw (hr.mono (by decide)) (by rfl) (pa_cons (pvc 0) (pa_cons pe_int pa_nil)))) (pa_cons (pe_op opSub pe_int (pe_op opPow pe_int pe_int)) (pa_cons (pe_op opSub (pe_op opPow pe_int pe_int) pe_int) pa_nil))))) (pvl 2) (fun _ _ => rfl))) (pss_cons (ps_for PassesOwn.never rfl (pi_range1 (by rfl) T.b_range (pa_cons (pvl 3) pa_nil)) (pg_name (i := 7) sc__law_net.nd rfl (Or.inl rfl)) (pss_cons (ps_dput (hu_of hr) (pvc 4) (pe_bm PySem.F.plainAttrs_list PySem.F.slot_list_pop PySem.F.type_list_pop mt_popAt (pvl 5) (pa_cons (pe_callD D__law_draw (hr.mono (by decide)) (by rfl) (pa_cons (pvc 0) (pa_cons (pe_callB call_len (by rfl) T.b_len PySem.boot_len (pa_cons (pvl 5) pa_nil)) pa_nil))) pa_nil)) (pvl 6) rfl) (pss_one (ps_set (i := 6) sc__law_net.nd rfl (Or.inl rfl) (pe_op opAdd (pe_op opAdd (pvl 6) pe_int) (pe_callD D__law_draw (hr.mono (by decide)) (by rfl) (pa_cons (pvc 0) (pa_cons (pe_ix ix_seq (pe_lst (pa_cons pe_int (pa_cons pe_int (pa_cons (pe_op opMul pe_int (pe_op opPow pe_int pe_int)) (pa_cons pe_int pa_nil))))) (pvl 2) (fun _ _ => rfl)) pa_nil)))))))) (pss_cons (ps_set (i := 8) sc__law_net.nd rfl (Or.inr rfl) (pe_callB (call_sortedD rfl) (by rfl) T.b_sorted (by decide +kernel) (pa_cons (pvc 4) pa_nil))) (pss_cons (ps_setLc (i := 9) (own := [("turn", 7)]) (g := gName 7) (tt := tYes) rfl sc__law_net.nd rfl rfl (sw_true rfl rfl rfl (by decide +kernel)) (pi_range1 (by rfl) T.b_range (pa_cons (pvl 3) pa_nil)) (blkOk_by (own := [("turn", 7)]) (N := nn__law_net) (sc := defScope s__law_net) (by decide +kernel)) (fun _ _ _ _ _ => (pg_name (i := 7) sc__law_net.nd rfl (Or.inl rfl))) (fun _ _ _ _ _ => pts_nil) (blk_e fun _ _ _ _ _ => (pe_bm PySem.F.plainAttrs_list PySem.F.slot_list_pop PySem.F.type_list_pop mt_popAt (pvc 8) (pa_cons (pe_callD D__law_draw (hr.mono (by decide)) (by rfl) (pa_cons (pvc 0) (pa_cons (pe_callB call_len (by rfl) T.b_len PySem.boot_len (pa_cons (pvc 8) pa_nil)) pa_nil))) pa_nil)))) (pss_one (ps_ret (pe_callTy (call_dictP rfl) (by rfl) T.b_dict boot_dict (pa_cons (pe_lc (own := [("name", 11)]) (g := gName 11) (tt := tYes) rfl sc__law_net.nd (pi_list (pvl 9)) (blkOk_by (own := [("name", 11)]) (N := nn__law_net) (sc := defScope s__law_net) (by decide +kernel)) (fun _ _ _ _ _ => (pg_name (i := 11) sc__law_net.nd rfl (Or.inl rfl))) (fun _ _ _ _ _ => pts_nil) (blk_e fun _ _ _ _ _ => (pe_tup (pa_cons (pvl 11) (pa_cons (pe_dget (hu_of hr) (pvc 4) (pvl 11) (fun _ _ => rfl)) pa_nil))))) pa_nil))))))))))), ?_⟩
    refine y_start (σ' := [some _, some _, none, none, none, none, none, none, none, none, none, none]) (by rfl) ?_
    walk_at "py"
    refine ⟨F, L, r, g, c, R, 4, rfl, D0, ok, by decide, by decide, by omega, fun d1 g1 R1 H1 a1 b1 D1 ok1 n1 => ?_⟩
    walk_at "py"
    refine ⟨F, L, r, g1, c, R1, m, rfl, D1, ok1, by omega, by omega, by omega, fun d2 g2 R2 H2 a2 b2 D2 ok2 n2 => ?_⟩
    walk_at "py"
    intro fd nfd
    generalize eh3 : upd H2 fd _ = H3
    have D3 := (D2.nl nfd eh3).back
    walk_at "py"
    refine ⟨by show 3 ≤ sizeLine; decide, ?_⟩
    intro t nt
    generalize eh4 : upd H3 t _ = H4
    have D4 := D3.nl nt eh4
    refine y_gtup (SqT.of (D4.get 0)) rfl ?_
    refine y_gcons ?_
    walk_at "py"
    refine y_gcons ?_
    walk_at "py"
    refine y_gcons ?_
    walk_at "py"
    refine y_gnil ?_
    have D5 := D4.drop
    clear D4 eh4
    walk_at "py"
    refine ⟨_, rfl, by decide +kernel, ?_⟩
    intro p1 np1
    generalize eh5 : upd H4 p1 _ = H5
    have D6 := (D5.nl np1 eh5).back
    walk_at "py"
    refine ⟨by show 6 ≤ sizeLine; decide, ?_⟩
    intro p2 np2
    generalize eh6 : upd H5 p2 _ = H6
    have D7 := (D6.nl np2 eh6).back
    refine r_addL (D7.get 4) (D7.get 3) (by decide +kernel) ?_
    intro p3 np3
    generalize eh7 : upd H6 p3 _ = H7
    have D8 := (D7.nl np3 eh7).back
    walk_at "py"
    refine ⟨_, rfl, ?_⟩
    refine lc_led D8 walk_str (by decide +kernel) (fun i acc F' L' => F' = F ∧ L' = rE r g2 c R2 ++ ((p3, .lst (signV (Str.ofString "abcdefghijklmnopqrstuvwxyz") ++ [.str "ab", .str "ba", .str "zz", .str "abcdefgh", .str "all", .str "flood"])) :: (p2, _) :: (p1, _) :: (fd, .dK []) :: L) ∧
      acc = (((Str.ofString "abcdefghij").cps.toList.take i).map fun c => Str.ofString "h" ++ ⟨#[c]⟩).map V.str) ⟨rfl, rfl, rfl⟩ (fun _ _ _ _ _ _ _ _ => trivial) ?_ ?_
    · rintro Kp Sk i acc F' L' H8 Dl x hi ⟨ch, hc, rfl⟩ ⟨rfl, rfl, rfl⟩ D ha kp sk
      walk_at "py"
      refine ⟨rfl, ?_⟩
      walk_at "py"
      refine r_addS (by show (Str.ofString "h").length + 1 ≤ sizeLine; decide +kernel) ?_
      have ec : (Str.ofString "abcdefghij").cps.toList[i]? = some ch := by simpa using hc
      exact kp _ F' _ H8 D ⟨rfl, rfl, by rw [List.take_add_one, ec, List.map_append, List.map_append]; rfl⟩
    rintro acc F8 L8 H8 Dl ⟨rfl, rfl, rfl⟩ D9 ha
    have D10 := D9.back
    refine r_addL (D10.get 4) (D10.get 3) (by decide +kernel) ?_
    intro pl npl
    generalize eh8 : upd H8 pl _ = H9
    have D11 := (D10.nl npl eh8).back
    have D12 : Led H9 F8 (rE r g2 c R2 ++ ((pl, .lst (POOL.map V.str)) :: (fd, .dK []) :: L)) := by
      have D13 := D11.sub (L' := rE r g2 c R2 ++ ((pl, _) :: (fd, _) :: L)) (.cons₂ _ (.cons₂ _ (.cons₂ _ (.cons₂ _ (.cons _ (.cons _ (.cons _ (.cons _ (.cons₂ _ (List.Sublist.refl _))))))))))
      have e : signV (Str.ofString "abcdefghijklmnopqrstuvwxyz") ++ [V.str "ab", .str "ba", .str "zz", .str "abcdefgh", .str "all", .str "flood"] ++ (((Str.ofString "abcdefghij").cps.toList.take (Str.ofString "abcdefghij").cps.size).map fun c => Str.ofString "h" ++ ⟨#[c]⟩).map V.str = POOL.map V.str := by decide +kernel
      rw [← e]; exact D13
    clear D11 D10 D9 D8 D7 D6 D5 D3 eh3 eh5 eh6 eh7 eh8
    obtain ⟨k1, rfl⟩ := Int.eq_ofNat_of_zero_le a1
    walk_at "py"
    refine ⟨F8, _, r, g2, c, R2, 50, rfl, D12, ok2, by decide, by decide, by omega, fun d3 g3 R3 H10 a3 b3 D14 ok3 n3 => ?_⟩
    walk_at "py"
    walk_at "nums"
    walk_at "py"
    walk_at "nums"
    walk_at "py"
    refine ⟨by show 4 ≤ sizeLine; decide, ?_⟩
    intro p4 np4
    generalize eh9 : upd H10 p4 _ = H11
    have D15 := D14.nl np4 eh9
    walk_at "py"
    obtain ⟨p0, hp0, pb0, pb1⟩ := place_at d3 a3 b3 k1 (by omega)
    refine r_ixL (SqL.of (D15.get 0)) (at_nat hp0) ?_
    have D16 := D15.drop
    clear D15 eh9 D14 D12
    walk_at "py"
    obtain ⟨k2, rfl⟩ := Int.eq_ofNat_of_zero_le a2
    have hk1 : k1 < 4 := by omega
    have hk2 : (k2 : Int) + 1 ≤ 40 := by omega
    obtain ⟨hst, sp0, sp1⟩ := step_at k1 hk1
    refine ⟨_, rfl, by omega, by omega, ?_⟩
    have ecn : (1 + (k2 : Int)).toNat = k2 + 1 := by omega
    rw [ecn]
    refine for_any walk_range (fun i σ' H' => ∃ g' R' ks P place tv, σ' = [some (.ref r), some (.int m), some (.int (k1 : Int)), some (.int (1 + (k2 : Int))), some (.ref fd), some (.ref pl), some (.int place), tv, none, none, none, none] ∧
        Led H' F8 (rE r g' c R' ++ ((pl, .lst (P.map V.str)) :: (fd, .dK (lineK ks)) :: L)) ∧ RlOk R' ∧ R'.n ≤ R3.n + 2 * i ∧ ks.length = i ∧ P.length + i = 42 ∧ (P ++ ks.map (·.1)).Nodup ∧ (∀ z ∈ P, z ∈ POOL) ∧
        (∀ p ∈ ks, p.1 ∈ POOL ∧ -(10 ^ 30) ≤ p.2 ∧ p.2 < place ∧ p.2 ≤ 10 ^ 30) ∧ (ks.map (·.2)).Nodup ∧ -(10 ^ 30) ≤ place ∧ place ≤ p0 + (i : Int) * stepOf k1)
      ⟨g3, R3, [], POOL, p0, none, rfl, D16, ok3, by omega, rfl, pool_len, by rw [List.map_nil, List.append_nil]; exact pool_nd, fun z hz => hz, by simp, by simp, pb0, by simp⟩ (fun _ _ _ _ => trivial) ?_ ?_
    · rintro i x σ' H' hi rfl ⟨g', R', ks, P, place, tv, rfl, D, ok', n', lk, lp, nd, hP, hks, ndp, pl0, pl1⟩
      walk_at "py"
      refine ⟨Or.inl ⟨rfl, _, SqL.of (D.get 3)⟩, ?_⟩
      walk_at "py"
      refine ⟨_, _, rfl, Or.inl ⟨_, SqL.of (D.get 3), rfl⟩, ?_⟩
      rw [List.length_map]
      walk_at "py"
      refine ⟨F8, _, r, g', c, R', _, rfl, D, ok', by omega, by omega, by omega, fun d4 g4 R4 H4 a4 b4 D4 ok4 n4 => ?_⟩
      walk_at "py"
      refine r_popAt (D4.get 3) a4 b4 (by omega) (fun z hz => ?_)
      generalize eh5 : upd H4 pl _ = H5
      have D5 := D4.st 3 eh5
      have zP : z ∈ P := List.mem_of_getElem? hz
      have pz := erase_perm hz
      have nd2 : ((z :: P.eraseIdx d4.toNat) ++ ks.map (·.1)).Nodup := ((pz.append_right _).nodup_iff).mpr nd
      have zk : z ∉ ks.map (·.1) := fun w => by
        have := (List.nodup_cons.mp nd2).1
        exact this (List.mem_append_right _ w)
      refine ⟨fd, _, rfl, DPut.k (k := Sum.inr z) (D5.get 4) (by rw [lineK_len]; exact lt_line (by omega)), ?_⟩
      rw [putK_line place zk]
      generalize eh6 : upd H5 fd _ = H6
      have D6 : Led H6 F8 (rE r g4 c R4 ++ ((pl, .lst ((P.eraseIdx d4.toNat).map V.str)) :: (fd, .dK (lineK (ks ++ [(z, place)]))) :: L)) := D5.st 4 eh6
      walk_at "py"
      walk_at "nums"
      walk_at "nums"
      walk_at "py"
      refine ⟨by show 4 ≤ sizeLine; decide, ?_⟩
      intro p5 np5
      generalize eh7 : upd H6 p5 _ = H7
      have D7 := D6.nl np5 eh7
      walk_at "py"
      refine r_ixL (SqL.of (D7.get 0)) (at_nat hst) ?_
      walk_at "py"
      refine ⟨F8, _, r, g4, c, R4, _, rfl, D7.drop, ok4, sp0, sp1, by omega, fun d8 g8 R8 H8 a8 b8 D8 ok8 n8 => ?_⟩
      walk_at "py"
      have e1 : ((i + 1 : Nat) : Int) * stepOf k1 = (i : Int) * stepOf k1 + stepOf k1 := by rw [Int.natCast_add, Int.add_mul]; simp
      have hle : (i : Int) * stepOf k1 ≤ 39 * stepOf k1 := Int.mul_le_mul_of_nonneg_right (by omega) (by omega)
      have plen : (P.eraseIdx d4.toNat).length + 1 = P.length := by have := pz.length_eq; simpa using this
      refine ⟨g8, R8, ks ++ [(z, place)], P.eraseIdx d4.toNat, place + 1 + d8, _, rfl, D8, ok8, by omega, by simp [lk], by omega, ?_, fun y hy => hP y (pz.mem_iff.mp (List.mem_cons_of_mem _ hy)), ?_, ?_, by omega, by omega⟩
      · rw [List.map_append]
        refine (List.Perm.nodup_iff ?_).mp nd2
        show (z :: (P.eraseIdx d4.toNat ++ ks.map (·.1))).Perm (P.eraseIdx d4.toNat ++ (ks.map (·.1) ++ [z]))
        rw [← List.append_assoc]
        exact (List.perm_append_singleton z _).symm
      · intro p hp
        rcases List.mem_append.mp hp with h | h
        · obtain ⟨q1, q2, q3, q4⟩ := hks p h
          exact ⟨q1, q2, by omega, q4⟩
        · rw [List.mem_singleton.mp h]
          exact ⟨hP z zP, pl0, by show place < _; omega, by show place ≤ _; omega⟩
      · rw [List.map_append, List.nodup_append]
        refine ⟨ndp, by simp, fun a ha b hb e => ?_⟩
        obtain ⟨p, hp, rfl⟩ := List.mem_map.mp ha
        have hb : b = place := by simpa using hb
        have := (hks p hp).2.2.1
        omega
    rintro σ' H' ⟨g', R', ks, P, place, tv, rfl, D, ok', n', lk, lp, nd, hP, hks, ndp, pl0, pl1⟩
    walk_at "py"
    have ndk : (ks.map (·.1)).Nodup := (List.nodup_append.mp nd).2.1
    have hlk : (ks.map (·.1)).length = k2 + 1 := by rw [List.length_map]; exact lk
    have ekk : (lineK ks).map (·.1) = (ks.map (·.1)).map Sum.inr := by
      unfold lineK
      rw [List.map_map, List.map_map]; rfl
    refine ⟨fd, _, ks.map (·.1), rfl, .inl (D.get 4), ekk, by omega, fun ys nm perm _ nnm => ?_⟩
    generalize eh8 : upd H' nm _ = H8
    have D8 := (D.nl nnm eh8).back
    walk_at "py"
    refine ⟨_, rfl, by omega, by omega, ?_⟩
    rw [ecn]
    refine lc_led (D8) walk_range (by omega) (fun i acc F' L' => F' = F8 ∧ ∃ g4 R4 Nn As, L' = rE r g4 c R4 ++ ((nm, .lst (Nn.map V.str)) :: (pl, .lst (P.map V.str)) :: (fd, .dK (lineK ks)) :: L) ∧ RlOk R4 ∧ R4.n ≤ R'.n + i ∧ acc = As.map V.str ∧ (As ++ Nn).Perm ys ∧ As.length = i)
      ⟨rfl, g', R', ys, [], rfl, ok', by omega, rfl, List.Perm.refl _, rfl⟩ (fun _ _ _ _ _ _ _ _ => trivial) ?_ ?_
    · rintro Kp Sk i acc F' L' H9 Dl x hi rfl ⟨rfl, g4, R4, Nn, As, rfl, ok4, n4, rfl, pn, la⟩ D9 ha kp sk
      have D10 := D9.back
      have ln : As.length + Nn.length = k2 + 1 := by rw [← hlk, ← perm.length_eq, ← pn.length_eq, List.length_append]
      walk_at "py"
      refine ⟨rfl, ?_⟩
      walk_at "py"
      refine ⟨Or.inl ⟨rfl, _, SqL.of (D10.get 4)⟩, ?_⟩
      walk_at "py"
      refine ⟨_, _, rfl, Or.inl ⟨_, SqL.of (D10.get 4), rfl⟩, ?_⟩
      rw [List.length_map]
      walk_at "py"
      refine ⟨F', _, r, g4, c, R4, _, rfl, D10, ok4, by omega, by omega, by omega, fun d5 g5 R5 H10 a5 b5 D11 ok5 n5 => ?_⟩
      walk_at "py"
      refine r_popAt (D11.get 4) a5 b5 (by omega) (fun z hz => ?_)
      generalize eh9 : upd H10 nm _ = H11
      have D12 : Led H11 F' (rE r g5 c R5 ++ ((Dl, .lst (As.map V.str)) :: (nm, .lst ((Nn.eraseIdx d5.toNat).map V.str)) :: (pl, .lst (P.map V.str)) :: (fd, .dK (lineK ks)) :: L)) := D11.st 4 eh9
      refine kp (.str z) F' _ H11 D12.fwd ⟨rfl, g5, R5, Nn.eraseIdx d5.toNat, As ++ [z], rfl, ok5, by omega, by rw [List.map_append]; rfl, ?_, by simp [la]⟩
      rw [List.append_assoc]
      exact (List.Perm.append_left As (erase_perm hz)).trans pn
    rintro acc F9 L9 H9 mx ⟨rfl, g4, R4, Nn, As, rfl, ok4, n4, rfl, pn, la⟩ D9 ha
    have ln : As.length + Nn.length = k2 + 1 := by rw [← hlk, ← perm.length_eq, ← pn.length_eq, List.length_append]
    have eN : Nn = [] := List.eq_nil_of_length_eq_zero (by omega)
    subst eN
    rw [List.append_nil] at pn
    have pA : As.Perm (ks.map (·.1)) := pn.trans perm
    have ndA : As.Nodup := pA.nodup_iff.mpr ndk
    walk_at "py"
    refine ⟨mx, rfl, ⟨_, SqL.of (D9.get 0)⟩, ?_⟩
    refine lc_led D9 (walk_list (xs := As.map V.str)) (by rw [List.length_map]; omega) (fun i acc F' L' => Same F9 F' ∧ L' = (mx, .lst (As.map V.str)) :: (rE r g4 c R4 ++ ((nm, .lst (([] : List Str).map V.str)) :: (pl, .lst (P.map V.str)) :: (fd, .dK (lineK ks)) :: L)) ∧
      ∃ ts, acc = ts.map V.ref ∧ Paired (fun t kv => F' t = some (.tup [kV kv.1, kv.2])) ts (lineK ((As.take i).map fun z => (z, posOf ks z)))) ⟨Same.refl _, rfl, [], rfl, .nil⟩
      (fun i acc F' L' H' Dl ⟨_, e, _⟩ D => SqL.of (by subst e; exact D.get 1)) ?_ ?_
    · rintro Kp Sk i acc F' L' H10 Dl x hi hx ⟨s1, rfl, ts, rfl, pt⟩ D10 ha2 kp sk
      obtain ⟨z, rfl, hz⟩ := strs_at hx
      have zk : z ∈ ks.map (·.1) := pA.mem_iff.mp (List.mem_of_getElem? hz)
      walk_at "py"
      refine ⟨rfl, ?_⟩
      walk_at "py"
      refine ⟨fd, _, rfl, (valV_line_some (posOf_in zk) ndk) ▸ DGet.k (k := Sum.inr z) (D10.get 7), ?_⟩
      walk_at "py"
      refine ⟨by show 2 ≤ sizeLine; decide, ?_⟩
      intro t nt
      generalize eh10 : upd H10 t _ = H11
      obtain ⟨F2, s2, ht, -, D11⟩ := D10.nf nt eh10
      refine kp (.ref t) F2 _ H11 D11 ⟨s1.trans s2, rfl, ts ++ [t], by rw [List.map_append]; rfl, ?_⟩
      rw [List.take_add_one, hz, List.map_append, lineK_app]
      exact Paired.app (L2.Paired.mapP pt fun _ _ h => s2 _ _ h) (.cons ht .nil)
    rintro acc F10 L10 H10 Dt ⟨s1, rfl, ts, rfl, pt⟩ D10 ha2
    walk_at "py"
    rw [List.length_map, List.take_of_length_le (Nat.le_refl _)] at pt
    refine ⟨Dt, ts, _, rfl, SqL.of (D10.get 0), L2.Paired.mapP pt fun _ _ h => SqT.of (D10.frz h), ?_⟩
    intro a na
    have pks : (As.map fun z => (z, posOf ks z)).Perm ks := by
      have := pA.map (fun z => (z, posOf ks z))
      rwa [posOf_map ndk] at this
    have okk : LineOk ks := ⟨by omega, by omega, fun p hp => pool_nm _ (hks p hp).1, fun p hp => ⟨(hks p hp).2.1, (hks p hp).2.2.2⟩, ndk, ndp⟩
    have okl := okk.perm pks
    rw [show mergeK [] (lineK (As.map fun z => (z, posOf ks z))) = lineK (As.map fun z => (z, posOf ks z)) from merge_line _ [] okl.ndn]
    generalize eh11 : upd H10 a _ = H11
    obtain ⟨F11, s2, hf, -, D11⟩ := D10.nf na eh11
    refine q a _ g4 R4 F11 H11 okl (fun p hp => (hks p (pks.mem_iff.mp hp)).1) (by rw [List.length_map]; omega) (s1.trans s2) hf ?_ ok4 (by omega)
    exact D11.sub (.cons _ (.cons _ (.cons₂ _ (.cons₂ _ (.cons₂ _ (.cons _ (.cons _ (.cons _ (List.Sublist.refl _)))))))))
def isDir (k : Str) : Bool := decide (k = "direct")
def sp__law_reach : Sp := fun vs H Q _ => ∃ (F : Hp) (L : List (Addr × HO)) (a d t : Addr) (ks : List (Str × Int)) (es : List (Str × V)) (s z : Str) (b o : Int) (v : V) (sp : Span), vs = [.ref a, .ref d, .ref t] ∧ Led H F L ∧ Rd F a (.dK (lineK ks)) ∧ F d = some (.dK (strK es)) ∧ F t = some (.tup [.str s, .str z]) ∧
  valV (lineK ks) (.inr s) = some (.int b) ∧ valV (lineK ks) (.inr z) = some (.int o) ∧ valV (strK es) (.inr z) = some v ∧ SpanAt F v sp ∧
  ∀ r F' H' k u, Same F F' → F' r = some (.tup [.str k, u]) → isDir k = inSpan sp b → nmStr k = true → Led H' F' L → Q (.ref r) H'
theorem ok__law_reach (T : Tx mg) (D : At K mg "_law_reach" s__law_reach ["net", "spans", "pair"]) (D__law_holds : Dfn P w K mg base "_law_holds" ["span", "place"] 1 (sp__law_holds )) : Dfn P w K mg base "_law_reach" ["net", "spans", "pair"] 2 (sp__law_reach ) := by
  refine dfn D sc__law_reach (fun vs H Q E h => ?_) (fun X f cdv A outer s H vs Q E hX hr h => ?_)
  · obtain ⟨F, L, a, d, t, ks, es, s, z, b, o, v, sp, rfl, D0, hf, hd, ht, hb, ho, hv, hs, q⟩ := h
    rfl
  · subst hX
    obtain ⟨F, L, a, d, t, ks, es, s, z, b, o, v, sp, rfl, D0, hf, hd, ht, hb, ho, hv, hs, q⟩ := h
    refine ⟨_, (pss_cons (ps_par (i := 3) (j := 4) (by rfl) sc__law_reach.nd rfl rfl (by decide) rfl rfl (pa_cons (pe_dget (hu_of hr) (pvl 0) (pe_ix ix_seq (pvl 2) pe_int (fun _ _ => rfl)) (fun _ _ => rfl)) (pa_cons (pe_dget (hu_of hr) (pvl 0) (pe_ix ix_seq (pvl 2) pe_int (fun _ _ => rfl)) (fun _ _ => rfl)) pa_nil)) (by rfl)) (pss_cons (ps_if (pt_cmpR opIs (pe_dget (hu_of hr) (pvl 1) (pe_ix ix_seq (pvl 2) pe_int (fun _ _ => rfl)) (fun _ _ => rfl)) pe_non (nomark _)) (pss_one (ps_ret (pe_tup (pa_cons pe_str (pa_cons (pe_tup (pa_cons pe_non (pa_cons pe_non pa_nil))) pa_nil))))) pss_nil) (pss_cons (ps_if (pt_val (pe_callD D__law_holds (hr.mono (by decide)) (by rfl) (pa_cons (pe_dget (hu_of hr) (pvl 1) (pe_ix ix_seq (pvl 2) pe_int (fun _ _ => rfl)) (fun _ _ => rfl)) (pa_cons (pvl 3) pa_nil)))) (pss_one (ps_ret (pe_tup (pa_cons pe_str (pa_cons (pe_tup (pa_cons (pe_callB (call_min2 rfl) (by rfl) T.b_min (by decide +kernel) (pa_cons (pvl 3) (pa_cons (pvl 4) pa_nil))) (pa_cons (pe_callB (call_max2 rfl) (by rfl) T.b_max (by decide +kernel) (pa_cons (pvl 3) (pa_cons (pvl 4) pa_nil))) pa_nil))) pa_nil))))) pss_nil) (pss_one (ps_ret (pe_tup (pa_cons pe_str (pa_cons (pe_ifExp (pt_cmpR opLt (pvl 3) (pvl 4) (nomark _)) (pe_tup (pa_cons pe_non (pa_cons (pvl 4) pa_nil))) (pe_tup (pa_cons (pvl 4) (pa_cons pe_non pa_nil)))) pa_nil)))))))), ?_⟩
    refine y_start (σ' := [some _, some _, some _, none, none]) (by rfl) ?_
    have ra : Rd H a (.dK (lineK ks)) := hf.imp (D0.ext _ _) fun ⟨_, r⟩ => ⟨_, D0.ext _ _ r⟩
    walk_at "py"
    refine r_ixT (SqT.of (D0.frz ht)) (at_nat (k := 0) rfl) ?_
    refine ⟨a, .int b, rfl, Or.inl ⟨_, .inr s, ra, rfl, hb.symm⟩, ?_⟩
    walk_at "py"
    refine r_ixT (SqT.of (D0.frz ht)) (at_nat (k := 1) rfl) ?_
    refine ⟨a, .int o, rfl, Or.inl ⟨_, .inr z, ra, rfl, ho.symm⟩, ?_⟩
    walk_at "py"
    refine ⟨_, _, rfl, ?_⟩
    simp only [List.set_cons_zero, List.set_cons_succ]
    walk_at "py"
    refine r_ixT (SqT.of (D0.frz ht)) (at_nat (k := 1) rfl) ?_
    refine ⟨d, v, rfl, Or.inl ⟨_, .inr z, .inl (D0.frz hd), rfl, hv.symm⟩, ?_⟩
    walk_at "py"
    cases sp with
    | none =>
      have hs' : v = V.non := hs
      subst hs'
      rw [decide_eq_true rfl]
      walk_at "py"
      refine ⟨by show 2 ≤ sizeLine; decide, ?_⟩
      intro p1 np
      generalize eh : upd H p1 _ = H1
      obtain ⟨F1, s1, h1, -, D1⟩ := D0.nf np eh
      clear eh np
      walk_at "py"
      refine ⟨by show 2 ≤ sizeLine; decide, ?_⟩
      intro p2 np
      generalize eh : upd H1 p2 _ = H2
      obtain ⟨F2, s2, h2, -, D2⟩ := D1.nf np eh
      exact q p2 F2 H2 "all" _ (s1.trans s2) h2 (show isDir "all" = false from by decide) (by decide) D2
    | some lh =>
      obtain ⟨lo, hi⟩ := lh
      obtain ⟨t2, e2, ht2⟩ := hs
      subst e2
      rw [decide_eq_false (by intro e; cases e)]
      walk_at "py"
      refine r_ixT (SqT.of (D0.frz ht)) (at_nat (k := 1) rfl) ?_
      refine ⟨d, .ref t2, rfl, Or.inl ⟨_, .inr z, .inl (D0.frz hd), rfl, hv.symm⟩, ?_⟩
      walk_at "py"
      refine ⟨.ref t2, b, some (lo, hi), rfl, ⟨t2, rfl, D0.frz ht2⟩, ?_⟩
      walk_at "py"
      cases hc : inSpan (some (lo, hi)) b with
      | true =>
        walk_at "py"
        refine ⟨_, _, rfl, ?_⟩
        walk_at "py"
        refine ⟨_, _, rfl, ?_⟩
        walk_at "py"
        refine ⟨by show 2 ≤ sizeLine; decide, ?_⟩
        intro p1 np
        generalize eh : upd H p1 _ = H1
        obtain ⟨F1, s1, h1, -, D1⟩ := D0.nf np eh
        clear eh np
        walk_at "py"
        refine ⟨by show 2 ≤ sizeLine; decide, ?_⟩
        intro p2 np
        generalize eh : upd H1 p2 _ = H2
        obtain ⟨F2, s2, h2, -, D2⟩ := D1.nf np eh
        exact q p2 F2 H2 "direct" _ (s1.trans s2) h2 (by rw [hc]; decide) (by decide) D2
      | false =>
        walk_at "py"
        refine ite_b (fun e => ?_) (fun e => ?_)
        · skip
          walk_at "py"
          refine ⟨by show 2 ≤ sizeLine; decide, ?_⟩
          intro p1 np
          generalize eh : upd H p1 _ = H1
          obtain ⟨F1, s1, h1, -, D1⟩ := D0.nf np eh
          clear eh np
          walk_at "py"
          refine ⟨by show 2 ≤ sizeLine; decide, ?_⟩
          intro p2 np
          generalize eh : upd H1 p2 _ = H2
          obtain ⟨F2, s2, h2, -, D2⟩ := D1.nf np eh
          exact q p2 F2 H2 "flood" _ (s1.trans s2) h2 (by rw [hc]; decide) (by decide) D2
        · skip
          walk_at "py"
          refine ⟨by show 2 ≤ sizeLine; decide, ?_⟩
          intro p1 np
          generalize eh : upd H p1 _ = H1
          obtain ⟨F1, s1, h1, -, D1⟩ := D0.nf np eh
          clear eh np
          walk_at "py"
          refine ⟨by show 2 ≤ sizeLine; decide, ?_⟩
          intro p2 np
          generalize eh : upd H1 p2 _ = H2
          obtain ⟨F2, s2, h2, -, D2⟩ := D1.nf np eh
          exact q p2 F2 H2 "flood" _ (s1.trans s2) h2 (by rw [hc]; decide) (by decide) D2
def sp__law_spans : Sp := fun vs H Q _ => ∃ (F : Hp) (L : List (Addr × HO)) (r g c a : Addr) (R : Rl) (ks : List (Str × Int)), vs = [.ref r, .ref a] ∧ Led H F (rE r g c R ++ L) ∧ RlOk R ∧ F a = some (.dK (lineK ks)) ∧ LineOk ks ∧ R.n < 999990000 ∧
  ∀ d g' R' sp F' H', Same F F' → StAt F' ks d sp → (∀ p ∈ ks, spanOk ks p.2 (sp p.1)) → Led H' F' (rE r g' c R' ++ L) → RlOk R' → R'.n ≤ R.n + 200 → Q (.ref d) H'
theorem ok__law_spans (T : Tx mg) (D : At K mg "_law_spans" s__law_spans ["reel", "net"]) (D__law_draw : Dfn P w K mg base "_law_draw" ["reel", "many"] 1 (sp__law_draw )) : Dfn P w K mg base "_law_spans" ["reel", "net"] 2 (sp__law_spans ) := by
  refine dfn D sc__law_spans (fun vs H Q E h => ?_) (fun X f cdv A outer s H vs Q E hX hr h => ?_)
  · obtain ⟨F, L, r, g, c, a, R, ks, rfl, D0, ok, hf, hk, hn, q⟩ := h
    rfl
  · subst hX
    obtain ⟨F, L, r, g, c, a, R, ks, rfl, D0, ok, hf, hk, hn, q⟩ := h
    refine ⟨_, (pss_cons (ps_set (i := 2) sc__law_spans.nd rfl (Or.inl rfl) pe_dnewK) (pss_cons (ps_for PassesOwn.never rfl (pi_list (pe_callB (call_sortedD rfl) (by rfl) T.b_sorted (by decide +kernel) (pa_cons (pvc 1) pa_nil))) (pg_name (i := 3) sc__law_spans.nd rfl (Or.inr rfl)) (pss_cons (ps_set (i := 4) sc__law_spans.nd rfl (Or.inl rfl) (pe_op opAdd (pe_lock (pe_lc (own := [("place", 7)]) (g := gName 7)  rfl sc__law_spans.nd (pi_values (pvc 1)) (blkOk_by (own := [("place", 7)]) (N := nn__law_spans) (sc := defScope s__law_spans) (by decide +kernel)) (fun _ _ _ _ _ => (pg_name (i := 7) sc__law_spans.nd rfl (Or.inl rfl))) (blk_t fun _ _ _ _ _ => (pts_one (pt_cmpR opLe (pvl 7) (pe_dget (hu_of hr) (pvc 1) (pvc 3) (fun _ _ => rfl)) (nomark _)))) (blk_e fun _ _ _ _ _ => (pvl 7)))) (pe_lst (pa_cons pe_non pa_nil)))) (pss_cons (ps_set (i := 5) sc__law_spans.nd rfl (Or.inl rfl) (pe_op opAdd (pe_lock (pe_lc (own := [("place", 7)]) (g := gName 7)  rfl sc__law_spans.nd (pi_values (pvc 1)) (blkOk_by (own := [("place", 7)]) (N := nn__law_spans) (sc := defScope s__law_spans) (by decide +kernel)) (fun _ _ _ _ _ => (pg_name (i := 7) sc__law_spans.nd rfl (Or.inl rfl))) (blk_t fun _ _ _ _ _ => (pts_one (pt_cmpR opGe (pvl 7) (pe_dget (hu_of hr) (pvc 1) (pvc 3) (fun _ _ => rfl)) (nomark _)))) (blk_e fun _ _ _ _ _ => (pvl 7)))) (pe_lst (pa_cons pe_non pa_nil)))) (pss_cons (ps_set (i := 6) sc__law_spans.nd rfl (Or.inl rfl) (pe_tup (pa_cons (pe_ix ix_seq (pvl 4) (pe_callD D__law_draw (hr.mono (by decide)) (by rfl) (pa_cons (pvl 0) (pa_cons (pe_callB call_len (by rfl) T.b_len PySem.boot_len (pa_cons (pvl 4) pa_nil)) pa_nil))) (fun _ _ => rfl)) (pa_cons (pe_ix ix_seq (pvl 5) (pe_callD D__law_draw (hr.mono (by decide)) (by rfl) (pa_cons (pvl 0) (pa_cons (pe_callB call_len (by rfl) T.b_len PySem.boot_len (pa_cons (pvl 5) pa_nil)) pa_nil))) (fun _ _ => rfl)) pa_nil)))) (pss_one (ps_dput (hu_of hr) (pvl 2) (pvc 3) (pe_ix ix_seq (pe_lst (pa_cons (pvl 6) (pa_cons (pvl 6) (pa_cons pe_non pa_nil)))) (pe_callD D__law_draw (hr.mono (by decide)) (by rfl) (pa_cons (pvl 0) (pa_cons pe_int pa_nil))) (fun _ _ => rfl)) rfl)))))) (pss_one (ps_ret (pvl 2))))), ?_⟩
    refine y_start (σ' := [some _, some _, none, none, none, none, none, none]) (by rfl) ?_
    have l1 := hk.len1
    have l2 := hk.len2
    have ekk : (lineK ks).map (·.1) = (ks.map (·.1)).map Sum.inr := by
      unfold lineK
      rw [List.map_map, List.map_map]; rfl
    walk_at "py"
    intro fd nfd
    generalize eh : upd H fd _ = H1
    have D1 := (D0.nl nfd eh).back
    clear eh nfd
    walk_at "py"
    refine ⟨a, _, ks.map (·.1), rfl, .inl (D1.frz hf), ekk, by rw [List.length_map]; omega, fun ys nm perm _ nnm => ?_⟩
    generalize eh : upd H1 nm _ = H2
    obtain ⟨F2, s2, hnm, -, D2⟩ := D1.nf nnm eh
    clear eh nnm
    have ly : ys.length = ks.length := by rw [perm.length_eq, List.length_map]
    walk_at "py"
    refine ⟨nm, rfl, ⟨_, SqL.of (D2.frz hnm)⟩, ?_⟩
    refine for_any (walk_list (xs := ys.map V.str)) (fun i σ' H' => ∃ F3 g' R' es fs v3 v4 v5 v6 v7, σ' = [some (.ref r), some (.ref a), some (.ref fd), v3, v4, v5, v6, v7] ∧ Same F2 F3 ∧ Led H' F3 (rE r g' c R' ++ ((fd, .dK (strK es)) :: L)) ∧ RlOk R' ∧ R'.n ≤ R.n + 3 * i ∧
        Paired (fun (e : Str × V) (f : Str × Span) => e.1 = f.1 ∧ SpanAt F3 e.2 f.2) es fs ∧ (∀ f ∈ fs, spanOk ks (posOf ks f.1) f.2) ∧ fs.map (·.1) = ys.take i)
      ⟨F2, g, R, [], [], none, none, none, none, none, rfl, Same.refl _, D2, ok, by omega, .nil, (fun f hf => nomatch hf), rfl⟩ (fun i σ' H' ⟨_, _, _, _, _, _, _, _, _, _, _, s, D, _⟩ => SqL.of (D.frz (s _ _ hnm))) ?_ ?_
    rotate_left
    · rintro σ' H' ⟨F3, g', R', es, fs, v3, v4, v5, v6, v7, rfl, s3, D3, ok3, n3, pr, sok, enm⟩
      walk_at "py"
      rw [List.length_map, List.take_of_length_le (Nat.le_refl _)] at enm
      have een := paired_fst pr fun _ _ h => h.1
      have ndf : (fs.map (·.1)).Nodup := by rw [enm]; exact perm.nodup_iff.mpr hk.ndn
      obtain ⟨F4, s4, h4, D4⟩ := D3.fwd.froz
      refine q fd g' R' (spOf fs) F4 H' (s2.trans (s3.trans s4)) ⟨es, h4 _ List.mem_cons_self, by rw [een, enm]; exact perm, fun p hp => ?_⟩ (fun p hp => ?_) D4 ok3 (by rw [List.length_map] at n3; omega)
      · obtain ⟨f, hf, e1, e2⟩ := paired_mem pr p hp
        rw [e1, spOf_in ndf hf]
        exact e2.mono s4
      · have hm : p.1 ∈ fs.map (·.1) := by rw [enm]; exact perm.mem_iff.mpr (List.mem_map.mpr ⟨p, hp, rfl⟩)
        obtain ⟨f, hf, e⟩ := List.mem_map.mp hm
        have h1 := sok f hf
        rw [← spOf_in ndf hf, e, posOf_eq hk.ndn hp] at h1
        exact h1
    rintro i x σ' H' hi hx ⟨F3, g', R', es, fs, v3, v4, v5, v6, v7, rfl, s3, D3, ok3, n3, pr, sok, enm⟩
    obtain ⟨z, rfl, hz⟩ := strs_at hx
    have hi40 : i < 40 := by rw [List.length_map] at hi; omega
    have zk : z ∈ ks.map (·.1) := perm.mem_iff.mp (List.mem_of_getElem? hz)
    have zo := posOf_in zk
    generalize ho : posOf ks z = o at zo
    have D10 := D3
    have s10 : Same F3 F3 := Same.refl _
    have hh10 : Has F3 [(a, .dK (lineK ks))] := fun x hx => by rw [List.mem_singleton.mp hx]; exact s3 _ _ (s2 _ _ hf)
    walk_at "py"
    refine lc_lockVals D10 ((hh10.get 0) : _ = some (.dK (lineK ks))) (by rw [lineK_len]; omega) (fun j => ((ks.take j).filter fun p => decide (p.2 ≤ o)).map fun p => V.int p.2) rfl (fun H1 R r => y_var rfl r) ?_ ?_
    · rintro od Kp Sk j H4 x k hx' hfr kp sk
      obtain ⟨p, hp, e⟩ := line_at hx'
      cases e
      have et : ks.take (j + 1) = ks.take j ++ [p] := by rw [List.take_add_one, hp]; rfl
      walk_at "py1"
      refine ⟨rfl, ?_⟩
      walk_at "py"
      refine ⟨a, .int o, rfl, Or.inl ⟨_, .inr z, .inr ⟨od, hfr⟩, rfl, (valV_line_some zo hk.ndn).symm⟩, ?_⟩
      walk_at "py"
      refine ite_b (fun e => ?_) (fun e => ?_)
      · walk_at "py"
        exact kp _ (by show ((ks.take (j + 1)).filter _).map _ = _; rw [et, List.filter_append, List.map_append, List.filter_cons_of_pos (by exact e)]; rfl)
      · exact sk (by show ((ks.take (j + 1)).filter _).map _ = _; rw [et, List.filter_append, List.filter_cons_of_neg (by rw [e]; decide)]; simp)
    intro c_lw K11 Dn
    rw [lineK_len, List.take_of_length_le (Nat.le_refl _)] at Dn
    obtain ⟨F11, sn, hn11, D11⟩ := Dn.froz
    have s11 := s10.trans sn
    have hh11 : Has F11 ((c_lw, _) :: _) := fun x hx => by
      rcases List.mem_cons.mp hx with e | hx
      · rw [e]; exact hn11 _ List.mem_cons_self
      · exact (hh10.mono sn) x hx
    clear Dn
    walk_at "py"
    refine ⟨by show 1 ≤ sizeLine; decide, ?_⟩
    intro o_lw np
    generalize eh : upd _ o_lw _ = K12
    obtain ⟨F12, s12, hh12, D12⟩ := D11.nh s11 hh11 np eh
    clear np eh
    walk_at "py"
    have ll_lw : (((ks.filter fun p => decide (p.2 ≤ o)).map fun p => V.int p.2)).length ≤ 40 := by rw [List.length_map]; exact Nat.le_trans (List.length_filter_le _ _) l2
    refine r_addL (D12.frz (hh12.get 1)) (D12.frz (hh12.get 0)) (by show _ + 1 ≤ sizeLine; exact le_line (by omega)) ?_
    intro lw np
    generalize eh : upd _ lw _ = K13
    obtain ⟨F13, s13, hh13, D13⟩ := D12.nh s12 hh12 np eh
    clear np eh
    walk_at "py"
    refine lc_lockVals D13 ((hh13.get 3) : _ = some (.dK (lineK ks))) (by rw [lineK_len]; omega) (fun j => ((ks.take j).filter fun p => decide (o ≤ p.2)).map fun p => V.int p.2) rfl (fun H1 R r => y_var rfl r) ?_ ?_
    · rintro od Kp Sk j H4 x k hx' hfr kp sk
      obtain ⟨p, hp, e⟩ := line_at hx'
      cases e
      have et : ks.take (j + 1) = ks.take j ++ [p] := by rw [List.take_add_one, hp]; rfl
      walk_at "py1"
      refine ⟨rfl, ?_⟩
      walk_at "py"
      refine ⟨a, .int o, rfl, Or.inl ⟨_, .inr z, .inr ⟨od, hfr⟩, rfl, (valV_line_some zo hk.ndn).symm⟩, ?_⟩
      walk_at "py"
      refine ite_b (fun e => ?_) (fun e => ?_)
      · walk_at "py"
        exact kp _ (by show ((ks.take (j + 1)).filter _).map _ = _; rw [et, List.filter_append, List.map_append, List.filter_cons_of_pos (by exact e)]; rfl)
      · exact sk (by show ((ks.take (j + 1)).filter _).map _ = _; rw [et, List.filter_append, List.filter_cons_of_neg (by rw [e]; decide)]; simp)
    intro c_uw K14 Dn
    rw [lineK_len, List.take_of_length_le (Nat.le_refl _)] at Dn
    obtain ⟨F14, sn, hn14, D14⟩ := Dn.froz
    have s14 := s13.trans sn
    have hh14 : Has F14 ((c_uw, _) :: _) := fun x hx => by
      rcases List.mem_cons.mp hx with e | hx
      · rw [e]; exact hn14 _ List.mem_cons_self
      · exact (hh13.mono sn) x hx
    clear Dn
    walk_at "py"
    refine ⟨by show 1 ≤ sizeLine; decide, ?_⟩
    intro o_uw np
    generalize eh : upd _ o_uw _ = K15
    obtain ⟨F15, s15, hh15, D15⟩ := D14.nh s14 hh14 np eh
    clear np eh
    walk_at "py"
    have ll_uw : (((ks.filter fun p => decide (o ≤ p.2)).map fun p => V.int p.2)).length ≤ 40 := by rw [List.length_map]; exact Nat.le_trans (List.length_filter_le _ _) l2
    refine r_addL (D15.frz (hh15.get 1)) (D15.frz (hh15.get 0)) (by show _ + 1 ≤ sizeLine; exact le_line (by omega)) ?_
    intro uw np
    generalize eh : upd _ uw _ = K16
    obtain ⟨F16, s16, hh16, D16⟩ := D15.nh s15 hh15 np eh
    clear np eh
    walk_at "py"
    refine ⟨_, _, rfl, Or.inl ⟨_, SqL.of (D16.frz (hh16.get 3)), rfl⟩, ?_⟩
    walk_at "py"
    refine ⟨F16, _, r, g', c, R', _, rfl, D16, ok3, by rw [List.length_append]; show (0 : Int) < ((_ + 1 : Nat) : Int); omega, by rw [List.length_append]; show ((_ + 1 : Nat) : Int) < 2 ^ 100; omega, by omega, fun d_lw g_lw R_lw H_lw a_lw b_lw D17 ok_lw n_lw => ?_⟩
    obtain ⟨lo, e_lw, p_lw⟩ := side_at a_lw b_lw
    have s17 := s16
    have hh17 := hh16
    refine r_ixL (SqL.of (D17.frz (hh16.get 3))) e_lw ?_
    walk_at "py"
    refine ⟨_, _, rfl, Or.inl ⟨_, SqL.of (D17.frz (hh17.get 0)), rfl⟩, ?_⟩
    walk_at "py"
    refine ⟨F16, _, r, g_lw, c, R_lw, _, rfl, D17, ok_lw, by rw [List.length_append]; show (0 : Int) < ((_ + 1 : Nat) : Int); omega, by rw [List.length_append]; show ((_ + 1 : Nat) : Int) < 2 ^ 100; omega, by omega, fun d_uw g_uw R_uw H_uw a_uw b_uw D18 ok_uw n_uw => ?_⟩
    obtain ⟨hi, e_uw, p_uw⟩ := side_at a_uw b_uw
    have s18 := s17
    have hh18 := hh17
    refine r_ixL (SqL.of (D18.frz (hh17.get 0))) e_uw ?_
    walk_at "py"
    refine ⟨by show 2 ≤ sizeLine; decide, ?_⟩
    intro sm np
    generalize eh : upd _ sm _ = K19
    obtain ⟨F19, s19, hh19, D19⟩ := D18.nh s18 hh18 np eh
    clear np eh
    walk_at "py"
    refine ⟨by show 3 ≤ sizeLine; decide, ?_⟩
    intro l3 np
    generalize eh : upd _ l3 _ = K20
    obtain ⟨F20, s20, hh20, D20⟩ := D19.nh s19 hh19 np eh
    clear np eh
    walk_at "py"
    refine ⟨F20, _, r, g_uw, c, R_uw, 3, rfl, D20, ok_uw, by decide, by decide, by omega, fun d3 g6 R6 H6 a6 b6 D60 ok6 n6 => ?_⟩
    have hsm := (hh20.get 1)
    have sN := s20
    obtain ⟨v, sp, ev, hv, hok⟩ : ∃ v sp, atI [V.ref sm, V.ref sm, V.non] d3 = some v ∧ SpanAt F20 v sp ∧ spanOk ks o sp := by
      have two : spanOk ks o (some (lo, hi)) := ⟨fun i e => by obtain ⟨p, q1, q2, q3⟩ := p_lw i e; exact ⟨List.mem_map.mpr ⟨p, q1, q2⟩, by rw [← q2]; exact of_decide_eq_true q3⟩, fun i e => by obtain ⟨p, q1, q2, q3⟩ := p_uw i e; exact ⟨List.mem_map.mpr ⟨p, q1, q2⟩, by rw [← q2]; exact of_decide_eq_true q3⟩⟩
      rcases (show d3 = 0 ∨ d3 = 1 ∨ d3 = 2 by omega) with e | e | e
      · exact ⟨.ref sm, some (lo, hi), by rw [e]; rfl, ⟨sm, rfl, hsm⟩, two⟩
      · exact ⟨.ref sm, some (lo, hi), by rw [e]; rfl, ⟨sm, rfl, hsm⟩, two⟩
      · exact ⟨.non, none, by rw [e]; rfl, rfl, trivial⟩
    refine r_ixL (SqL.of (D60.frz (hh20.get 0))) ev ?_
    walk_at "py"
    have een := paired_fst pr fun _ _ h => h.1
    have zn : z ∉ es.map (·.1) := by rw [een, enm]; exact take_fresh (perm.nodup_iff.mpr hk.ndn) hz
    have les : es.length ≤ 40 := by have h1 := congrArg List.length een; have h2 := congrArg List.length enm; rw [List.length_map] at h1 h2; rw [List.length_map] at h1; rw [List.length_take] at h2; omega
    refine ⟨fd, _, rfl, DPut.k (k := Sum.inr z) (D60.get 3) (by rw [strK_len]; exact lt_line (by omega)), ?_⟩
    rw [putK_str v zn]
    generalize eh6 : upd H6 fd _ = H7
    have D61 : Led H7 F20 (rE r g6 c R6 ++ ((fd, .dK (strK (es ++ [(z, v)]))) :: L)) := D60.st 3 eh6
    walk_at "py"
    refine ⟨F20, g6, R6, es ++ [(z, v)], fs ++ [(z, sp)], _, _, _, _, _, rfl, s3.trans sN, D61, ok6, by omega, Paired.app (L2.Paired.mapP pr fun _ _ h => ⟨h.1, h.2.mono sN⟩) (.cons ⟨rfl, hv⟩ .nil), fun f hf => ?_, by rw [List.map_append, enm, List.take_add_one, hz]; rfl⟩
    rcases List.mem_append.mp hf with hf | hf
    · exact sok f hf
    · rw [List.mem_singleton.mp hf]; show spanOk ks (posOf ks z) sp; rw [ho]; exact hok
theorem y_sortVals {te : TE} {σ : L2.St} {H : Hp} {Q : VK} (q : te σ H fun x H1 => rSortVals x H1 Q) : tSortVals te σ H Q := q
theorem putK_old {es : List (Str × V)} {z : Str} (v : V) (h : z ∈ es.map (·.1)) : putK (strK es) (.inr z) v = strK (es.map fun e => if e.1 = z then (e.1, v) else e) := by
  unfold putK
  rw [if_pos]
  · unfold strK
    rw [List.map_map, List.map_map]
    refine List.map_congr_left fun e _ => ?_
    show (if (Sum.inr e.1 : Key) = Sum.inr z then ((Sum.inr e.1 : Key), v) else (Sum.inr e.1, e.2)) = _
    by_cases q : e.1 = z
    · rw [if_pos (by rw [q])]
      show _ = ((Sum.inr (if e.1 = z then (e.1, v) else e).1 : Key), (if e.1 = z then (e.1, v) else e).2)
      rw [if_pos q]
    · rw [if_neg (fun w => q (by injection w))]
      show _ = ((Sum.inr (if e.1 = z then (e.1, v) else e).1 : Key), (if e.1 = z then (e.1, v) else e).2)
      rw [if_neg q]
  · obtain ⟨e, he, q⟩ := List.mem_map.mp h
    exact List.any_eq_true.mpr ⟨(.inr e.1, e.2), List.mem_map.mpr ⟨e, he, rfl⟩, decide_eq_true (by rw [q])⟩
theorem put_keys (es : List (Str × V)) (z : Str) (v : V) : (es.map fun e => if e.1 = z then (e.1, v) else e).map (·.1) = es.map (·.1) := by
  rw [List.map_map]
  refine List.map_congr_left fun e _ => ?_
  show (if e.1 = z then (e.1, v) else e).1 = e.1
  split <;> rfl
theorem pick2 {p : Int} {d : Int} (h0 : 0 ≤ d) (h1 : d < 2) : ∃ l : Option Int, atI [V.int p, V.non] d = some (oV l) ∧ ∀ i, l = some i → i = p := by
  rcases (show d = 0 ∨ d = 1 by omega) with e | e
  · exact ⟨some p, by rw [e]; rfl, fun i q => by cases q; rfl⟩
  · exact ⟨none, by rw [e]; rfl, fun i q => nomatch q⟩
def sp__law_wide : Sp := fun vs H Q _ => ∃ (F : Hp) (L : List (Addr × HO)) (r g c a d : Addr) (R : Rl) (ks : List (Str × Int)) (sp : Str → Span), vs = [.ref r, .ref a, .ref d] ∧ Led H F (rE r g c R ++ L) ∧ RlOk R ∧ F a = some (.dK (lineK ks)) ∧ LineOk ks ∧ StAt F ks d sp ∧ (∀ p ∈ ks, spanOk ks p.2 (sp p.1)) ∧ R.n < 999990000 ∧
  ∀ d' g' R' sp' F' H', Same F F' → StAt F' ks d' sp' → (∀ p ∈ ks, spanOk ks p.2 (sp' p.1)) → Led H' F' (rE r g' c R' ++ L) → RlOk R' → R'.n ≤ R.n + 200 → Q (.ref d') H'
theorem ok__law_wide (T : Tx mg) (D : At K mg "_law_wide" s__law_wide ["reel", "net", "spans"]) (D__law_draw : Dfn P w K mg base "_law_draw" ["reel", "many"] 1 (sp__law_draw )) : Dfn P w K mg base "_law_wide" ["reel", "net", "spans"] 2 (sp__law_wide ) := by
  refine dfn D sc__law_wide (fun vs H Q E h => ?_) (fun X f cdv A outer s H vs Q E hX hr h => ?_)
  · obtain ⟨F, L, r, g, c, a, d, R, ks, sp, rfl, D0, ok, hf, hk, hs, sok, hn, q⟩ := h
    rfl
  · subst hX
    obtain ⟨F, L, r, g, c, a, d, R, ks, sp, rfl, D0, ok, hf, hk, hs, sok, hn, q⟩ := h
    refine ⟨_, (pss_cons (ps_par (i := 3) (j := 4) (by rfl) sc__law_wide.nd rfl rfl (by decide) rfl rfl (pa_cons (pe_sortValues rfl (pvl 1) (by rfl) T.b_sorted (by decide +kernel)) (pa_cons (pe_callTy call_dictD (by rfl) T.b_dict boot_dict (pa_cons (pvl 2) pa_nil)) pa_nil)) (by rfl)) (pss_cons (ps_for PassesOwn.never rfl (pi_list (pe_callB (call_sortedD rfl) (by rfl) T.b_sorted (by decide +kernel) (pa_cons (pvl 1) pa_nil))) (pg_name (i := 5) sc__law_wide.nd rfl (Or.inl rfl)) (pss_one (ps_if (pt_cmpR opGt (pe_callD D__law_draw (hr.mono (by decide)) (by rfl) (pa_cons (pvl 0) (pa_cons pe_int pa_nil))) pe_int (nomark _)) (pss_one (ps_dput (hu_of hr) (pvl 4) (pvl 5) (pe_tup (pa_cons (pe_ix ix_seq (pe_lst (pa_cons (pe_ix ix_seq (pvl 3) pe_int (fun _ _ => rfl)) (pa_cons pe_non pa_nil))) (pe_callD D__law_draw (hr.mono (by decide)) (by rfl) (pa_cons (pvl 0) (pa_cons pe_int pa_nil))) (fun _ _ => rfl)) (pa_cons (pe_ix ix_seq (pe_lst (pa_cons (pe_ix ix_seq (pvl 3) (pe_un un_neg pe_int) (fun _ _ => rfl)) (pa_cons pe_non pa_nil))) (pe_callD D__law_draw (hr.mono (by decide)) (by rfl) (pa_cons (pvl 0) (pa_cons pe_int pa_nil))) (fun _ _ => rfl)) pa_nil))) rfl)) pss_nil))) (pss_one (ps_ret (pvl 4))))), ?_⟩
    refine y_start (σ' := [some _, some _, some _, none, none, none]) (by rfl) ?_
    have l1 := hk.len1
    have l2 := hk.len2
    have ekk : (lineK ks).map (·.1) = (ks.map (·.1)).map Sum.inr := by
      unfold lineK
      rw [List.map_map, List.map_map]; rfl
    have evv : (lineK ks).map (·.2) = (ks.map (·.2)).map V.int := by
      unfold lineK
      rw [List.map_map, List.map_map]; rfl
    obtain ⟨es0, hd0, pes0, hes0⟩ := hs
    walk_at "py"
    refine y_sortVals (y_var rfl ?_)
    refine ⟨a, _, ks.map (·.2), rfl, .inl (D0.frz hf), evv, by rw [List.length_map]; omega, fun ps p pperm psrt np => ?_⟩
    generalize eh : upd H p _ = H1
    obtain ⟨F1, s1, hp, -, D1⟩ := D0.nf np eh
    clear eh np
    walk_at "py"
    refine ⟨d, _, rfl, .inl (D1.frz (s1 _ _ hd0)), fun fd nfd => ?_⟩
    generalize eh : upd H1 fd _ = H2
    have D2 := (D1.nl nfd eh).back
    clear eh nfd
    walk_at "py"
    refine ⟨_, _, rfl, ?_⟩
    simp only [List.set_cons_zero, List.set_cons_succ]
    walk_at "py"
    refine ⟨a, _, ks.map (·.1), rfl, .inl (D2.frz (s1 _ _ hf)), ekk, by rw [List.length_map]; omega, fun ys nm perm _ nnm => ?_⟩
    generalize eh : upd H2 nm _ = H3
    obtain ⟨F3, s3, hnm, -, D3⟩ := D2.nf nnm eh
    clear eh nnm
    have ly : ys.length = ks.length := by rw [perm.length_eq, List.length_map]
    have lps : ps.length = ks.length := by rw [pperm.length_eq, List.length_map]
    obtain ⟨p0, h0⟩ : ∃ z, ps[0]? = some z := ⟨_, List.getElem?_eq_getElem (by omega)⟩
    obtain ⟨pi, pl, eps⟩ : ∃ yi yl, ps = yi ++ [yl] := ⟨_, _, (List.dropLast_concat_getLast (l := ps) (by intro e; rw [e] at lps; simp at lps; omega)).symm⟩
    have m0 : p0 ∈ ks.map (·.2) := pperm.mem_iff.mp (List.mem_of_getElem? h0)
    have ml : pl ∈ ks.map (·.2) := pperm.mem_iff.mp (by rw [eps]; simp)
    have le0 : ∀ q ∈ ks.map (·.2), p0 ≤ q := fun q hq => by
      have hq2 := pperm.mem_iff.mpr hq
      cases ps with
      | nil => cases hq2
      | cons x xs =>
        have e : x = p0 := Option.some.inj h0
        subst e
        rcases List.mem_cons.mp hq2 with e | h
        · rw [e]; exact Int.le_refl _
        · exact (List.pairwise_cons.mp psrt).1 q h
    have leL : ∀ q ∈ ks.map (·.2), q ≤ pl := fun q hq => by
      have hq2 := pperm.mem_iff.mpr hq
      rw [eps] at hq2 psrt
      rcases List.mem_append.mp hq2 with h | h
      · exact (List.pairwise_append.mp psrt).2.2 q h pl List.mem_cons_self
      · rw [List.mem_singleton.mp h]; exact Int.le_refl _
    walk_at "py"
    refine ⟨nm, rfl, ⟨_, SqL.of (D3.frz hnm)⟩, ?_⟩
    refine for_any (walk_list (xs := ys.map V.str)) (fun i σ' H' => ∃ F' g' R' es sp' v5, σ' = [some (.ref r), some (.ref a), some (.ref d), some (.ref p), some (.ref fd), v5] ∧ Same F3 F' ∧ Led H' F' (rE r g' c R' ++ ((fd, .dK (strK es)) :: L)) ∧ RlOk R' ∧ R'.n ≤ R.n + 3 * i ∧
        (es.map (·.1)).Perm (ks.map (·.1)) ∧ (∀ e ∈ es, SpanAt F' e.2 (sp' e.1)) ∧ ∀ p ∈ ks, spanOk ks p.2 (sp' p.1))
      ⟨F3, g, R, es0, sp, none, rfl, Same.refl _, D3, ok, by omega, pes0, (fun e he => (hes0 e he).mono (s1.trans s3)), sok⟩ (fun i σ' H' ⟨_, _, _, _, _, _, _, s, D, _⟩ => SqL.of (D.frz (s _ _ hnm))) ?_ ?_
    rotate_left
    · rintro σ' H' ⟨F4, g', R', es, sp', v5, rfl, s4, D4, ok4, n4, pes, hes, so⟩
      walk_at "py"
      obtain ⟨F5, s5, h5, D5⟩ := D4.fwd.froz
      exact q fd g' R' sp' F5 H' (s1.trans (s3.trans (s4.trans s5))) ⟨es, h5 _ List.mem_cons_self, pes, fun e he => (hes e he).mono s5⟩ so D5 ok4 (by rw [List.length_map] at n4; omega)
    rintro i x σ' H' hi hx ⟨F4, g', R', es, sp', v5, rfl, s4, D4, ok4, n4, pes, hes, so⟩
    obtain ⟨z, rfl, hz⟩ := strs_at hx
    have hi40 : i < 40 := by rw [List.length_map] at hi; omega
    have zk : z ∈ ks.map (·.1) := perm.mem_iff.mp (List.mem_of_getElem? hz)
    have hp4 : F4 p = some (.lst (ps.map V.int)) := s4 _ _ (s3 _ _ hp)
    walk_at "py"
    refine ⟨F4, _, r, g', c, R', 4, rfl, D4, ok4, by decide, by decide, by omega, fun d1 g1 R1 H4 a1 b1 D5 ok5 n5 => ?_⟩
    walk_at "py"
    refine ite_b (fun e => ?_) (fun e => y_next ⟨F4, g1, R1, es, sp', _, rfl, s4, D5, ok5, by omega, pes, hes, so⟩)
    walk_at "py"
    refine r_ixL (SqL.of (D5.frz hp4)) (at_nat (k := 0) (c := V.int p0) (by rw [List.getElem?_map, h0]; rfl)) ?_
    walk_at "py"
    refine ⟨by show 2 ≤ sizeLine; decide, ?_⟩
    intro x1 np
    generalize eh : upd H4 x1 _ = H5
    obtain ⟨F6, s6, h6, -, D6⟩ := D5.nf np eh
    clear eh np
    walk_at "py"
    refine ⟨F6, _, r, g1, c, R1, 2, rfl, D6, ok5, by decide, by decide, by omega, fun d2 g2 R2 H6 a2 b2 D7 ok7 n7 => ?_⟩
    obtain ⟨lo, elo, plo⟩ := pick2 (p := p0) a2 b2
    refine r_ixL (SqL.of (D7.frz h6)) elo ?_
    walk_at "py"
    refine r_ixL (SqL.of (D7.frz (s6 _ _ hp4))) (by rw [eps, List.map_append]; exact atI_last _ (V.int pl)) ?_
    walk_at "py"
    refine ⟨by show 2 ≤ sizeLine; decide, ?_⟩
    intro x2 np
    generalize eh : upd H6 x2 _ = H7
    obtain ⟨F8, s8, h8, -, D8⟩ := D7.nf np eh
    clear eh np
    walk_at "py"
    refine ⟨F8, _, r, g2, c, R2, 2, rfl, D8, ok7, by decide, by decide, by omega, fun d3 g3 R3 H8 a3 b3 D9 ok9 n9 => ?_⟩
    obtain ⟨hi', ehi, phi⟩ := pick2 (p := pl) a3 b3
    refine r_ixL (SqL.of (D9.frz h8)) ehi ?_
    walk_at "py"
    refine ⟨by show 2 ≤ sizeLine; decide, ?_⟩
    intro x3 np
    generalize eh : upd H8 x3 _ = H9
    obtain ⟨F10, s10, h10, -, D10⟩ := D9.nf np eh
    clear eh np
    walk_at "py"
    have zes : z ∈ es.map (·.1) := pes.mem_iff.mpr zk
    have les : es.length ≤ 40 := by have := pes.length_eq; rw [List.length_map, List.length_map] at this; omega
    refine ⟨fd, _, rfl, DPut.k (k := Sum.inr z) (D10.get 3) (by rw [strK_len]; exact lt_line (by omega)), ?_⟩
    rw [putK_old _ zes]
    generalize eh : upd H9 fd _ = H10
    have D11 : Led H10 F10 (rE r g3 c R3 ++ ((fd, .dK (strK (es.map fun e => if e.1 = z then (e.1, V.ref x3) else e))) :: L)) := D10.st 3 eh
    have sA := s6.trans (s8.trans s10)
    walk_at "py"
    refine ⟨F10, g3, R3, _, fun y => if y = z then some (lo, hi') else sp' y, _, rfl, s4.trans sA, D11, ok9, by omega, by rw [put_keys]; exact pes, fun e he => ?_, fun p hp => ?_⟩
    · obtain ⟨e0, h1, rfl⟩ := List.mem_map.mp he
      by_cases w : e0.1 = z
      · rw [if_pos w]
        show SpanAt F10 (V.ref x3) (if e0.1 = z then _ else _)
        rw [if_pos w]
        exact ⟨x3, rfl, h10⟩
      · rw [if_neg w]
        show SpanAt F10 e0.2 (if e0.1 = z then _ else _)
        rw [if_neg w]
        exact (hes e0 h1).mono sA
    · by_cases w : p.1 = z
      · show spanOk ks p.2 (if p.1 = z then _ else _)
        rw [if_pos w]
        have hp2 : p.2 ∈ ks.map (·.2) := List.mem_map.mpr ⟨p, hp, rfl⟩
        exact ⟨fun i e => by rw [plo i e]; exact ⟨m0, le0 _ hp2⟩, fun i e => by rw [phi i e]; exact ⟨ml, leL _ hp2⟩⟩
      · show spanOk ks p.2 (if p.1 = z then _ else _)
        rw [if_neg w]
        exact so p hp
def sp_is_line : Sp := fun vs H Q _ => ∃ (a : Addr) (ks : List (Str × Int)), vs = [.ref a] ∧ H a = some (.dK (lineK ks)) ∧ LineOk ks ∧ ∀ H', Same H H' → Q (.bl true) H'
theorem ok_is_line (T : Tx mg) (D : At K mg "is_line" s_is_line ["value"]) (D_is_name : Dfn P w K mg base "is_name" ["value"] 1 (sp_is_name )) (D_is_position : Dfn P w K mg base "is_position" ["value"] 2 (sp_is_position )) : Dfn P w K mg base "is_line" ["value"] 3 (sp_is_line ) := by
  refine dfn D sc_is_line (fun vs H Q E h => ?_) (fun X f cdv A outer s H vs Q E hX hr h => ?_)
  · obtain ⟨a, ks, rfl, hl, hk, q⟩ := h
    rfl
  · subst hX
    obtain ⟨a, ks, rfl, hl, hk, q⟩ := h
    refine ⟨_, (pss_cons (ps_if (PW.pt (pw_or (pt_not (pt_val (pe_callB call_isi (by rfl) T.b_isinstance (by decide +kernel) (pa_cons (pvl 0) (pa_cons (pe_bltn (v := .ty "dict") (by rfl) T.b_dict boot_dict rfl) pa_nil))))) (pw_or1 (pt_not (pt_chain opLe opLe pe_int (pe_callB call_lenD (by rfl) T.b_len PySem.boot_len (pa_cons (pvl 0) pa_nil)) (pe_glob (v := .int (40)) (by rfl) (Exists.choose_spec T.g_MOST_HOSTS) ⟨_, rfl⟩)))))) (pss_one (ps_ret pe_bl)) pss_nil) (pss_cons (ps_lock (ps_for PassesOwn.never rfl (pi_items (pvl 0)) (pg_tup rfl (pgs_cons (pg_name (i := 1) sc_is_line.nd rfl (Or.inl rfl)) (pgs_cons (pg_name (i := 2) sc_is_line.nd rfl (Or.inl rfl)) pgs_nil))) (pss_one (ps_if (PW.pt (pw_or (pt_not (pt_val (pe_callD D_is_name (hr.mono (by decide)) (by rfl) (pa_cons (pvl 1) pa_nil)))) (pw_or1 (pt_not (pt_val (pe_callD D_is_position (hr.mono (by decide)) (by rfl) (pa_cons (pvl 2) pa_nil))))))) (pss_one (ps_ret pe_bl)) pss_nil)))) (pss_one (ps_ret (pe_cmpR (opEq hr.units) (RZ.pe_lenSetI (by rfl) T.b_len (by rfl) T.b_set (pe_listValues rfl (pvl 0) (by rfl) T.b_list boot_list)) (pe_callB call_lenD (by rfl) T.b_len PySem.boot_len (pa_cons (pvl 0) pa_nil)) (nomark _)))))), ?_⟩
    refine y_start (σ' := [some _, none, none]) (by rfl) ?_
    have hlen : (lineK ks).length = ks.length := by simp [lineK]
    have l1 := hk.len1
    have l2 := hk.len2
    walk_at "py"
    refine r_isi (.dK hl) (by simp) ?_
    rw [show isT "dict" "dict" = true from by decide]
    walk_at "py"
    refine ⟨a, _, rfl, hl, ?_⟩
    walk_at "py"
    rw [hlen, decide_eq_true (by omega)]
    walk_at "py"
    rw [decide_eq_true (by omega)]
    walk_at "py"
    refine y_lockItems (fun H1 R r => ⟨_, rfl, r⟩) hl (fun od i σ' H' => ∃ u v, σ' = [some (.ref a), u, v] ∧ Same (upd H a (.frz od (.dK (lineK ks)))) H') (fun od => ⟨_, _, rfl, Same.refl _⟩) (fun od i σ' H' ⟨_, _, _, s⟩ => s _ _ upd_same) ?_ ?_
    · rintro od i k v T σ' H' hi ⟨u0, v0, rfl, s⟩ hT
      obtain ⟨p, hp, e⟩ : ∃ p, ks[i]? = some p ∧ (k, v) = (.inr p.1, .int p.2) := by
        unfold lineK at hi
        rw [List.getElem?_map] at hi
        cases e : ks[i]? with
        | none => rw [e] at hi; cases hi
        | some p => rw [e] at hi; exact ⟨p, rfl, (Option.some.inj hi).symm⟩
      cases e
      have hpm := List.mem_of_getElem? hp
      refine y_gtup (SqT.of upd_same) rfl ?_
      refine y_gcons ?_
      walk_at "py"
      refine y_gcons ?_
      walk_at "py"
      refine y_gnil ?_
      walk_at "py"
      have s2 : Same (upd H a (.frz od (.dK (lineK ks)))) (upd H' T (.tup [.str p.1, .int p.2])) := fun b o e => by
        rw [upd_ne (ne_of_none (s b o e) hT)]; exact s b o e
      refine ⟨.str p.1, "str", rfl, .str _, fun z e => by cases e; have := nm_len (hk.nm p hpm); omega, fun H3 s3 => ?_⟩
      rw [show isNm (.str p.1) = true from hk.nm p hpm]
      walk_at "py"
      refine ⟨.int p.2, "int", rfl, .int _, ?_⟩
      rw [show isPos (.int p.2) = true from decide_eq_true (hk.ps p hpm)]
      walk_at "py"
      exact ⟨_, _, rfl, s2.trans s3⟩
    · rintro od σ' H' ⟨u0, v0, rfl, s⟩
      have s2 := same_lock hl s
      walk_at "py"
      refine ⟨a, _, rfl, .inl upd_same, fun p hp => ?_⟩
      have ev : (lineK ks).map (·.2) = (ks.map (·.2)).map V.int := by
        unfold lineK
        rw [List.map_map, List.map_map]; rfl
      refine ⟨p, ks.map (·.2), rfl, SqL.of (by rw [upd_same, ev]), hk.ndp, by rw [List.length_map]; omega, ?_⟩
      walk_at "py"
      have hpa : a ≠ p := fun e => by rw [← e, upd_same] at hp; cases hp
      refine ⟨a, _, rfl, by rw [upd_ne hpa, upd_same], ?_⟩
      walk_at "py"
      rw [List.length_map, hlen]
      rw [decide_eq_true rfl]
      refine q _ (s2.trans fun b o e => ?_)
      rw [upd_ne (ne_of_none e hp)]; exact e
def okLow (ks : List (Str × Int)) (o : Int) : V → Bool
  | .non => true
  | .int i => isEnd ks (.int i) && decide (i ≤ o)
  | _ => false
def okHigh (ks : List (Str × Int)) (o : Int) : V → Bool
  | .non => true
  | .int i => isEnd ks (.int i) && decide (o ≤ i)
  | _ => false
/-- an interval of a host at o, or none, by the value's kind -/
inductive IvB (ks : List (Str × Int)) (o : Int) (a : Addr) (H : Hp) : V → Bool → Prop
  | non : IvB ks o a H .non true
  | no {x : V} {s : String} (h : Ar H x s) (n0 : x ≠ .non) (n : ∀ t u v, x = .ref t → H t ≠ some (.tup [u, v])) (m : ∀ t xs, x = .ref t → H t = some (.tup xs) → xs.length ≤ 100000) (na : x ≠ .ref a) : IvB ks o a H x false
  | pair {t : Addr} {u v : V} {s s' : String} (h : H t = some (.tup [u, v])) (hu : Ar H u s) (hv : Ar H v s') (nu : u ≠ .ref a) (nv : v ≠ .ref a) : IvB ks o a H (.ref t) (okLow ks o u && okHigh ks o v)
def sp_is_known_interval : Sp := fun vs H Q _ => ∃ (a : Addr) (z : Str) (o : Int) (x : V) (b : Bool) (ks : List (Str × Int)), vs = [.ref a, .str z, x] ∧ Rd H a (.dK (lineK ks)) ∧ valV (lineK ks) (.inr z) = some (.int o) ∧ IvB ks o a H x b ∧ ∀ H', Same H H' → Q (.bl b) H'
theorem ok_is_known_interval (T : Tx mg) (D : At K mg "is_known_interval" s_is_known_interval ["line", "host", "value"]) (D_is_end : Dfn P w K mg base "is_end" ["line", "value"] 2 (sp_is_end )) (D_is_pair : Dfn P w K mg base "is_pair" ["value"] 1 (sp_is_pair )) : Dfn P w K mg base "is_known_interval" ["line", "host", "value"] 3 (sp_is_known_interval ) := by
  refine dfn D sc_is_known_interval (fun vs H Q E h => ?_) (fun X f cdv A outer s H vs Q E hX hr h => ?_)
  · obtain ⟨a, z, o, x, b, ks, rfl, hl, ho, hb, q⟩ := h
    rfl
  · subst hX
    obtain ⟨a, z, o, x, b, ks, rfl, hl, ho, hb, q⟩ := h
    refine ⟨_, (pss_cons (ps_if (pt_cmpR opIs (pvl 2) pe_non (nomark _)) (pss_one (ps_ret pe_bl)) pss_nil) (pss_cons (ps_if (pt_not (pt_val (pe_callD D_is_pair (hr.mono (by decide)) (by rfl) (pa_cons (pvl 2) pa_nil)))) (pss_one (ps_ret pe_bl)) pss_nil) (pss_cons (ps_asg (pvl 2) (pg_tup rfl (pgs_cons (pg_name (i := 3) sc_is_known_interval.nd rfl (Or.inl rfl)) (pgs_cons (pg_name (i := 4) sc_is_known_interval.nd rfl (Or.inl rfl)) pgs_nil)))) (pss_cons (ps_set (i := 5) sc_is_known_interval.nd rfl (Or.inl rfl) (pe_dget (hu_of hr) (pvl 0) (pvl 1) (fun _ _ => rfl))) (pss_cons (ps_set (i := 6) sc_is_known_interval.nd rfl (Or.inl rfl) (pe_or (pe_cmpR opIs (pvl 3) pe_non (nomark _)) (pe_one (pe_and (pe_callD D_is_end (hr.mono (by decide)) (by rfl) (pa_cons (pvl 0) (pa_cons (pvl 3) pa_nil))) (pe_one (pe_cmpR opLe (pvl 3) (pvl 5) (nomark _))))))) (pss_cons (ps_set (i := 7) sc_is_known_interval.nd rfl (Or.inl rfl) (pe_or (pe_cmpR opIs (pvl 4) pe_non (nomark _)) (pe_one (pe_and (pe_callD D_is_end (hr.mono (by decide)) (by rfl) (pa_cons (pvl 0) (pa_cons (pvl 4) pa_nil))) (pe_one (pe_cmpR opGe (pvl 4) (pvl 5) (nomark _))))))) (pss_one (ps_ret (pe_and (pvl 6) (pe_one (pvl 7))))))))))), ?_⟩
    refine y_start (σ' := [some _, some _, some _, none, none, none, none, none]) (by rfl) ?_
    walk_at "py"
    cases hb with
    | non =>
      rw [decide_eq_true rfl]
      walk_at "py"
      exact q _ (Same.refl _)
    | @no _ s h n0 n m na =>
      rw [decide_eq_false n0]
      walk_at "py"
      refine ⟨x, s, false, rfl, h, ⟨fun z => (nomatch z), fun ⟨t, u, v, e1, e2⟩ => absurd e2 (n t u v e1)⟩, m, ?_⟩
      walk_at "py"
      exact q _ (Same.refl _)
    | @pair t u v s s' h hu hv nu nv =>
      rw [decide_eq_false (by intro e; cases e)]
      walk_at "py"
      refine ⟨.ref t, "tuple", true, rfl, .tup h, ⟨fun _ => ⟨t, u, v, rfl, h⟩, fun _ => rfl⟩, (fun t' xs e q => by cases e; rw [h] at q; cases q; show 2 ≤ 100000; decide), ?_⟩
      walk_at "py"
      refine y_gtup (SqT.of h) rfl ?_
      refine y_gcons ?_
      walk_at "py"
      refine y_gcons ?_
      walk_at "py"
      refine y_gnil ?_
      walk_at "py"
      refine ⟨a, _, rfl, Or.inl ⟨_, Sum.inr z, hl, rfl, ho.symm⟩, ?_⟩
      walk_at "py1"
      walk_at "py1"
      refine with_s (fun σ' H' => σ' = [some (.ref a), some (.str z), some (.ref t), some u, some v, some (.int o), some (.bl (okLow ks o u)), none] ∧ Same H H') ?_ (fun rest => ?_)
      rotate_left
      · walk_at "py"
        refine andK_b (fun e => ?_) (fun e => ?_)
        · walk_at "py1"
          have e := of_decide_eq_true e
          subst e
          exact rest _ _ ⟨rfl, Same.refl _⟩
        · have e := of_decide_eq_false e
          walk_at "py"
          refine ⟨a, u, s, ks, rfl, hl, hu, fun H1 s1 => ?_⟩
          refine andK_b (fun e2 => ?_) (fun e2 => ?_)
          · obtain ⟨i, rfl⟩ : ∃ i, u = .int i := by cases u <;> first | exact ⟨_, rfl⟩ | cases e2
            walk_at "py1"
            walk_at "py1"
            walk_at "py1"
            walk_at "py1"
            walk_at "py1"
            refine rest _ _ ⟨?_, s1⟩
            show _ = [some (V.ref a), some (.str z), some (.ref t), some (.int i), some v, some (.int o), some (.bl (isEnd ks (.int i) && decide (i ≤ o))), none]
            rw [e2]; rfl
          · walk_at "py1"
            refine rest _ _ ⟨?_, s1⟩
            have : okLow ks o u = false := by
              cases u with
              | non => exact absurd rfl e
              | int i => show (isEnd ks (.int i) && _) = false; rw [e2]; rfl
              | _ => rfl
            rw [this]
      rintro σ' H' ⟨rfl, s0⟩
      walk_at "py1"
      refine with_s (fun σ2 H2 => σ2 = [some (.ref a), some (.str z), some (.ref t), some u, some v, some (.int o), some (.bl (okLow ks o u)), some (.bl (okHigh ks o v))] ∧ Same H H2) ?_ (fun rest => ?_)
      rotate_left
      · walk_at "py"
        refine andK_b (fun e => ?_) (fun e => ?_)
        · walk_at "py1"
          have e := of_decide_eq_true e
          subst e
          exact rest _ _ ⟨rfl, s0⟩
        · have e := of_decide_eq_false e
          walk_at "py"
          refine ⟨a, v, s', ks, rfl, hl.imp (s0 _ _) (fun ⟨_, r⟩ => ⟨_, s0 _ _ r⟩), hv.mono s0, fun H1 s1 => ?_⟩
          refine andK_b (fun e2 => ?_) (fun e2 => ?_)
          · obtain ⟨i, rfl⟩ : ∃ i, v = .int i := by cases v <;> first | exact ⟨_, rfl⟩ | cases e2
            walk_at "py1"
            walk_at "py1"
            walk_at "py1"
            walk_at "py1"
            walk_at "py1"
            refine rest _ _ ⟨?_, s0.trans s1⟩
            show _ = [some (V.ref a), some (.str z), some (.ref t), some u, some (.int i), some (.int o), some (.bl (okLow ks o u)), some (.bl (isEnd ks (.int i) && decide (o ≤ i)))]
            rw [e2]; rfl
          · walk_at "py1"
            refine rest _ _ ⟨?_, s0.trans s1⟩
            have : okHigh ks o v = false := by
              cases v with
              | non => exact absurd rfl e
              | int i => show (isEnd ks (.int i) && _) = false; rw [e2]; rfl
              | _ => rfl
            rw [this]
      rintro σ2 H2 ⟨rfl, s2⟩
      walk_at "py"
      refine andK_b (fun e => ?_) (fun e => ?_)
      · walk_at "py"
        rw [e] at q
        exact q _ s2
      · rw [e] at q
        exact q _ s2
def sp__law_due : Sp := fun vs H Q _ => ∃ (F : Hp) (L : List (Addr × HO)) (a d : Addr) (ks : List (Str × Int)) (sp : Str → Span), vs = [.ref a, .ref d] ∧ Led H F L ∧ F a = some (.dK (lineK ks)) ∧ LineOk ks ∧ StAt F ks d sp ∧
  ∀ os l F' H', byPos ks os → Same F F' → Led H' F' ((l, .lst ((dueO sp ks os).map V.str)) :: L) → Q (.ref l) H'
theorem ok__law_due (T : Tx mg) (D : At K mg "_law_due" s__law_due ["net", "spans"]) (D__law_reach : Dfn P w K mg base "_law_reach" ["net", "spans", "pair"] 2 (sp__law_reach )) : Dfn P w K mg base "_law_due" ["net", "spans"] 3 (sp__law_due ) := by
  refine dfn D sc__law_due (fun vs H Q E h => ?_) (fun X f cdv A outer s H vs Q E hX hr h => ?_)
  · obtain ⟨F, L, a, d, ks, sp, rfl, D0, hf, hk, hs, q⟩ := h
    rfl
  · subst hX
    obtain ⟨F, L, a, d, ks, sp, rfl, D0, hf, hk, hs, q⟩ := h
    refine ⟨_, (pss_cons (ps_set (i := 2) sc__law_due.nd rfl (Or.inl rfl) (pe_lst pa_nil)) (pss_cons (ps_for PassesOwn.never rfl (pi_list (pe_callB cr_sortedF (by rfl) T.b_sorted (by decide +kernel) (pa_cons (pe_lock (pe_lc (own := [("name", 6), ("place", 3)])  (tt := tYes) rfl sc__law_due.nd (pi_items (pvc 0)) (blkOk_by (own := [("name", 6), ("place", 3)]) (N := nn__law_due) (sc := defScope s__law_due) (by decide +kernel)) (blk_g fun _ _ _ _ _ => (pg_tup rfl (pgs_cons (pg_name (i := 6) sc__law_due.nd rfl (Or.inl rfl)) (pgs_cons (pg_name (i := 3) sc__law_due.nd rfl (Or.inl rfl)) pgs_nil)))) (fun _ _ _ _ _ => pts_nil) (blk_e fun _ _ _ _ _ => (pe_tup (pa_cons (pvl 3) (pa_cons (pvl 6) pa_nil)))))) pa_nil))) (pg_tup rfl (pgs_cons (pg_name (i := 3) sc__law_due.nd rfl (Or.inl rfl)) (pgs_cons (pg_name (i := 4) sc__law_due.nd rfl (Or.inr rfl)) pgs_nil))) (pss_cons (ps_lock (ps_setLc (i := 5) (own := [("sender", 7)]) (g := gName 7)  rfl sc__law_due.nd rfl rfl (sw_true rfl rfl rfl (by decide +kernel)) (pi_keys (pvc 0)) (blkOk_by (own := [("sender", 7)]) (N := nn__law_due) (sc := defScope s__law_due) (by decide +kernel)) (fun _ _ _ _ _ => (pg_name (i := 7) sc__law_due.nd rfl (Or.inl rfl))) (blk_t fun _ _ _ _ _ => (pts_one (pt_cmpR (opNe hr.units) (pvl 7) (pvc 4) (nomark _)))) (blk_e fun _ _ _ _ _ => (pe_ix ix_seq (pe_callD D__law_reach (hr.mono (by decide)) (by rfl) (pa_cons (pvc 0) (pa_cons (pvc 1) (pa_cons (pe_tup (pa_cons (pvl 7) (pa_cons (pvc 4) pa_nil))) pa_nil)))) pe_int (fun _ _ => rfl))))) (pss_one (ps_if (pt_cmpR (opNe hr.units) (pvl 5) (pe_op opMul (pe_lst (pa_cons pe_str pa_nil)) (pe_callB call_len (by rfl) T.b_len PySem.boot_len (pa_cons (pvl 5) pa_nil))) (nomark _)) (pss_one (ps_expr (pe_bm PySem.F.plainAttrs_list PySem.F.slot_list_append PySem.F.type_list_append mt_append (pvl 2) (pa_cons (pvc 4) pa_nil)))) pss_nil)))) (pss_one (ps_ret (pvl 2))))), ?_⟩
    refine y_start (σ' := [some _, some _, none, none, none, none, none, none]) (by rfl) ?_
    have l1 := hk.len1
    have l2 := hk.len2
    walk_at "py"
    refine ⟨by show 0 ≤ sizeLine; decide, ?_⟩
    intro fd nfd
    generalize eh : upd H fd _ = H1
    have D1 := D0.nl nfd eh
    clear eh nfd
    walk_at "py"
    refine lc_lockItems D1 hf (by rw [lineK_len]; omega) (fun i acc F' => ∃ ts, acc = ts.map V.ref ∧ IsAt F' ts (ks.take i)) (fun _ => ⟨[], rfl, .nil⟩) (fun H1 R r => y_var rfl r) ?_ ?_ ?_ ?_
    rotate_left
    · rintro i acc F1 F2 ⟨ts, e, p⟩ s
      exact ⟨ts, e, L2.Paired.mapP p fun _ _ h => s _ _ h⟩
    · rintro od acc F1 F2 ⟨ts, e, p⟩ hfa up
      exact ⟨ts, e, L2.Paired.mapP p fun t _ h => up t _ (fun z => by rw [z, hfa] at h; cases h) h⟩
    rotate_left
    · rintro od Kp Sk i acc F2 H2 T Dl k v hi hfa ⟨ts, rfl, pt⟩ D2 hT ha kp
      obtain ⟨p, hp, e⟩ := line_at hi
      cases e
      have et : ks.take (i + 1) = ks.take i ++ [p] := by rw [List.take_add_one, hp]; rfl
      refine y_allG fun _ _ _ _ _ => ?_
      refine y_gtup (SqT.of (D2.frz hT)) rfl ?_
      refine y_gcons ?_
      walk_at "py"
      refine y_gcons ?_
      walk_at "py"
      refine y_gnil ?_
      refine ⟨rfl, ?_⟩
      walk_at "py"
      refine ⟨by show 2 ≤ sizeLine; decide, ?_⟩
      intro t nt
      generalize eh : upd H2 t _ = H3
      obtain ⟨F3, s3, ht, -, D3⟩ := D2.nf nt eh
      refine kp (.ref t) F3 H3 s3 D3 ⟨ts ++ [t], by rw [List.map_append]; rfl, ?_⟩
      unfold IsAt
      rw [et]
      exact Paired.app (L2.Paired.mapP pt fun _ _ h => s3 _ _ h) (.cons ht .nil)
    rintro acc Dl F2 H2 s2 ⟨ts, rfl, pt⟩ D2 ha
    rw [lineK_len, List.take_of_length_le (Nat.le_refl _)] at pt
    walk_at "py"
    refine ⟨Dl, _, kOf F2, rfl, SqL.of (D2.get 0), (fun x hx => let ⟨t, h1, h2, _⟩ := kOf_mem pt x hx; ⟨t, h1, D2.frz h2⟩), (fun x hx y hy e => by
      obtain ⟨_, _, _, h1⟩ := kOf_mem pt x hx
      obtain ⟨_, _, _, h2⟩ := kOf_mem pt y hy
      exact congrArg Prod.fst (pos_inj hk.ndp h1 h2 e)), fun ys p perm srt np => ?_⟩
    have bp := sorted_byPos hk.ndp pt perm srt
    have lys : ys.length ≤ 40 := by have h1 := bp.1.length_eq; rw [List.length_map] at h1; omega
    have yat : ∀ y ∈ ys, ∃ t, y = V.ref t ∧ F2 t = some (.tup [.int (kOf F2 y).1, .str (kOf F2 y).2]) := fun y hy => let ⟨t, h1, h2, _⟩ := kOf_mem pt y (perm.mem_iff.mp hy); ⟨t, h1, h2⟩
    generalize eh : upd H2 p _ = H3
    obtain ⟨F3, s3, hp, -, D3⟩ := D2.drop.nf np eh
    clear D2 eh np
    walk_at "py"
    refine ⟨p, rfl, ⟨_, SqL.of (D3.frz hp)⟩, ?_⟩
    generalize eos : (ys.map fun x => ((kOf F2 x).2, (kOf F2 x).1)) = os at bp
    refine for_any (walk_list (xs := ys)) (fun i σ' H' => ∃ F' v3 v4 v5 v6 v7, σ' = [some (.ref a), some (.ref d), some (.ref fd), v3, v4, v5, v6, v7] ∧ Same F3 F' ∧ Led H' F' ((fd, .lst ((dueO sp ks (os.take i)).map V.str)) :: L))
      ⟨F3, none, none, none, none, none, rfl, Same.refl _, D3⟩ (fun i σ' H' ⟨_, _, _, _, _, _, _, s, D⟩ => SqL.of (D.frz (s _ _ hp))) ?_ ?_
    rotate_left
    · rintro σ' H' ⟨F', v3, v4, v5, v6, v7, rfl, s4, D4⟩
      walk_at "py"
      rw [← List.length_map (f := fun x => ((kOf F2 x).2, (kOf F2 x).1)), eos, List.take_of_length_le (Nat.le_refl _)] at D4
      exact q os fd F' H' bp (s2.trans (s3.trans s4)) D4
    rintro i x σ' H' hi hx ⟨F4, v3, v4, v5, v6, v7, rfl, s4, D4⟩
    obtain ⟨t, rfl, ht⟩ := yat x (List.mem_of_getElem? hx)
    have hox : os[i]? = some ((kOf F2 (.ref t)).2, (kOf F2 (.ref t)).1) := by rw [← eos, List.getElem?_map, hx]; rfl
    generalize kOf F2 (.ref t) = kz at ht hox
    obtain ⟨o, z⟩ := kz
    have zm : (z, o) ∈ ks := bp.1.mem_iff.mp (List.mem_of_getElem? hox)
    walk_at "py"
    refine y_gtup (SqT.of (D4.frz (s4 _ _ (s3 _ _ ht)))) rfl ?_
    refine y_gcons ?_
    walk_at "py"
    refine y_gcons ?_
    walk_at "py"
    refine y_gnil ?_
    walk_at "py"
    have s0 := s2.trans (s3.trans s4)
    have hf4 : F4 a = some (.dK (lineK ks)) := s0 _ _ hf
    obtain ⟨es, hd4, les, hval⟩ := stAt_val (hs.mono s0) hk.ndn
    obtain ⟨v, ev, hv⟩ := hval z (List.mem_map.mpr ⟨_, zm, rfl⟩)
    refine lock_asg ?_
    refine lc_lockKeys D4 hf4 (by rw [lineK_len]; omega) (fun j acc F' => ∃ kk : List Str, acc = kk.map V.str ∧ kk.map isDir = ((ks.take j).filter fun q => !decide (q.1 = z)).map (fun q => inSpan (sp z) q.2) ∧ ∀ k ∈ kk, nmStr k = true) (fun _ => ⟨[], rfl, rfl, alN⟩) (fun H1 R r => y_var rfl r) ?_ ?_ ?_
    rotate_left
    · rintro od acc F1 F2 h _ _
      exact h
    rotate_left
    · rintro od Kp Sk j acc F5 H5 Dl k w5 hj s5 ⟨kk, rfl, hkk, nkk⟩ D5 ha kp sk
      obtain ⟨p', hp', e⟩ := line_at hj
      cases e
      have et : ks.take (j + 1) = ks.take j ++ [p'] := by rw [List.take_add_one, hp']; rfl
      walk_at "py1"
      refine ⟨rfl, ?_⟩
      walk_at "py"
      have hda : d ≠ a := fun e => by
        rw [e, hf4] at hd4
        have e2 : lineK ks = strK es := by injection hd4 with e2; injection e2
        rw [← e2, valV_line_some zm hk.ndn] at ev
        cases ev
        exact hv.noInt
      have up : ∀ b o, b ≠ a → F4 b = some o → F5 b = some o := fun b o nb e => s5 _ _ (by rw [upd_ne nb]; exact e)
      rw [show decide (kV (Sum.inr p'.1) = V.str z) = decide (p'.1 = z) from dec_str _ _]
      refine ite_b (fun e => ?_) (fun e => ?_)
      · walk_at "py"
        refine ⟨by show 2 ≤ sizeLine; decide, ?_⟩
        intro t2 nt
        generalize eh : upd H5 t2 _ = H6
        obtain ⟨F6, s6, ht2, -, D6⟩ := D5.nf nt eh
        clear eh nt
        refine ⟨F6, _, a, d, t2, ks, es, p'.1, z, p'.2, o, v, sp z, rfl, D6, Or.inr ⟨od, s6 _ _ (s5 _ _ upd_same)⟩, s6 _ _ (up _ _ hda hd4), ht2, valV_line_some (List.mem_of_getElem? hp') hk.ndn, valV_line_some zm hk.ndn, ev, (hv.up hf4 up).mono s6, fun r F7 H7 k u s7 hr isd nk D7 => ?_⟩
        walk_at "py"
        refine r_ixT (SqT.of (D7.frz hr)) (at_nat (k := 0) rfl) ?_
        refine kp (.str k) F7 H7 (s6.trans s7) D7 ⟨kk ++ [k], by rw [List.map_append]; rfl, ?_, alA nkk (alC nk alN)⟩
        rw [et, List.filter_append, List.map_append, List.map_append, List.filter_cons_of_pos (by exact e), hkk]
        show _ ++ [isDir k] = _ ++ [inSpan (sp z) p'.2]
        rw [isd]
      · refine sk F5 H5 (Same.refl _) D5 ⟨kk, rfl, ?_, nkk⟩
        rw [et, List.filter_append, List.filter_cons_of_neg (by rw [e]; decide), hkk]
        simp
    rintro acc Dl F6 H6 s6 ⟨kk, rfl, hkk, nkk⟩ D6 ha
    rw [lineK_len, List.take_of_length_le (Nat.le_refl _)] at hkk
    obtain ⟨F7, s7, hh7, D7⟩ := D6.froz
    have hDl := hh7 _ List.mem_cons_self
    have lkk : kk.length ≤ 40 := by rw [List.length_map, lineK_len] at ha; omega
    walk_at "py"
    refine ⟨by show 1 ≤ sizeLine; decide, ?_⟩
    intro c1 np1
    generalize eh : upd H6 c1 _ = H8
    obtain ⟨F8, s8, h8, -, D8⟩ := D7.nf np1 eh
    clear eh np1
    walk_at "py"
    refine ⟨_, _, rfl, Or.inl ⟨_, SqL.of (D8.frz (s8 _ _ hDl)), rfl⟩, ?_⟩
    rw [List.length_map]
    refine r_mulL (D8.frz h8) (by omega) (by omega) (by rw [Int.toNat_natCast]; show 1 * kk.length ≤ sizeLine; exact le_line (by omega)) ?_
    rw [Int.toNat_natCast, flat_texts]
    intro c2 np2
    generalize eh : upd H8 c2 _ = H9
    obtain ⟨F9, s9, h9, -, D9⟩ := D8.nf np2 eh
    clear eh np2
    refine r_neD (.lst (SqL.of (D9.frz (s9 _ _ (s8 _ _ hDl)))) (dpS kk)) (.lst (SqL.of (D9.frz h9)) (dpS (List.replicate kk.length "direct"))) (shS kk nkk) (shS _ fun z hz => by rw [List.eq_of_mem_replicate hz]; decide) ?_
    rw [eqv_texts, all_same, show (kk.map fun k => decide (k = (Str.ofString "direct"))) = kk.map isDir from rfl, hkk]
    have edue : (!((ks.filter fun q => !decide (q.1 = z)).map fun q => inSpan (sp z) q.2).all id) = dueAt sp ks (z, o) := by
      rw [List.all_map]; rfl
    have et : os.take (i + 1) = os.take i ++ [(z, o)] := by rw [List.take_add_one, hox]; rfl
    rw [edue]
    have sAll := s4.trans (s6.trans (s7.trans (s8.trans s9)))
    walk_at "py"
    refine ite_b (fun e => ?_) (fun e => ?_)
    · walk_at "py"
      refine ⟨Or.inl ⟨rfl, _, SqL.of (D9.get 0)⟩, ?_⟩
      simp only [List.set_cons_zero, List.set_cons_succ]
      walk_at "py"
      have ldu : (dueO sp ks (os.take i)).length ≤ 40 := by unfold dueO; rw [List.length_map]; exact Nat.le_trans (List.length_filter_le _ _) (by rw [List.length_take]; have := bp.1.length_eq; omega)
      refine ⟨fd, _, _, rfl, rfl, D9.get 0, by rw [List.length_map]; exact lt_line (by omega), ?_⟩
      generalize eh : upd H9 fd _ = H10
      have D10 := D9.st 0 eh
      walk_at "py"
      refine ⟨F9, _, _, _, _, _, rfl, sAll, ?_⟩
      have : dueO sp ks (os.take (i + 1)) = dueO sp ks (os.take i) ++ [z] := by
        unfold dueO
        rw [et, List.filter_append, List.filter_cons_of_pos (by exact e), List.map_append]; rfl
      rw [this, List.map_append]
      exact D10
    · walk_at "py"
      refine ⟨F9, _, _, _, _, _, rfl, sAll, ?_⟩
      have : dueO sp ks (os.take (i + 1)) = dueO sp ks (os.take i) := by
        unfold dueO
        rw [et, List.filter_append, List.filter_cons_of_neg (by rw [e]; decide)]; simp
      rw [this]
      exact D9
def sp_check_line : Sp := fun vs H Q _ => ∃ (a : Addr) (ks : List (Str × Int)), vs = [.ref a] ∧ H a = some (.dK (lineK ks)) ∧ LineOk ks ∧ ∀ H', Same H H' → Q .non H'
theorem ok_check_line (T : Tx mg) (D : At K mg "check_line" s_check_line ["line"]) (D_is_line : Dfn P w K mg base "is_line" ["value"] 3 (sp_is_line )) : Dfn P w K mg base "check_line" ["line"] 4 (sp_check_line ) := by
  refine dfn D sc_check_line (fun vs H Q E h => ?_) (fun X f cdv A outer s H vs Q E hX hr h => ?_)
  · obtain ⟨a, ks, rfl, hl, hk, q⟩ := h
    rfl
  · subst hX
    obtain ⟨a, ks, rfl, hl, hk, q⟩ := h
    refine ⟨_, (pss_one (ps_if (pt_not (pt_val (pe_callD D_is_line (hr.mono (by decide)) (by rfl) (pa_cons (pvl 0) pa_nil)))) (pss_one ps_never) pss_nil)), ?_⟩
    refine y_start (σ' := [some _]) (by rfl) ?_
    walk_at "py"
    refine ⟨a, ks, rfl, hl, hk, fun H' e => ?_⟩
    walk_at "py"
    exact q H' e
theorem IvB.mono {ks : List (Str × Int)} {o : Int} {a : Addr} {H H' : Hp} {x : V} {b : Bool} (e : Same H H') (h : IvB ks o a H x b) : IvB ks o a H' x b := by
  cases h with
  | non => exact .non
  | @no _ s h n0 n m na =>
    refine .no (h.mono e) n0 (fun t u v ex q => ?_) (fun t xs ex q => ?_) na
    · subst ex
      obtain ⟨o, ho⟩ := h.there
      have q2 := e _ _ ho
      rw [q] at q2
      cases q2
      exact n t u v rfl ho
    · subst ex
      obtain ⟨o, ho⟩ := h.there
      have q2 := e _ _ ho
      rw [q] at q2
      cases q2
      exact m t xs rfl ho
  | pair h hu hv nu nv => exact .pair (e _ _ h) (hu.mono e) (hv.mono e) nu nv
theorem IvB.lock {ks : List (Str × Int)} {o : Int} {a : Addr} {H : Hp} {x : V} {b : Bool} {kvs : List (Key × V)} {u : HO} (ha : H a = some (.dK kvs)) (h : IvB ks o a H x b) : IvB ks o a (upd H a u) x b := by
  cases h with
  | non => exact .non
  | @no _ s h n0 n m na =>
    refine .no (h.lock na) n0 (fun t u v ex q => ?_) (fun t xs ex q => ?_) na
    · rw [upd_ne (fun e => na (by rw [ex, e]))] at q; exact n t u v ex q
    · rw [upd_ne (fun e => na (by rw [ex, e]))] at q; exact m t xs ex q
  | @pair t u v s s' h hu hv nu nv =>
    refine .pair ?_ (hu.lock nu) (hv.lock nv) nu nv
    rw [upd_ne (fun e => by rw [e, ha] at h; cases h)]; exact h
/-- the interval of a host in a dict, if it stands there -/
def IvAt (ks : List (Str × Int)) (a : Addr) (kvs : List (Key × V)) (H : Hp) (p : Str × Int) (b : Bool) : Prop := (valV kvs (.inr p.1) = none ∧ b = false) ∨ ∃ y, valV kvs (.inr p.1) = some y ∧ IvB ks p.2 a H y b
inductive StB (ks : List (Str × Int)) (a : Addr) (H : Hp) : V → Bool → Prop
  | no {x : V} {s : String} (h : Ar H x s) (n : s ≠ "dict") : StB ks a H x false
  | len {d : Addr} {kvs : List (Key × V)} (h : H d = some (.dK kvs)) (n : kvs.length ≠ ks.length) : StB ks a H (.ref d) false
  | dct {d : Addr} {kvs : List (Key × V)} {bs : List Bool} (h : H d = some (.dK kvs)) (n : kvs.length = ks.length) (p : Paired (IvAt ks a kvs H) ks bs) : StB ks a H (.ref d) (bs.all id)
theorem StB.mono {ks : List (Str × Int)} {a : Addr} {H H' : Hp} {x : V} {b : Bool} (e : Same H H') (h : StB ks a H x b) : StB ks a H' x b := by
  cases h with
  | no h n => exact .no (h.mono e) n
  | len h n => exact .len (e _ _ h) n
  | dct h n p => exact .dct (e _ _ h) n (L2.Paired.mapP p fun _ _ q => q.imp id fun ⟨y, q1, q2⟩ => ⟨y, q1, q2.mono e⟩)
def sp_is_state : Sp := fun vs H Q _ => ∃ (a : Addr) (x : V) (b : Bool) (ks : List (Str × Int)), vs = [.ref a, x] ∧ H a = some (.dK (lineK ks)) ∧ LineOk ks ∧ StB ks a H x b ∧ ∀ H', Same H H' → Q (.bl b) H'
theorem ok_is_state (T : Tx mg) (D : At K mg "is_state" s_is_state ["line", "value"]) (D_check_line : Dfn P w K mg base "check_line" ["line"] 4 (sp_check_line )) (D_is_known_interval : Dfn P w K mg base "is_known_interval" ["line", "host", "value"] 3 (sp_is_known_interval )) : Dfn P w K mg base "is_state" ["line", "value"] 5 (sp_is_state ) := by
  refine dfn D sc_is_state (fun vs H Q E h => ?_) (fun X f cdv A outer s H vs Q E hX hr h => ?_)
  · obtain ⟨a, x, b, ks, rfl, hl, hk, hb, q⟩ := h
    rfl
  · subst hX
    obtain ⟨a, x, b, ks, rfl, hl, hk, hb, q⟩ := h
    refine ⟨_, (pss_cons (ps_expr (pe_callD D_check_line (hr.mono (by decide)) (by rfl) (pa_cons (pvl 0) pa_nil))) (pss_cons (ps_if (PW.pt (pw_or (pt_not (pt_val (pe_callB call_isi (by rfl) T.b_isinstance (by decide +kernel) (pa_cons (pvl 1) (pa_cons (pe_bltn (v := .ty "dict") (by rfl) T.b_dict boot_dict rfl) pa_nil))))) (pw_or1 (pt_cmpR (opNe hr.units) (pe_callB call_lenD (by rfl) T.b_len PySem.boot_len (pa_cons (pvl 1) pa_nil)) (pe_callB call_lenD (by rfl) T.b_len PySem.boot_len (pa_cons (pvl 0) pa_nil)) (nomark _))))) (pss_one (ps_ret pe_bl)) pss_nil) (pss_cons (ps_lock (ps_for PassesOwn.never rfl (pi_keys (pvl 0)) (pg_name (i := 2) sc_is_state.nd rfl (Or.inl rfl)) (pss_one (ps_if (PW.pt (pw_or (pt_cmp (pc_dnotin (hu_of hr) (pvl 2) (pvl 1))) (pw_or1 (pt_not (pt_val (pe_callD D_is_known_interval (hr.mono (by decide)) (by rfl) (pa_cons (pvl 0) (pa_cons (pvl 2) (pa_cons (pe_dget (hu_of hr) (pvl 1) (pvl 2) (fun _ _ => rfl)) pa_nil))))))))) (pss_one (ps_ret pe_bl)) pss_nil)))) (pss_one (ps_ret pe_bl))))), ?_⟩
    refine y_start (σ' := [some _, some _, none]) (by rfl) ?_
    walk_at "py"
    refine ⟨a, ks, rfl, hl, hk, fun H1 s1 => ?_⟩
    walk_at "py"
    have hb1 := hb.mono s1
    have hl1 := s1 _ _ hl
    have hlen : (lineK ks).length = ks.length := lineK_len ks
    have l2 := hk.len2
    cases hb1 with
    | @no _ s h n =>
      refine r_isi h (by simp) ?_
      rw [show isT s "dict" = false from by cases h <;> first | rfl | exact absurd rfl n]
      walk_at "py"
      exact q _ s1
    | @len d kvs h n =>
      refine r_isi (.dK h) (by simp) ?_
      rw [show isT "dict" "dict" = true from by decide]
      walk_at "py"
      refine ⟨d, _, rfl, h, ?_⟩
      walk_at "py"
      refine ⟨a, _, rfl, hl1, ?_⟩
      walk_at "py"
      rw [hlen]
      refine ite_is (by simpa using fun e => n (by omega)) ?_
      walk_at "py"
      exact q _ s1
    | @dct d kvs bs h n p =>
      refine r_isi (.dK h) (by simp) ?_
      rw [show isT "dict" "dict" = true from by decide]
      walk_at "py"
      refine ⟨d, _, rfl, h, ?_⟩
      walk_at "py"
      refine ⟨a, _, rfl, hl1, ?_⟩
      walk_at "py"
      rw [hlen, n]
      refine ite_no (by simp) ?_
      walk_at "py"
      have key : ∀ (i : Nat) (p : Str × Int), ks[i]? = some p → ∃ b, bs[i]? = some b ∧ IvAt ks a kvs H1 p b := fun i p' e => Paired.get p e
      refine y_lockKeys (fun H2 R r => ⟨_, rfl, r⟩) hl1 (fun od i σ' H' => ∃ v2, σ' = [some (.ref a), some (.ref d), v2] ∧ Same (upd H1 a (.frz od (.dK (lineK ks)))) H' ∧ (bs.take i).all id = true) (fun od => ⟨_, rfl, Same.refl _, rfl⟩) (fun od i σ' H' ⟨_, _, s, _⟩ => s _ _ upd_same) ?_ ?_
      · rintro od i k v σ' H' hi ⟨v2, rfl, s, hall⟩
        obtain ⟨p', hp, e⟩ : ∃ p, ks[i]? = some p ∧ (k, v) = (.inr p.1, .int p.2) := by
          unfold lineK at hi
          rw [List.getElem?_map] at hi
          cases e : ks[i]? with
          | none => rw [e] at hi; cases hi
          | some p => rw [e] at hi; exact ⟨p, rfl, (Option.some.inj hi).symm⟩
        cases e
        obtain ⟨b', hb', hiv⟩ := key i p' hp
        have rd : Rd (upd H1 a (.frz od (.dK (lineK ks)))) d (.dK kvs) := by
          by_cases e : d = a
          · subst e
            rw [hl1] at h
            cases h
            exact .inr ⟨od, upd_same⟩
          · exact .inl (by rw [upd_ne e]; exact h)
        have rd' : Rd H' d (.dK kvs) := rd.imp (s _ _) fun ⟨_, r⟩ => ⟨_, s _ _ r⟩
        have ra : Rd H' a (.dK (lineK ks)) := .inr ⟨od, s _ _ upd_same⟩
        walk_at "py"
        refine ⟨d, _, rfl, Or.inl ⟨_, Sum.inr p'.1, rd', rfl, rfl⟩, ?_⟩
        have fin : bs.all id = false → Q (.bl false) (upd H' a (.dK (lineK ks))) := fun e => by
          rw [e] at q
          exact q _ (s1.trans (same_lock hl1 s))
        have stepT : (bs.take i).all id = true → b' = true → (bs.take (i + 1)).all id = true := fun h1 h2 => by
          rw [List.take_add_one, hb', List.all_append, h1, h2]; rfl
        have isF : b' = false → bs.all id = false := fun e => List.all_eq_false.mpr ⟨b', List.mem_of_getElem? hb', by rw [e]; decide⟩
        rcases hiv with ⟨e, eb⟩ | ⟨y, e, iv⟩
        · rw [e]
          walk_at "py"
          exact ⟨s _ _ upd_same, fin (isF eb)⟩
        · rw [e]
          walk_at "py"
          refine ite_no rfl ?_
          walk_at "py"
          refine ⟨d, y, rfl, Or.inl ⟨_, Sum.inr p'.1, rd', rfl, e.symm⟩, ?_⟩
          walk_at "py"
          refine ⟨a, p'.1, p'.2, y, b', ks, rfl, ra, valV_line_some (List.mem_of_getElem? hp) hk.ndn, (iv.lock hl1).mono s, fun H3 s3 => ?_⟩
          cases b' with
          | false =>
            walk_at "py"
            refine ⟨s3 _ _ (s _ _ upd_same), ?_⟩
            have e2 := isF rfl
            rw [e2] at q
            exact q _ (s1.trans (same_lock hl1 (s.trans s3)))
          | true =>
            walk_at "py"
            exact ⟨_, rfl, s.trans s3, stepT hall rfl⟩
      · rintro od σ' H' ⟨v2, rfl, s, hall⟩
        have lb : bs.length = ks.length := p.length.symm
        rw [hlen, ← lb, List.take_of_length_le (Nat.le_refl _)] at hall
        walk_at "py"
        rw [hall] at q
        exact q _ (s1.trans (same_lock hl1 s))
def sp_in_order : Sp := fun vs H Q _ => ∃ (F : Hp) (L : List (Addr × HO)) (a : Addr) (ks : List (Str × Int)), vs = [.ref a] ∧ Led H F L ∧ F a = some (.dK (lineK ks)) ∧ LineOk ks ∧
  ∀ os l F' H', byPos ks os → Same F F' → F' l = some (.lst (os.map fun p => V.str p.1)) → Led H' F' L → Q (.ref l) H'
theorem ok_in_order (T : Tx mg) (D : At K mg "in_order" s_in_order ["line"]) (D_check_line : Dfn P w K mg base "check_line" ["line"] 4 (sp_check_line )) : Dfn P w K mg base "in_order" ["line"] 5 (sp_in_order ) := by
  refine dfn D sc_in_order (fun vs H Q E h => ?_) (fun X f cdv A outer s H vs Q E hX hr h => ?_)
  · obtain ⟨F, L, a, ks, rfl, D0, hf, hk, q⟩ := h
    rfl
  · subst hX
    obtain ⟨F, L, a, ks, rfl, D0, hf, hk, q⟩ := h
    refine ⟨_, (pss_cons (ps_expr (pe_callD D_check_line (hr.mono (by decide)) (by rfl) (pa_cons (pvl 0) pa_nil))) (pss_cons (ps_set (i := 1) sc_in_order.nd rfl (Or.inl rfl) (pe_callB cr_sortedF (by rfl) T.b_sorted (by decide +kernel) (pa_cons (pe_lock (pe_lc (own := [("host", 3), ("position", 4)])  (tt := tYes) rfl sc_in_order.nd (pi_items (pvl 0)) (blkOk_by (own := [("host", 3), ("position", 4)]) (N := nn_in_order) (sc := defScope s_in_order) (by decide +kernel)) (blk_g fun _ _ _ _ _ => (pg_tup rfl (pgs_cons (pg_name (i := 3) sc_in_order.nd rfl (Or.inl rfl)) (pgs_cons (pg_name (i := 4) sc_in_order.nd rfl (Or.inl rfl)) pgs_nil)))) (fun _ _ _ _ _ => pts_nil) (blk_e fun _ _ _ _ _ => (pe_tup (pa_cons (pvl 4) (pa_cons (pvl 3) pa_nil)))))) pa_nil))) (pss_one (ps_ret (pe_lc (own := [("place", 2)]) (g := gName 2) (tt := tYes) rfl sc_in_order.nd (pi_list (pvl 1)) (blkOk_by (own := [("place", 2)]) (N := nn_in_order) (sc := defScope s_in_order) (by decide +kernel)) (fun _ _ _ _ _ => (pg_name (i := 2) sc_in_order.nd rfl (Or.inl rfl))) (fun _ _ _ _ _ => pts_nil) (blk_e fun _ _ _ _ _ => (pe_ix ix_seq (pvl 2) pe_int (fun _ _ => rfl)))))))), ?_⟩
    refine y_start (σ' := [some _, none, none, none, none]) (by rfl) ?_
    have l2 := hk.len2
    walk_at "py"
    refine ⟨a, ks, rfl, D0.frz hf, hk, fun H1 s1 => ?_⟩
    have D1 := D0.after s1
    walk_at "py"
    refine lc_lockItems D1 hf (by rw [lineK_len]; omega) (fun i acc F' => ∃ ts, acc = ts.map V.ref ∧ IsAt F' ts (ks.take i)) (fun _ => ⟨[], rfl, .nil⟩) (fun H1 R r => y_var rfl r) ?_ ?_ ?_ ?_
    rotate_left
    · rintro i acc F1 F2 ⟨ts, e, p⟩ s
      exact ⟨ts, e, L2.Paired.mapP p fun _ _ h => s _ _ h⟩
    · rintro od acc F1 F2 ⟨ts, e, p⟩ hfa up
      exact ⟨ts, e, L2.Paired.mapP p fun t _ h => up t _ (fun z => by rw [z, hfa] at h; cases h) h⟩
    rotate_left
    · rintro od Kp Sk i acc F2 H2 T Dl k v hi hfa ⟨ts, rfl, pt⟩ D2 hT ha kp
      obtain ⟨p, hp, e⟩ := line_at hi
      cases e
      have et : ks.take (i + 1) = ks.take i ++ [p] := by rw [List.take_add_one, hp]; rfl
      refine y_allG fun _ _ _ _ _ => ?_
      refine y_gtup (SqT.of (D2.frz hT)) rfl ?_
      refine y_gcons ?_
      walk_at "py"
      refine y_gcons ?_
      walk_at "py"
      refine y_gnil ?_
      refine ⟨rfl, ?_⟩
      walk_at "py"
      refine ⟨by show 2 ≤ sizeLine; decide, ?_⟩
      intro t nt
      generalize eh : upd H2 t _ = H3
      obtain ⟨F3, s3, ht, -, D3⟩ := D2.nf nt eh
      refine kp (.ref t) F3 H3 s3 D3 ⟨ts ++ [t], by rw [List.map_append]; rfl, ?_⟩
      unfold IsAt
      rw [et]
      exact Paired.app (L2.Paired.mapP pt fun _ _ h => s3 _ _ h) (.cons ht .nil)
    · rintro acc Dl F2 H2 s2 ⟨ts, rfl, pt⟩ D2 ha
      rw [lineK_len, List.take_of_length_le (Nat.le_refl _)] at pt
      walk_at "py"
      refine ⟨Dl, _, kOf F2, rfl, SqL.of (D2.get 0), (fun x hx => let ⟨t, h1, h2, _⟩ := kOf_mem pt x hx; ⟨t, h1, D2.frz h2⟩), (fun x hx y hy e => by
        obtain ⟨_, _, _, h1⟩ := kOf_mem pt x hx
        obtain ⟨_, _, _, h2⟩ := kOf_mem pt y hy
        exact congrArg Prod.fst (pos_inj hk.ndp h1 h2 e)), fun ys p perm srt np => ?_⟩
      have bp := sorted_byPos hk.ndp pt perm srt
      have lys : ys.length ≤ 40 := by have h1 := bp.1.length_eq; rw [List.length_map] at h1; omega
      have yat : ∀ y ∈ ys, ∃ t, y = V.ref t ∧ F2 t = some (.tup [.int (kOf F2 y).1, .str (kOf F2 y).2]) := fun y hy => let ⟨t, h1, h2, _⟩ := kOf_mem pt y (perm.mem_iff.mp hy); ⟨t, h1, h2⟩
      generalize eh : upd H2 p _ = H3
      obtain ⟨F3, s3, hp, -, D3⟩ := D2.drop.nf np eh
      clear D2 eh np
      walk_at "py"
      refine ⟨p, rfl, ⟨_, SqL.of (D3.frz hp)⟩, ?_⟩
      refine lc_led D3 (walk_list (xs := ys)) (by omega) (fun j acc F' L' => Same F3 F' ∧ L' = L ∧ acc = (ys.take j).map fun y => V.str (kOf F2 y).2) ⟨Same.refl _, rfl, rfl⟩ (fun j acc F' L' H' Dl z D => SqL.of (D.frz (z.1 _ _ hp))) ?_ ?_
      · rintro Kp Sk j acc F4 L4 H4 Dl x hj hx ⟨s4, rfl, rfl⟩ D4 ha kp sk
        obtain ⟨t, rfl, ht⟩ := yat x (List.mem_of_getElem? hx)
        walk_at "py1"
        refine ⟨rfl, ?_⟩
        walk_at "py"
        refine r_ixT (SqT.of (D4.frz (s4 _ _ (s3 _ _ ht)))) (at_nat (k := 1) rfl) ?_
        exact kp _ F4 _ H4 D4 ⟨s4, rfl, by rw [List.take_add_one, hx, List.map_append]; rfl⟩
      rintro acc F4 L4 H4 l ⟨s4, rfl, rfl⟩ D4 ha
      walk_at "py"
      obtain ⟨F5, s5, h5, D5⟩ := D4.froz
      refine q _ l F5 H4 bp (s2.trans (s3.trans (s4.trans s5))) ?_ D5
      rw [h5 _ List.mem_cons_self, List.take_of_length_le (Nat.le_refl _), List.map_map]; rfl
theorem ar_oV {F : Hp} : ∀ o : Option Int, ∃ s, Ar F (oV o) s
  | none => ⟨_, .non⟩
  | some i => ⟨_, .int i⟩
theorem oV_ref {a : Addr} : ∀ o : Option Int, oV o ≠ .ref a
  | none => nofun
  | some i => nofun
theorem isEnd_in {ks : List (Str × Int)} {i : Int} (h : i ∈ ks.map (·.2)) : isEnd ks (.int i) = true := by
  obtain ⟨p, hp, e⟩ := List.mem_map.mp h
  exact List.any_eq_true.mpr ⟨p, hp, by rw [e]; exact beq_self_eq_true i⟩
theorem iv_of {F : Hp} {ks : List (Str × Int)} {o : Int} {a : Addr} {v : V} : ∀ {s : Span}, spanOk ks o s → SpanAt F v s → IvB ks o a F v true
  | none, _, e => by
    rw [show v = V.non from e]; exact .non
  | some (l, h), ⟨k1, k2⟩, ⟨t, e, ht⟩ => by
    subst e
    obtain ⟨_, al⟩ := ar_oV (F := F) l
    obtain ⟨_, ah⟩ := ar_oV (F := F) h
    have e1 : okLow ks o (oV l) = true := by
      cases l with
      | none => rfl
      | some i =>
        obtain ⟨q1, q2⟩ := k1 i rfl
        show (isEnd ks (.int i) && decide (i ≤ o)) = true
        rw [isEnd_in q1, decide_eq_true q2]; rfl
    have e2 : okHigh ks o (oV h) = true := by
      cases h with
      | none => rfl
      | some i =>
        obtain ⟨q1, q2⟩ := k2 i rfl
        show (isEnd ks (.int i) && decide (o ≤ i)) = true
        rw [isEnd_in q1, decide_eq_true q2]; rfl
    have := IvB.pair (ks := ks) (o := o) (a := a) ht al ah (oV_ref l) (oV_ref h)
    rw [e1, e2] at this
    exact this
theorem stB_of {F : Hp} {ks : List (Str × Int)} {a d : Addr} {sp : Str → Span} (nd : (ks.map (·.1)).Nodup) (h : StAt F ks d sp) (ok : ∀ p ∈ ks, spanOk ks p.2 (sp p.1)) : StB ks a F (.ref d) true := by
  obtain ⟨es, h1, h2, h3⟩ := stAt_val h nd
  have all : ∀ qs : List (Str × Int), (∀ p ∈ qs, p ∈ ks) → Paired (IvAt ks a (strK es) F) qs (qs.map fun _ => true) := fun qs => by
    induction qs with
    | nil => intro _; exact .nil
    | cons p qs ih =>
      intro hq
      obtain ⟨v, e, hv⟩ := h3 p.1 (List.mem_map.mpr ⟨p, hq p List.mem_cons_self, rfl⟩)
      exact .cons (.inr ⟨v, e, iv_of (ok p (hq p List.mem_cons_self)) hv⟩) (ih fun x hx => hq x (List.mem_cons_of_mem _ hx))
  have := StB.dct (a := a) h1 (by rw [strK_len, h2]) (all ks fun _ h => h)
  rw [show (ks.map fun _ => true).all id = true from by simp] at this
  exact this
def sp_check_state : Sp := fun vs H Q _ => ∃ (a d : Addr) (ks : List (Str × Int)), vs = [.ref a, .ref d] ∧ H a = some (.dK (lineK ks)) ∧ LineOk ks ∧ StB ks a H (.ref d) true ∧ ∀ H', Same H H' → Q .non H'
theorem ok_check_state (T : Tx mg) (D : At K mg "check_state" s_check_state ["line", "state"]) (D_is_state : Dfn P w K mg base "is_state" ["line", "value"] 5 (sp_is_state )) : Dfn P w K mg base "check_state" ["line", "state"] 6 (sp_check_state ) := by
  refine dfn D sc_check_state (fun vs H Q E h => ?_) (fun X f cdv A outer s H vs Q E hX hr h => ?_)
  · obtain ⟨a, d, ks, rfl, hl, hk, hb, q⟩ := h
    rfl
  · subst hX
    obtain ⟨a, d, ks, rfl, hl, hk, hb, q⟩ := h
    refine ⟨_, (pss_one (ps_if (pt_not (pt_val (pe_callD D_is_state (hr.mono (by decide)) (by rfl) (pa_cons (pvl 0) (pa_cons (pvl 1) pa_nil))))) (pss_one ps_never) pss_nil)), ?_⟩
    refine y_start (σ' := [some _, some _]) (by rfl) ?_
    walk_at "py"
    refine ⟨a, .ref d, true, ks, rfl, hl, hk, hb, fun H1 s1 => ?_⟩
    walk_at "py"
    exact q _ s1
def sp_lacking : Sp := fun vs H Q _ => ∃ (F : Hp) (L : List (Addr × HO)) (a d : Addr) (ks : List (Str × Int)) (sp : Str → Span), vs = [.ref a, .ref d] ∧ Led H F L ∧ F a = some (.dK (lineK ks)) ∧ LineOk ks ∧ StAt F ks d sp ∧ (∀ p ∈ ks, spanOk ks p.2 (sp p.1)) ∧
  ∀ os l F' H', byPos ks os → Same F F' → Led H' F' ((l, .lst ((lackO sp os).map V.str)) :: L) → Q (.ref l) H'
theorem ok_lacking (T : Tx mg) (D : At K mg "lacking" s_lacking ["line", "state"]) (D_check_state : Dfn P w K mg base "check_state" ["line", "state"] 6 (sp_check_state )) (D_covers : Dfn P w K mg base "covers" ["interval", "first", "last"] 2 (sp_covers )) (D_in_order : Dfn P w K mg base "in_order" ["line"] 5 (sp_in_order )) : Dfn P w K mg base "lacking" ["line", "state"] 7 (sp_lacking ) := by
  refine dfn D sc_lacking (fun vs H Q E h => ?_) (fun X f cdv A outer s H vs Q E hX hr h => ?_)
  · obtain ⟨F, L, a, d, ks, sp, rfl, D0, hf, hk, hs, ok, q⟩ := h
    rfl
  · subst hX
    obtain ⟨F, L, a, d, ks, sp, rfl, D0, hf, hk, hs, ok, q⟩ := h
    refine ⟨_, (pss_cons (ps_expr (pe_callD D_check_state (hr.mono (by decide)) (by rfl) (pa_cons (pvl 0) (pa_cons (pvc 1) pa_nil)))) (pss_cons (ps_set (i := 2) sc_lacking.nd rfl (Or.inl rfl) (pe_callD D_in_order (hr.mono (by decide)) (by rfl) (pa_cons (pvl 0) pa_nil))) (pss_cons (ps_if (pt_cmpR (opEq hr.units) (pe_callB call_len (by rfl) T.b_len PySem.boot_len (pa_cons (pvl 2) pa_nil)) pe_int (nomark _)) (pss_one (ps_ret (pe_lst pa_nil))) pss_nil) (pss_cons (ps_set (i := 3) sc_lacking.nd rfl (Or.inr rfl) (pe_dget (hu_of hr) (pvl 0) (pe_ix ix_seq (pvl 2) pe_int (fun _ _ => rfl)) (fun _ _ => rfl))) (pss_cons (ps_set (i := 4) sc_lacking.nd rfl (Or.inr rfl) (pe_dget (hu_of hr) (pvl 0) (pe_ix ix_seq (pvl 2) (pe_un un_neg pe_int) (fun _ _ => rfl)) (fun _ _ => rfl))) (pss_one (ps_ret (pe_lc (own := [("host", 5)]) (g := gName 5)  rfl sc_lacking.nd (pi_list (pvl 2)) (blkOk_by (own := [("host", 5)]) (N := nn_lacking) (sc := defScope s_lacking) (by decide +kernel)) (fun _ _ _ _ _ => (pg_name (i := 5) sc_lacking.nd rfl (Or.inl rfl))) (blk_t fun _ _ _ _ _ => (pts_one (pt_not (pt_val (pe_callD D_covers (hr.mono (by decide)) (by rfl) (pa_cons (pe_dget (hu_of hr) (pvc 1) (pvl 5) (fun _ _ => rfl)) (pa_cons (pvc 3) (pa_cons (pvc 4) pa_nil)))))))) (blk_e fun _ _ _ _ _ => (pvl 5)))))))))), ?_⟩
    refine y_start (σ' := [some _, some _, none, none, none, none]) (by rfl) ?_
    have l1 := hk.len1
    have l2 := hk.len2
    walk_at "py"
    refine ⟨a, d, ks, rfl, D0.frz hf, hk, (stB_of hk.ndn hs ok).mono D0.ext, fun H1 s1 => ?_⟩
    have D1 := D0.after s1
    walk_at "py"
    refine ⟨F, L, a, ks, rfl, D1, hf, hk, fun os l F2 H2 bp s2 hl D2 => ?_⟩
    have lo := bp.1.length_eq
    walk_at "py"
    refine ⟨_, _, rfl, Or.inl ⟨_, SqL.of (D2.frz hl), rfl⟩, ?_⟩
    walk_at "py"
    rw [List.length_map]
    by_cases h1 : os.length = 1
    · refine ite_is (decide_eq_true (by rw [h1]; rfl)) ?_
      walk_at "py"
      refine ⟨by show 0 ≤ sizeLine; decide, ?_⟩
      intro l' nl
      generalize eh : upd H2 l' _ = H3
      have D3 := D2.nl nl eh
      refine q os l' F2 H3 bp s2 ?_
      unfold lackO
      rw [if_pos h1]
      exact D3
    refine ite_no (decide_eq_false fun e => h1 (by injection e with e; omega)) ?_
    have hlk : lackO sp os = lackN sp os ((os.head?.map (·.2)).getD 0) ((os.getLast?.map (·.2)).getD 0) := if_neg h1
    obtain ⟨o1, h0⟩ : ∃ z, os[0]? = some z := ⟨_, List.getElem?_eq_getElem (by omega)⟩
    have m0 : o1 ∈ ks := bp.1.mem_iff.mp (List.mem_of_getElem? h0)
    obtain ⟨oi, ol, eos⟩ : ∃ yi yl, os = yi ++ [yl] := ⟨_, _, (List.dropLast_concat_getLast (l := os) (by intro e; rw [e] at lo; simp at lo; omega)).symm⟩
    have ml : ol ∈ ks := bp.1.mem_iff.mp (by rw [eos]; simp)
    rw [show (os.head?.map (·.2)).getD 0 = o1.2 from by rw [List.head?_eq_getElem?, h0]; rfl, show (os.getLast?.map (·.2)).getD 0 = ol.2 from by rw [eos]; simp] at hlk
    walk_at "py"
    refine r_ixL (SqL.of (D2.frz hl)) (at_nat (k := 0) (c := V.str o1.1) (by rw [List.getElem?_map, h0]; rfl)) ?_
    refine ⟨a, .int o1.2, rfl, Or.inl ⟨_, .inr o1.1, .inl (D2.frz (s2 _ _ hf)), rfl, (valV_line_some m0 hk.ndn).symm⟩, ?_⟩
    walk_at "py"
    refine r_ixL (SqL.of (D2.frz hl)) (by rw [eos, List.map_append]; exact atI_last _ (V.str ol.1)) ?_
    refine ⟨a, .int ol.2, rfl, Or.inl ⟨_, .inr ol.1, .inl (D2.frz (s2 _ _ hf)), rfl, (valV_line_some ml hk.ndn).symm⟩, ?_⟩
    walk_at "py"
    obtain ⟨es, hd, les, hval⟩ := stAt_val (hs.mono s2) hk.ndn
    refine ⟨l, rfl, ⟨_, SqL.of (D2.frz hl)⟩, ?_⟩
    refine lc_led D2 (walk_list (xs := os.map fun p => V.str p.1)) (by rw [List.length_map]; omega) (fun j acc F' L' => F' = F2 ∧ L' = L ∧ acc = (lackN sp (os.take j) o1.2 ol.2).map V.str) ⟨rfl, rfl, rfl⟩ (fun j acc F' L' H' Dl z D => SqL.of (D.frz (by rw [z.1]; exact hl))) ?_ ?_
    · rintro Kp Sk j acc F4 L4 H4 Dl x hj hx ⟨rfl, rfl, rfl⟩ D4 ha kp sk
      obtain ⟨p, hp, e⟩ : ∃ p, os[j]? = some p ∧ x = V.str p.1 := by
        rw [List.getElem?_map] at hx
        cases e : os[j]? with
        | none => rw [e] at hx; cases hx
        | some p => rw [e] at hx; exact ⟨p, rfl, (Option.some.inj hx).symm⟩
      subst e
      have pk : p ∈ ks := bp.1.mem_iff.mp (List.mem_of_getElem? hp)
      obtain ⟨v, ev, hv⟩ := hval p.1 (List.mem_map.mpr ⟨p, pk, rfl⟩)
      have et : os.take (j + 1) = os.take j ++ [p] := by rw [List.take_add_one, hp]; rfl
      walk_at "py1"
      refine ⟨rfl, ?_⟩
      walk_at "py"
      refine ⟨d, v, rfl, Or.inl ⟨_, .inr p.1, .inl (D4.frz hd), rfl, ev.symm⟩, ?_⟩
      walk_at "py"
      refine ⟨v, o1.2, ol.2, sp p.1, rfl, hv.mono D4.ext, ?_⟩
      walk_at "py"
      cases hc : inSpan (sp p.1) o1.2 && inSpan (sp p.1) ol.2 with
      | true =>
        walk_at "py"
        refine sk F4 _ H4 D4 ⟨rfl, rfl, ?_⟩
        unfold lackN
        rw [et, List.filter_append, List.filter_cons_of_neg (by rw [hc]; decide)]
        simp
      | false =>
        walk_at "py"
        refine kp _ F4 _ H4 D4 ⟨rfl, rfl, ?_⟩
        unfold lackN
        rw [et, List.filter_append, List.map_append, List.map_append, List.filter_cons_of_pos (by rw [hc]; rfl)]; rfl
    rintro acc F4 L4 H4 l' ⟨rfl, rfl, rfl⟩ D4 ha
    rw [List.length_map, List.take_of_length_le (Nat.le_refl _)] at D4
    refine q os l' F4 H4 bp s2 ?_
    rw [hlk]
    exact D4
def sp_is_quiet : Sp := fun vs H Q _ => ∃ (F : Hp) (L : List (Addr × HO)) (a d : Addr) (ks : List (Str × Int)) (sp : Str → Span), vs = [.ref a, .ref d] ∧ Led H F L ∧ F a = some (.dK (lineK ks)) ∧ LineOk ks ∧ StAt F ks d sp ∧ (∀ p ∈ ks, spanOk ks p.2 (sp p.1)) ∧
  ∀ os F' H', byPos ks os → Same F F' → Led H' F' L → Q (.bl (lackO sp os).isEmpty) H'
theorem ok_is_quiet (T : Tx mg) (D : At K mg "is_quiet" s_is_quiet ["line", "state"]) (D_lacking : Dfn P w K mg base "lacking" ["line", "state"] 7 (sp_lacking )) : Dfn P w K mg base "is_quiet" ["line", "state"] 8 (sp_is_quiet ) := by
  refine dfn D sc_is_quiet (fun vs H Q E h => ?_) (fun X f cdv A outer s H vs Q E hX hr h => ?_)
  · obtain ⟨F, L, a, d, ks, sp, rfl, D0, hf, hk, hs, ok, q⟩ := h
    rfl
  · subst hX
    obtain ⟨F, L, a, d, ks, sp, rfl, D0, hf, hk, hs, ok, q⟩ := h
    refine ⟨_, (pss_one (ps_ret (pe_cmpR (opEq hr.units) (pe_callB call_len (by rfl) T.b_len PySem.boot_len (pa_cons (pe_callD D_lacking (hr.mono (by decide)) (by rfl) (pa_cons (pvl 0) (pa_cons (pvl 1) pa_nil))) pa_nil)) pe_int (nomark _)))), ?_⟩
    refine y_start (σ' := [some _, some _]) (by rfl) ?_
    walk_at "py"
    refine ⟨F, L, a, d, ks, sp, rfl, D0, hf, hk, hs, ok, fun os l F2 H2 bp s2 D2 => ?_⟩
    walk_at "py"
    refine ⟨_, _, rfl, Or.inl ⟨_, SqL.of (D2.get 0), rfl⟩, ?_⟩
    walk_at "py"
    have e : decide (V.int (((lackO sp os).map V.str).length : Int) = V.int 0) = (lackO sp os).isEmpty := by
      cases lackO sp os with
      | nil => rfl
      | cons x xs => exact decide_eq_false fun z => by injection z with z; simp at z; omega
    rw [e]
    exact q os F2 H2 bp s2 D2.drop
def sp_law (K : PySem.W.Frag) : Sp := fun vs H Q _ => ∃ (a : Addr) (ns : List Int), vs = [.ref a] ∧ SqL K H a (ns.map V.int) ∧ ns.length ≤ 63 ∧ ∀ H', Q (.bl true) H'
theorem ok_law (T : Tx mg) (hm : ∃ o, base.get? sysModules = some o) (D : At K mg "law" s_law ["script"]) (D__law_due : Dfn P w K mg base "_law_due" ["net", "spans"] 3 (sp__law_due )) (D__law_net : Dfn P w K mg base "_law_net" ["reel", "most"] 2 (sp__law_net )) (D__law_none : Dfn P w K mg base "_law_none" ["net"] 1 (sp__law_none )) (D__law_reel : Dfn P w K mg base "_law_reel" ["script"] 1 (sp__law_reel K)) (D__law_spans : Dfn P w K mg base "_law_spans" ["reel", "net"] 2 (sp__law_spans )) (D__law_wide : Dfn P w K mg base "_law_wide" ["reel", "net", "spans"] 2 (sp__law_wide )) (D_is_quiet : Dfn P w K mg base "is_quiet" ["line", "state"] 8 (sp_is_quiet )) (D_lacking : Dfn P w K mg base "lacking" ["line", "state"] 7 (sp_lacking )) : DfnG P w K mg base "law" ["script"] 9 (sp_law K) := by
  refine dfnG hm D sc_law (fun vs H Q E h => ?_) (fun X G f cdv A outer s H vs Q E hX hr h => ?_)
  · obtain ⟨a, ns, rfl, hs, hl, q⟩ := h
    rfl
  · subst hX
    obtain ⟨a, ns, rfl, hs, hl, q⟩ := h
    refine ⟨_, (pss_cons (ps_set (i := 1) sc_law.nd rfl (Or.inl rfl) (pe_callD D__law_reel (hr.mono (by decide)) (by rfl) (pa_cons (pvl 0) pa_nil))) (pss_cons (ps_for PassesOwn.never rfl (pi_range1 (by rfl) T.b_range (pa_cons (pe_op opAdd pe_int (pe_callB (call_min2 rfl) (by rfl) T.b_min (by decide +kernel) (pa_cons (pe_callB call_len (by rfl) T.b_len PySem.boot_len (pa_cons (pvl 0) pa_nil)) (pa_cons pe_int pa_nil)))) pa_nil)) (pg_name (i := 2) sc_law.nd rfl (Or.inl rfl)) (pss_cons (ps_set (i := 3) sc_law.nd rfl (Or.inl rfl) (pe_callD D__law_net (hr.mono (by decide)) (by rfl) (pa_cons (pvl 1) (pa_cons (pe_ix ix_seq (pe_lst (pa_cons pe_int (pa_cons pe_int pa_nil))) (pe_callTy call_int1 (by rfl) T.b_int boot_int (pa_cons (pe_cmpR (opEq hr.units) (pvl 2) pe_int (nomark _)) pa_nil)) (fun _ _ => rfl)) pa_nil)))) (pss_cons (ps_set (i := 4) sc_law.nd rfl (Or.inl rfl) (pe_callD D__law_spans (hr.mono (by decide)) (by rfl) (pa_cons (pvl 1) (pa_cons (pvl 3) pa_nil)))) (pss_one (ps_for PassesOwn.never rfl (pi_list (pe_lst (pa_cons (pvl 4) (pa_cons (pe_callD D__law_wide (hr.mono (by decide)) (by rfl) (pa_cons (pvl 1) (pa_cons (pvl 3) (pa_cons (pvl 4) pa_nil)))) (pa_cons (pe_callD D__law_wide (hr.mono (by decide)) (by rfl) (pa_cons (pvl 1) (pa_cons (pvl 3) (pa_cons (pvl 4) pa_nil)))) (pa_cons (pe_callD D__law_none (hr.mono (by decide)) (by rfl) (pa_cons (pvl 3) pa_nil)) pa_nil)))))) (pg_name (i := 5) sc_law.nd rfl (Or.inl rfl)) (pss_cons (ps_par (i := 6) (j := 7) (by rfl) sc_law.nd rfl rfl (by decide) rfl rfl (pa_cons (pe_callB (call_reprD G hr.units) (by rfl) T.b_repr (by decide +kernel) (pa_cons (pe_lst (pa_cons (pvl 3) (pa_cons (pvl 5) pa_nil))) pa_nil)) (pa_cons (pe_callD D__law_due (hr.mono (by decide)) (by rfl) (pa_cons (pvl 3) (pa_cons (pvl 5) pa_nil))) pa_nil)) (by rfl)) (pss_cons (ps_set (i := 8) sc_law.nd rfl (Or.inl rfl) (pe_callD D_lacking (hr.mono (by decide)) (by rfl) (pa_cons (pvl 3) (pa_cons (pvl 5) pa_nil)))) (pss_cons (ps_if (PW.pt (pw_or (pt_cmpR (opNe hr.units) (pvl 8) (pvl 7) (nomark _)) (pw_or1 (pt_cmpR (opNe hr.units) (pe_callB call_reprB (by rfl) T.b_repr (by decide +kernel) (pa_cons (pe_callD D_is_quiet (hr.mono (by decide)) (by rfl) (pa_cons (pvl 3) (pa_cons (pvl 5) pa_nil))) pa_nil)) (pe_callB call_reprB (by rfl) T.b_repr (by decide +kernel) (pa_cons (pe_cmpR (opEq hr.units) (pvl 7) (pe_lst pa_nil) (nomark _)) pa_nil)) (nomark _))))) (pss_one (ps_ret pe_bl)) pss_nil) (pss_cons (ps_expr (pe_bm PySem.F.plainAttrs_list PySem.F.slot_list_append PySem.F.type_list_append mt_append (pvl 8) (pa_cons pe_non pa_nil))) (pss_one (ps_if (PW.pt (pw_or (pt_cmpR (opNe hr.units) (pe_callD D_lacking (hr.mono (by decide)) (by rfl) (pa_cons (pvl 3) (pa_cons (pvl 5) pa_nil))) (pvl 7) (nomark _)) (pw_or1 (pt_cmpR (opNe hr.units) (pe_callB (call_reprD G hr.units) (by rfl) T.b_repr (by decide +kernel) (pa_cons (pe_lst (pa_cons (pvl 3) (pa_cons (pvl 5) pa_nil))) pa_nil)) (pvl 6) (nomark _))))) (pss_one (ps_ret pe_bl)) pss_nil))))))))))) (pss_one (ps_ret (pe_and (pe_cmpR opIs (pe_callD D_is_quiet (hr.mono (by decide)) (by rfl) (pa_cons (pe_disp (pps_cons pe_str pe_int pps_nil) (by rfl) (by rfl) (fun z => by cases z) (by decide)) (pa_cons (pe_disp (pps_cons pe_str pe_non pps_nil) (by rfl) (by rfl) (fun z => by cases z) (by decide)) pa_nil))) pe_bl (nomark _)) (pe_one (pe_cmpR (opEq hr.units) (pe_callD D_lacking (hr.mono (by decide)) (by rfl) (pa_cons (pe_disp (pps_cons pe_str pe_int (pps_cons pe_str pe_int pps_nil)) (by rfl) (by rfl) (fun z => by cases z) (by decide)) (pa_cons (pe_disp (pps_cons pe_str (pe_tup (pa_cons pe_int (pa_cons pe_int pa_nil))) (pps_cons pe_str pe_non pps_nil)) (by rfl) (by rfl) (fun z => by cases z) (by decide)) pa_nil))) (pe_lst (pa_cons pe_str pa_nil)) (nomark _)))))))), ?_⟩
    refine y_start (σ' := [some _, none, none, none, none, none, none, none, none]) (by rfl) ?_
    walk_at "py"
    refine ⟨H, [], a, ns, rfl, Led.same0 H, hs, hl, fun r g c R F0 H0 s0 D0 ok0 n0 => ?_⟩
    rw [List.append_nil] at D0
    walk_at "py"
    refine ⟨_, _, rfl, Or.inl ⟨_, D0.seq (s0.seq hs), rfl⟩, ?_⟩
    walk_at "py"
    refine ⟨_, _, rfl, ?_⟩
    walk_at "py"
    rw [List.length_map]
    refine ⟨_, rfl, by split <;> omega, by split <;> omega, ?_⟩
    have hturns : (2 + (if (6 : Int) < (ns.length : Int) then 6 else (ns.length : Int))).toNat ≤ 8 := by split <;> omega
    generalize (2 + (if (6 : Int) < (ns.length : Int) then 6 else (ns.length : Int))).toNat = turns at hturns ⊢
    refine for_any walk_range (fun i σ' H' => ∃ F g R v2 v3 v4 v5 v6 v7 v8, σ' = [some (.ref a), some (.ref r), v2, v3, v4, v5, v6, v7, v8] ∧ Led H' F (rE r g c R ++ []) ∧ RlOk R ∧ R.n ≤ i * 5000)
      ⟨F0, g, R, none, none, none, none, none, none, none, rfl, by rw [List.append_nil]; exact D0, ok0, by omega⟩ (fun _ _ _ _ => trivial) ?_ ?_
    rotate_left
    · rintro σ' H' ⟨F, g, R, v2, v3, v4, v5, v6, v7, v8, rfl, D, ok, hn⟩
      walk_at "py"
      have F_ := F
      refine y_disp1 ?_
      intro x1 np
      generalize eh : upd H' x1 _ = H1
      obtain ⟨F1, s1, h1, -, D1⟩ := D.nf np eh
      clear eh np
      walk_at "py"
      refine y_disp1 ?_
      intro x2 np
      generalize eh : upd H1 x2 _ = H2
      obtain ⟨F2, s2, h2, -, D2⟩ := D1.nf np eh
      clear eh np
      walk_at "py"
      refine ⟨F2, _, x1, x2, [("a", 3)], fun _ => none, rfl, D2, s2 _ _ h1, exA3, ⟨[("a", .non)], h2, List.Perm.refl _, alC rfl alN⟩, fun _ _ => trivial, fun os F3 H3 bp s3 D3 => ?_⟩
      have lo : os.length = 1 := bp.1.length_eq
      rw [show lackO (fun _ => none) os = [] from if_pos lo]
      walk_at "py"
      refine andK_t ?_
      walk_at "py"
      refine y_disp ?_
      intro p np
      refine ⟨upd_same, lineK [("a", 0), ("b", 1)], rfl, by decide, ?_⟩
      rw [show mergeK [] (lineK [("a", 0), ("b", 1)]) = lineK [("a", 0), ("b", 1)] from merge_line [("a", 0), ("b", 1)] [] exAB.ndn, upd_upd]
      generalize eh : upd H3 p _ = H4
      obtain ⟨F4, s4, h4, -, D4⟩ := D3.nf np eh
      clear eh np
      walk_at "py"
      refine y_disp ?_
      intro e np
      generalize eh : upd H4 e _ = H5
      have D5 := D4.nl np eh
      clear eh np
      refine ⟨by show 2 ≤ sizeLine; decide, ?_⟩
      intro t nt
      generalize eh : upd H5 t _ = H6
      obtain ⟨F6, s6, h6, -, D6⟩ := D5.nf nt eh
      clear eh nt
      refine ⟨D6.get 0, strK [("a", .ref t), ("b", .non)], rfl, by show 2 ≤ 15; decide, ?_⟩
      rw [show mergeK [] (strK [("a", .ref t), ("b", .non)]) = strK [("a", .ref t), ("b", .non)] from merge_str [("a", .ref t), ("b", .non)] [] exAB.ndn]
      generalize eh : upd H6 e _ = H7
      have D7 := D6.st 0 eh
      clear eh
      obtain ⟨F8, s8, h8, D8⟩ := Led.froz D7
      walk_at "py"
      refine ⟨F8, _, p, e, [("a", 0), ("b", 1)], spAB, rfl, D8, s8 _ _ (s6 _ _ h4), exAB, ⟨[("a", .ref t), ("b", .non)], h8 _ List.mem_cons_self, List.Perm.refl _, alC ⟨t, rfl, s8 _ _ h6⟩ (alC rfl alN)⟩, okAB, fun os l F9 H9 bp s9 D9 => ?_⟩
      rw [byPos_uniq byAB bp, lackAB] at D9
      walk_at "py"
      refine ⟨by show 1 ≤ sizeLine; decide, ?_⟩
      intro c1 np
      generalize eh : upd H9 c1 _ = H10
      obtain ⟨F10, s10, h10, -, D10⟩ := D9.nf np eh
      refine r_eqD (.lst (SqL.of (D10.get 0)) (dpS ["b"])) (.lst (SqL.of (D10.frz h10)) (dpS ["b"])) (shS _ (by decide)) (shS _ (by decide)) ?_
      rw [eqv_texts, decide_eq_true rfl]
      exact q _
    rintro i x σ' H' hi rfl ⟨F, g, R, v2, v3, v4, v5, v6, v7, v8, rfl, D, ok, hn⟩
    walk_at "py"
    refine ⟨by show 2 ≤ sizeLine; decide, ?_⟩
    intro p np
    generalize eh : upd _ p _ = G1
    have D1 := D.nl np eh
    walk_at "py"
    refine .inr ⟨_, rfl, ?_⟩
    obtain ⟨m, hm1, hm2, em⟩ : ∃ m : Int, 0 < m ∧ m ≤ 40 ∧ atI [V.int 10, V.int 40] (if decide (V.int (0 + (i : Int)) = V.int 1) = true then 1 else 0) = some (V.int m) := by
      split
      · exact ⟨40, by decide, by decide, rfl⟩
      · exact ⟨10, by decide, by decide, rfl⟩
    refine r_ixL (SqL.of (D1.get 0)) em ?_
    have D2 := D1.drop
    clear D1 eh np
    walk_at "py"
    refine ⟨F, [], r, g, c, R, m, rfl, D2, ok, by omega, by omega, by omega, fun an ks g1 R1 F1 H1 okl hpool kl s1 hnet D3 ok1 n1 => ?_⟩
    walk_at "py"
    refine ⟨F1, [], r, g1, c, an, R1, ks, rfl, D3, ok1, hnet, okl, by omega, fun d1 g2 R2 sp1 F2 H2 s2 st1 so1 D4 ok2 n2 => ?_⟩
    walk_at "py"
    refine ⟨F2, [], r, g2, c, an, d1, R2, ks, sp1, rfl, D4, ok2, s2 _ _ hnet, okl, st1, so1, by omega, fun d2 g3 R3 sp2 F3 H3 s3 st2 so2 D5 ok3 n3 => ?_⟩
    walk_at "py"
    refine ⟨F3, [], r, g3, c, an, d1, R3, ks, sp1, rfl, D5, ok3, s3 _ _ (s2 _ _ hnet), okl, st1.mono s3, so1, by omega, fun d3 g4 R4 sp3 F4 H4 s4 st3 so3 D6 ok4 n4 => ?_⟩
    walk_at "py"
    refine ⟨F4, _, an, ks, rfl, D6, s4 _ _ (s3 _ _ (s2 _ _ hnet)), okl, fun d4 F5 H5 s5 st4 D7 => ?_⟩
    walk_at "py"
    refine ⟨by show 4 ≤ sizeLine; decide, ?_⟩
    intro lp np
    generalize eh : upd H5 lp _ = H6
    obtain ⟨F6, s6, hlp, -, D8⟩ := D7.nf np eh
    clear eh np
    have hnet6 : F6 an = some (.dK (lineK ks)) := s6 _ _ (s5 _ _ (s4 _ _ (s3 _ _ (s2 _ _ hnet))))
    have hall : ∀ x ∈ [V.ref d1, V.ref d2, V.ref d3, V.ref d4], ∃ d sp, x = V.ref d ∧ StAt F6 ks d sp ∧ ∀ p ∈ ks, spanOk ks p.2 (sp p.1) :=
      alC ⟨d1, sp1, rfl, st1.mono (s3.trans (s4.trans (s5.trans s6))), so1⟩ (alC ⟨d2, sp2, rfl, st2.mono (s4.trans (s5.trans s6)), so2⟩ (alC ⟨d3, sp3, rfl, st3.mono (s5.trans s6), so3⟩ (alC ⟨d4, _, rfl, st4.mono s6, fun _ _ => trivial⟩ alN)))
    walk_at "py"
    refine ⟨lp, rfl, ⟨_, SqL.of (D8.frz hlp)⟩, ?_⟩
    refine for_any (walk_list (xs := [V.ref d1, V.ref d2, V.ref d3, V.ref d4])) (fun j σ' H' => ∃ F' v5 v6 v7 v8, σ' = [some (.ref a), some (.ref r), some (.int (0 + (i : Int))), some (.ref an), some (.ref d1), v5, v6, v7, v8] ∧ Same F6 F' ∧ Led H' F' (rE r g4 c R4 ++ []))
      ⟨F6, _, _, _, _, rfl, Same.refl _, D8⟩ (fun j σ' H' ⟨_, _, _, _, _, _, s, D⟩ => SqL.of (D.frz (s _ _ hlp))) ?_ ?_
    rotate_left
    · rintro σ' H' ⟨F', v5, v6, v7, v8, rfl, s7, D9⟩
      walk_at "py"
      exact ⟨F', g4, R4, _, _, _, _, _, _, _, rfl, D9, ok4, by omega⟩
    rintro j x σ' H' hj hx ⟨F7, v5, v6, v7, v8, rfl, s7, D9⟩
    obtain ⟨d, sp, rfl, st, so⟩ := hall x (List.mem_of_getElem? hx)
    have st := st.mono s7
    have hnet7 := s7 _ _ hnet6
    clear D2 D3 D4 D5 D6 D7 D8 st1 st2 st3 st4 hall
    obtain ⟨ds, dt, dk⟩ : DxA F7 [V.ref an, V.ref d] 20000 3 := DxA.more (DxA.cons (Dx.more (k' := 3) (Dx.line hnet7 okl) (Nat.le_refl _) (by decide)) (DxA.cons (Dx.more (k' := 3) (Dx.state okl st so) (Nat.le_refl _) (by decide)) DxA.nil)) (by decide) (Nat.le_refl _)
    have dk' := DOk.list dk
    walk_at "py"
    refine ⟨by show 2 ≤ sizeLine; decide, ?_⟩
    intro k1 np
    generalize eh : upd H' k1 _ = H8
    obtain ⟨F8, s8, hk1, -, D10⟩ := D9.nf np eh
    clear eh np
    refine ⟨_, .list ds, rfl, ⟨_, rfl⟩, .lst (D10.frz hk1) (dt.mono (s8.trans D10.ext)), dk'.sh, by have := dk'.dp; omega, dk'.fits (by decide), ?_⟩
    walk_at "py"
    refine ⟨F8, _, an, d, ks, sp, rfl, D10, s8 _ _ hnet7, okl, st.mono s8, fun os l1 F9 H9 bp s9 D11 => ?_⟩
    obtain ⟨F10, s10, h10, D12⟩ := D11.froz
    have hl1 := h10 _ List.mem_cons_self
    clear D11
    have nmd := due_nm (sp := sp) okl bp
    have led := due_len (sp := sp) okl bp
    have eld := lack_due okl bp so
    walk_at "py"
    refine ⟨_, _, rfl, ?_⟩
    simp only [List.set_cons_zero, List.set_cons_succ]
    have sA := s7.trans (s8.trans (s9.trans s10))
    have stA := st.mono (s8.trans (s9.trans s10))
    have hnA := (s10 _ _ (s9 _ _ (s8 _ _ hnet7)))
    walk_at "py"
    refine ⟨F10, _, an, d, ks, sp, rfl, D12, hnA, okl, stA, so, fun os2 l2 F13 H13 bp2 s13 D13 => ?_⟩
    rw [byPos_uniq bp bp2, eld] at D13
    walk_at "py"
    refine r_neD (.lst (SqL.of (D13.get 0)) (dpS _)) (.lst (SqL.of (D13.frz (s13 _ _ hl1))) (dpS _)) (shS _ nmd) (shS _ nmd) ?_
    rw [eqv_texts, decide_eq_true rfl]
    walk_at "py"
    refine ⟨F13, _, an, d, ks, sp, rfl, D13, s13 _ _ hnA, okl, stA.mono s13, so, fun os3 F14 H14 bp3 s14 D14 => ?_⟩
    rw [byPos_uniq bp bp3, eld]
    walk_at "py"
    refine ⟨_, rfl, ?_⟩
    walk_at "py"
    refine ⟨by show 0 ≤ sizeLine; decide, ?_⟩
    intro c1 np
    generalize eh : upd H14 c1 _ = H15
    obtain ⟨F15, s15, h15, -, D15⟩ := D14.nf np eh
    clear eh np
    refine r_eqD (.lst (SqL.of (D15.frz (s15 _ _ (s14 _ _ (s13 _ _ hl1))))) (dpS _)) (.lst (SqL.of (D15.frz h15)) .nil) (shS _ nmd) rfl ?_
    rw [eqv_nil]
    walk_at "py"
    refine ⟨_, rfl, ?_⟩
    rw [show (dS (dueO sp ks os)).isEmpty = (dueO sp ks os).isEmpty from by unfold dS; cases dueO sp ks os <;> rfl]
    refine r_ne rfl ?_
    rw [decide_eq_true rfl]
    walk_at "py"
    refine ⟨Or.inl ⟨rfl, _, SqL.of (D15.get 0)⟩, ?_⟩
    walk_at "py"
    refine ⟨l2, _, _, rfl, rfl, D15.get 0, by rw [List.length_map]; exact lt_line (by omega), ?_⟩
    generalize eh : upd H15 l2 _ = H16
    have D16 := (D15.st 0 eh).drop
    clear eh
    walk_at "py"
    have s15' := s13.trans (s14.trans s15)
    refine ⟨F15, _, an, d, ks, sp, rfl, D16, s15' _ _ hnA, okl, stA.mono s15', so, fun os4 l4 F17 H17 bp4 s17 D17 => ?_⟩
    rw [byPos_uniq bp bp4, eld] at D17
    walk_at "py"
    refine r_neD (.lst (SqL.of (D17.get 0)) (dpS _)) (.lst (SqL.of (D17.frz (s17 _ _ (s15' _ _ hl1)))) (dpS _)) (shS _ nmd) (shS _ nmd) ?_
    rw [eqv_texts, decide_eq_true rfl]
    walk_at "py"
    refine ⟨by show 2 ≤ sizeLine; decide, ?_⟩
    intro k2 np
    generalize eh : upd H17 k2 _ = H18
    obtain ⟨F18, s18, hk2, -, D18⟩ := D17.drop.nf np eh
    clear eh np
    have sF := (s8.trans (s9.trans s10)).trans (s15'.trans (s17.trans s18))
    refine ⟨_, .list ds, rfl, ⟨_, rfl⟩, .lst (D18.frz hk2) (dt.mono (sF.trans D18.ext)), dk'.sh, by have := dk'.dp; omega, dk'.fits (by decide), ?_⟩
    walk_at "py"
    rw [decide_eq_true rfl]
    walk_at "py"
    exact ⟨F18, _, _, _, _, rfl, s7.trans sF, D18⟩
end
theorem all_at {P : Program} {w : World} {K : PySem.W.Frag} {h : Heap} {mg : Str → Option Value} (X : K.In h) (G : h.Ns mainGlobals mg)
    (v_FARTHEST : ∃ t, mg "FARTHEST" = some (.int (1000000000000000000000000000000) t))
    {f0 : Addr} {p0 q0 : Option Addr} {r0 : Array (Option Value)} {t0 u0 v0 x0 y0 z0 : Value}
    (n0 : PySem.W.nsIn K mainGlobals "is_integer" = some (some (.ref f0)))
    (l0 : K.lookup f0 = some ⟨t0, p0, .func (PySem.W.fnOf "is_integer" "is_integer" (defArgs s_is_integer) (defBody s_is_integer) (defScope s_is_integer) .none u0 v0 x0 q0 y0 z0), r0⟩)
    (c0 : PySem.W.codeIn K y0 "is_integer" = true) (k0 : PySem.W.keepIn K (.ref f0) = true)
    {f1 : Addr} {p1 q1 : Option Addr} {r1 : Array (Option Value)} {t1 u1 v1 x1 y1 z1 : Value}
    (n1 : PySem.W.nsIn K mainGlobals "is_name" = some (some (.ref f1)))
    (l1 : K.lookup f1 = some ⟨t1, p1, .func (PySem.W.fnOf "is_name" "is_name" (defArgs s_is_name) (defBody s_is_name) (defScope s_is_name) .none u1 v1 x1 q1 y1 z1), r1⟩)
    (c1 : PySem.W.codeIn K y1 "is_name" = true) (k1 : PySem.W.keepIn K (.ref f1) = true)
    {f2 : Addr} {p2 q2 : Option Addr} {r2 : Array (Option Value)} {t2 u2 v2 x2 y2 z2 : Value}
    (n2 : PySem.W.nsIn K mainGlobals "is_pair" = some (some (.ref f2)))
    (l2 : K.lookup f2 = some ⟨t2, p2, .func (PySem.W.fnOf "is_pair" "is_pair" (defArgs s_is_pair) (defBody s_is_pair) (defScope s_is_pair) .none u2 v2 x2 q2 y2 z2), r2⟩)
    (c2 : PySem.W.codeIn K y2 "is_pair" = true) (k2 : PySem.W.keepIn K (.ref f2) = true)
    {f3 : Addr} {p3 q3 : Option Addr} {r3 : Array (Option Value)} {t3 u3 v3 x3 y3 z3 : Value}
    (n3 : PySem.W.nsIn K mainGlobals "contains" = some (some (.ref f3)))
    (l3 : K.lookup f3 = some ⟨t3, p3, .func (PySem.W.fnOf "contains" "contains" (defArgs s_contains) (defBody s_contains) (defScope s_contains) .none u3 v3 x3 q3 y3 z3), r3⟩)
    (c3 : PySem.W.codeIn K y3 "contains" = true) (k3 : PySem.W.keepIn K (.ref f3) = true)
    {f4 : Addr} {p4 q4 : Option Addr} {r4 : Array (Option Value)} {t4 u4 v4 x4 y4 z4 : Value}
    (n4 : PySem.W.nsIn K mainGlobals "_law_reel" = some (some (.ref f4)))
    (l4 : K.lookup f4 = some ⟨t4, p4, .func (PySem.W.fnOf "_law_reel" "_law_reel" (defArgs s__law_reel) (defBody s__law_reel) (defScope s__law_reel) .none u4 v4 x4 q4 y4 z4), r4⟩)
    (c4 : PySem.W.codeIn K y4 "_law_reel" = true) (k4 : PySem.W.keepIn K (.ref f4) = true)
    {f5 : Addr} {p5 q5 : Option Addr} {r5 : Array (Option Value)} {t5 u5 v5 x5 y5 z5 : Value}
    (n5 : PySem.W.nsIn K mainGlobals "_law_draw" = some (some (.ref f5)))
    (l5 : K.lookup f5 = some ⟨t5, p5, .func (PySem.W.fnOf "_law_draw" "_law_draw" (defArgs s__law_draw) (defBody s__law_draw) (defScope s__law_draw) .none u5 v5 x5 q5 y5 z5), r5⟩)
    (c5 : PySem.W.codeIn K y5 "_law_draw" = true) (k5 : PySem.W.keepIn K (.ref f5) = true)
    {f6 : Addr} {p6 q6 : Option Addr} {r6 : Array (Option Value)} {t6 u6 v6 x6 y6 z6 : Value}
    (n6 : PySem.W.nsIn K mainGlobals "_law_holds" = some (some (.ref f6)))
    (l6 : K.lookup f6 = some ⟨t6, p6, .func (PySem.W.fnOf "_law_holds" "_law_holds" (defArgs s__law_holds) (defBody s__law_holds) (defScope s__law_holds) .none u6 v6 x6 q6 y6 z6), r6⟩)
    (c6 : PySem.W.codeIn K y6 "_law_holds" = true) (k6 : PySem.W.keepIn K (.ref f6) = true)
    {f7 : Addr} {p7 q7 : Option Addr} {r7 : Array (Option Value)} {t7 u7 v7 x7 y7 z7 : Value}
    (n7 : PySem.W.nsIn K mainGlobals "_law_none" = some (some (.ref f7)))
    (l7 : K.lookup f7 = some ⟨t7, p7, .func (PySem.W.fnOf "_law_none" "_law_none" (defArgs s__law_none) (defBody s__law_none) (defScope s__law_none) .none u7 v7 x7 q7 y7 z7), r7⟩)
    (c7 : PySem.W.codeIn K y7 "_law_none" = true) (k7 : PySem.W.keepIn K (.ref f7) = true)
    {f8 : Addr} {p8 q8 : Option Addr} {r8 : Array (Option Value)} {t8 u8 v8 x8 y8 z8 : Value}
    (n8 : PySem.W.nsIn K mainGlobals "is_position" = some (some (.ref f8)))
    (l8 : K.lookup f8 = some ⟨t8, p8, .func (PySem.W.fnOf "is_position" "is_position" (defArgs s_is_position) (defBody s_is_position) (defScope s_is_position) .none u8 v8 x8 q8 y8 z8), r8⟩)
    (c8 : PySem.W.codeIn K y8 "is_position" = true) (k8 : PySem.W.keepIn K (.ref f8) = true)
    {f9 : Addr} {p9 q9 : Option Addr} {r9 : Array (Option Value)} {t9 u9 v9 x9 y9 z9 : Value}
    (n9 : PySem.W.nsIn K mainGlobals "covers" = some (some (.ref f9)))
    (l9 : K.lookup f9 = some ⟨t9, p9, .func (PySem.W.fnOf "covers" "covers" (defArgs s_covers) (defBody s_covers) (defScope s_covers) .none u9 v9 x9 q9 y9 z9), r9⟩)
    (c9 : PySem.W.codeIn K y9 "covers" = true) (k9 : PySem.W.keepIn K (.ref f9) = true)
    {f10 : Addr} {p10 q10 : Option Addr} {r10 : Array (Option Value)} {t10 u10 v10 x10 y10 z10 : Value}
    (n10 : PySem.W.nsIn K mainGlobals "is_end" = some (some (.ref f10)))
    (l10 : K.lookup f10 = some ⟨t10, p10, .func (PySem.W.fnOf "is_end" "is_end" (defArgs s_is_end) (defBody s_is_end) (defScope s_is_end) .none u10 v10 x10 q10 y10 z10), r10⟩)
    (c10 : PySem.W.codeIn K y10 "is_end" = true) (k10 : PySem.W.keepIn K (.ref f10) = true)
    {f11 : Addr} {p11 q11 : Option Addr} {r11 : Array (Option Value)} {t11 u11 v11 x11 y11 z11 : Value}
    (n11 : PySem.W.nsIn K mainGlobals "_law_net" = some (some (.ref f11)))
    (l11 : K.lookup f11 = some ⟨t11, p11, .func (PySem.W.fnOf "_law_net" "_law_net" (defArgs s__law_net) (defBody s__law_net) (defScope s__law_net) .none u11 v11 x11 q11 y11 z11), r11⟩)
    (c11 : PySem.W.codeIn K y11 "_law_net" = true) (k11 : PySem.W.keepIn K (.ref f11) = true)
    {f12 : Addr} {p12 q12 : Option Addr} {r12 : Array (Option Value)} {t12 u12 v12 x12 y12 z12 : Value}
    (n12 : PySem.W.nsIn K mainGlobals "_law_reach" = some (some (.ref f12)))
    (l12 : K.lookup f12 = some ⟨t12, p12, .func (PySem.W.fnOf "_law_reach" "_law_reach" (defArgs s__law_reach) (defBody s__law_reach) (defScope s__law_reach) .none u12 v12 x12 q12 y12 z12), r12⟩)
    (c12 : PySem.W.codeIn K y12 "_law_reach" = true) (k12 : PySem.W.keepIn K (.ref f12) = true)
    {f13 : Addr} {p13 q13 : Option Addr} {r13 : Array (Option Value)} {t13 u13 v13 x13 y13 z13 : Value}
    (n13 : PySem.W.nsIn K mainGlobals "_law_spans" = some (some (.ref f13)))
    (l13 : K.lookup f13 = some ⟨t13, p13, .func (PySem.W.fnOf "_law_spans" "_law_spans" (defArgs s__law_spans) (defBody s__law_spans) (defScope s__law_spans) .none u13 v13 x13 q13 y13 z13), r13⟩)
    (c13 : PySem.W.codeIn K y13 "_law_spans" = true) (k13 : PySem.W.keepIn K (.ref f13) = true)
    {f14 : Addr} {p14 q14 : Option Addr} {r14 : Array (Option Value)} {t14 u14 v14 x14 y14 z14 : Value}
    (n14 : PySem.W.nsIn K mainGlobals "_law_wide" = some (some (.ref f14)))
    (l14 : K.lookup f14 = some ⟨t14, p14, .func (PySem.W.fnOf "_law_wide" "_law_wide" (defArgs s__law_wide) (defBody s__law_wide) (defScope s__law_wide) .none u14 v14 x14 q14 y14 z14), r14⟩)
    (c14 : PySem.W.codeIn K y14 "_law_wide" = true) (k14 : PySem.W.keepIn K (.ref f14) = true)
    {f15 : Addr} {p15 q15 : Option Addr} {r15 : Array (Option Value)} {t15 u15 v15 x15 y15 z15 : Value}
    (n15 : PySem.W.nsIn K mainGlobals "is_line" = some (some (.ref f15)))
    (l15 : K.lookup f15 = some ⟨t15, p15, .func (PySem.W.fnOf "is_line" "is_line" (defArgs s_is_line) (defBody s_is_line) (defScope s_is_line) .none u15 v15 x15 q15 y15 z15), r15⟩)
    (c15 : PySem.W.codeIn K y15 "is_line" = true) (k15 : PySem.W.keepIn K (.ref f15) = true)
    {f16 : Addr} {p16 q16 : Option Addr} {r16 : Array (Option Value)} {t16 u16 v16 x16 y16 z16 : Value}
    (n16 : PySem.W.nsIn K mainGlobals "is_known_interval" = some (some (.ref f16)))
    (l16 : K.lookup f16 = some ⟨t16, p16, .func (PySem.W.fnOf "is_known_interval" "is_known_interval" (defArgs s_is_known_interval) (defBody s_is_known_interval) (defScope s_is_known_interval) .none u16 v16 x16 q16 y16 z16), r16⟩)
    (c16 : PySem.W.codeIn K y16 "is_known_interval" = true) (k16 : PySem.W.keepIn K (.ref f16) = true)
    {f17 : Addr} {p17 q17 : Option Addr} {r17 : Array (Option Value)} {t17 u17 v17 x17 y17 z17 : Value}
    (n17 : PySem.W.nsIn K mainGlobals "_law_due" = some (some (.ref f17)))
    (l17 : K.lookup f17 = some ⟨t17, p17, .func (PySem.W.fnOf "_law_due" "_law_due" (defArgs s__law_due) (defBody s__law_due) (defScope s__law_due) .none u17 v17 x17 q17 y17 z17), r17⟩)
    (c17 : PySem.W.codeIn K y17 "_law_due" = true) (k17 : PySem.W.keepIn K (.ref f17) = true)
    {f18 : Addr} {p18 q18 : Option Addr} {r18 : Array (Option Value)} {t18 u18 v18 x18 y18 z18 : Value}
    (n18 : PySem.W.nsIn K mainGlobals "check_line" = some (some (.ref f18)))
    (l18 : K.lookup f18 = some ⟨t18, p18, .func (PySem.W.fnOf "check_line" "check_line" (defArgs s_check_line) (defBody s_check_line) (defScope s_check_line) .none u18 v18 x18 q18 y18 z18), r18⟩)
    (c18 : PySem.W.codeIn K y18 "check_line" = true) (k18 : PySem.W.keepIn K (.ref f18) = true)
    {f19 : Addr} {p19 q19 : Option Addr} {r19 : Array (Option Value)} {t19 u19 v19 x19 y19 z19 : Value}
    (n19 : PySem.W.nsIn K mainGlobals "is_state" = some (some (.ref f19)))
    (l19 : K.lookup f19 = some ⟨t19, p19, .func (PySem.W.fnOf "is_state" "is_state" (defArgs s_is_state) (defBody s_is_state) (defScope s_is_state) .none u19 v19 x19 q19 y19 z19), r19⟩)
    (c19 : PySem.W.codeIn K y19 "is_state" = true) (k19 : PySem.W.keepIn K (.ref f19) = true)
    {f20 : Addr} {p20 q20 : Option Addr} {r20 : Array (Option Value)} {t20 u20 v20 x20 y20 z20 : Value}
    (n20 : PySem.W.nsIn K mainGlobals "in_order" = some (some (.ref f20)))
    (l20 : K.lookup f20 = some ⟨t20, p20, .func (PySem.W.fnOf "in_order" "in_order" (defArgs s_in_order) (defBody s_in_order) (defScope s_in_order) .none u20 v20 x20 q20 y20 z20), r20⟩)
    (c20 : PySem.W.codeIn K y20 "in_order" = true) (k20 : PySem.W.keepIn K (.ref f20) = true)
    {f21 : Addr} {p21 q21 : Option Addr} {r21 : Array (Option Value)} {t21 u21 v21 x21 y21 z21 : Value}
    (n21 : PySem.W.nsIn K mainGlobals "check_state" = some (some (.ref f21)))
    (l21 : K.lookup f21 = some ⟨t21, p21, .func (PySem.W.fnOf "check_state" "check_state" (defArgs s_check_state) (defBody s_check_state) (defScope s_check_state) .none u21 v21 x21 q21 y21 z21), r21⟩)
    (c21 : PySem.W.codeIn K y21 "check_state" = true) (k21 : PySem.W.keepIn K (.ref f21) = true)
    {f22 : Addr} {p22 q22 : Option Addr} {r22 : Array (Option Value)} {t22 u22 v22 x22 y22 z22 : Value}
    (n22 : PySem.W.nsIn K mainGlobals "lacking" = some (some (.ref f22)))
    (l22 : K.lookup f22 = some ⟨t22, p22, .func (PySem.W.fnOf "lacking" "lacking" (defArgs s_lacking) (defBody s_lacking) (defScope s_lacking) .none u22 v22 x22 q22 y22 z22), r22⟩)
    (c22 : PySem.W.codeIn K y22 "lacking" = true) (k22 : PySem.W.keepIn K (.ref f22) = true)
    {f23 : Addr} {p23 q23 : Option Addr} {r23 : Array (Option Value)} {t23 u23 v23 x23 y23 z23 : Value}
    (n23 : PySem.W.nsIn K mainGlobals "is_quiet" = some (some (.ref f23)))
    (l23 : K.lookup f23 = some ⟨t23, p23, .func (PySem.W.fnOf "is_quiet" "is_quiet" (defArgs s_is_quiet) (defBody s_is_quiet) (defScope s_is_quiet) .none u23 v23 x23 q23 y23 z23), r23⟩)
    (c23 : PySem.W.codeIn K y23 "is_quiet" = true) (k23 : PySem.W.keepIn K (.ref f23) = true)
    {f24 : Addr} {p24 q24 : Option Addr} {r24 : Array (Option Value)} {t24 u24 v24 x24 y24 z24 : Value}
    (n24 : PySem.W.nsIn K mainGlobals "law" = some (some (.ref f24)))
    (l24 : K.lookup f24 = some ⟨t24, p24, .func (PySem.W.fnOf "law" "law" (defArgs s_law) (defBody s_law) (defScope s_law) .none u24 v24 x24 q24 y24 z24), r24⟩)
    (c24 : PySem.W.codeIn K y24 "law" = true) (k24 : PySem.W.keepIn K (.ref f24) = true)
    (b_all : PySem.W.nsIn K mainGlobals "all" = some none)
    (b_bool : PySem.W.nsIn K mainGlobals "bool" = some none)
    (b_dict : PySem.W.nsIn K mainGlobals "dict" = some none)
    (b_int : PySem.W.nsIn K mainGlobals "int" = some none)
    (b_isinstance : PySem.W.nsIn K mainGlobals "isinstance" = some none)
    (b_len : PySem.W.nsIn K mainGlobals "len" = some none)
    (b_list : PySem.W.nsIn K mainGlobals "list" = some none)
    (b_max : PySem.W.nsIn K mainGlobals "max" = some none)
    (b_min : PySem.W.nsIn K mainGlobals "min" = some none)
    (b_range : PySem.W.nsIn K mainGlobals "range" = some none)
    (b_repr : PySem.W.nsIn K mainGlobals "repr" = some none)
    (b_set : PySem.W.nsIn K mainGlobals "set" = some none)
    (b_sorted : PySem.W.nsIn K mainGlobals "sorted" = some none)
    (b_str : PySem.W.nsIn K mainGlobals "str" = some none)
    (b_tuple : PySem.W.nsIn K mainGlobals "tuple" = some none)
    (b_type : PySem.W.nsIn K mainGlobals "type" = some none)
    {t_MOST_HOSTS : _} (g_MOST_HOSTS : PySem.W.nsIn K mainGlobals "MOST_HOSTS" = some (some (.int (40) t_MOST_HOSTS)))
    {t_MOST_LETTERS : _} (g_MOST_LETTERS : PySem.W.nsIn K mainGlobals "MOST_LETTERS" = some (some (.int (8) t_MOST_LETTERS)))
    : ∀ base : Heap, (∃ o, base.get? sysModules = some o) → DfnG P w K mg base "law" ["script"] 9 (sp_law K) := by
  intro base hm
  have T : Tx mg := ⟨PySem.W.mg_none_of X G b_all, PySem.W.mg_none_of X G b_bool, PySem.W.mg_none_of X G b_dict, PySem.W.mg_none_of X G b_int, PySem.W.mg_none_of X G b_isinstance, PySem.W.mg_none_of X G b_len, PySem.W.mg_none_of X G b_list, PySem.W.mg_none_of X G b_max, PySem.W.mg_none_of X G b_min, PySem.W.mg_none_of X G b_range, PySem.W.mg_none_of X G b_repr, PySem.W.mg_none_of X G b_set, PySem.W.mg_none_of X G b_sorted, PySem.W.mg_none_of X G b_str, PySem.W.mg_none_of X G b_tuple, PySem.W.mg_none_of X G b_type, v_FARTHEST, ⟨_, PySem.W.mg_of X G g_MOST_HOSTS⟩, ⟨_, PySem.W.mg_of X G g_MOST_LETTERS⟩⟩
  have A0 : At K mg "is_integer" s_is_integer ["value"] := At.mk' X G n0 l0 c0 k0 fun _ _ _ _ _ _ us hl => match us, hl with | [_], _ => rfl
  have D_is_integer := ok_is_integer (P := P) (w := w) (K := K) (mg := mg) (base := base) T A0
  have A1 : At K mg "is_name" s_is_name ["value"] := At.mk' X G n1 l1 c1 k1 fun _ _ _ _ _ _ us hl => match us, hl with | [_], _ => rfl
  have D_is_name := ok_is_name (P := P) (w := w) (K := K) (mg := mg) (base := base) T A1
  have A2 : At K mg "is_pair" s_is_pair ["value"] := At.mk' X G n2 l2 c2 k2 fun _ _ _ _ _ _ us hl => match us, hl with | [_], _ => rfl
  have D_is_pair := ok_is_pair (P := P) (w := w) (K := K) (mg := mg) (base := base) T A2
  have A3 : At K mg "contains" s_contains ["interval", "position"] := At.mk' X G n3 l3 c3 k3 fun _ _ _ _ _ _ us hl => match us, hl with | [_, _], _ => rfl
  have D_contains := ok_contains (P := P) (w := w) (K := K) (mg := mg) (base := base) T A3
  have A4 : At K mg "_law_reel" s__law_reel ["script"] := At.mk' X G n4 l4 c4 k4 fun _ _ _ _ _ _ us hl => match us, hl with | [_], _ => rfl
  have D__law_reel := ok__law_reel (P := P) (w := w) (K := K) (mg := mg) (base := base) T A4
  have A5 : At K mg "_law_draw" s__law_draw ["reel", "many"] := At.mk' X G n5 l5 c5 k5 fun _ _ _ _ _ _ us hl => match us, hl with | [_, _], _ => rfl
  have D__law_draw := ok__law_draw (P := P) (w := w) (K := K) (mg := mg) (base := base) T A5
  have A6 : At K mg "_law_holds" s__law_holds ["span", "place"] := At.mk' X G n6 l6 c6 k6 fun _ _ _ _ _ _ us hl => match us, hl with | [_, _], _ => rfl
  have D__law_holds := ok__law_holds (P := P) (w := w) (K := K) (mg := mg) (base := base) T A6
  have A7 : At K mg "_law_none" s__law_none ["net"] := At.mk' X G n7 l7 c7 k7 fun _ _ _ _ _ _ us hl => match us, hl with | [_], _ => rfl
  have D__law_none := ok__law_none (P := P) (w := w) (K := K) (mg := mg) (base := base) T A7
  have A8 : At K mg "is_position" s_is_position ["value"] := At.mk' X G n8 l8 c8 k8 fun _ _ _ _ _ _ us hl => match us, hl with | [_], _ => rfl
  have D_is_position := ok_is_position (P := P) (w := w) (K := K) (mg := mg) (base := base) T A8 D_is_integer
  have A9 : At K mg "covers" s_covers ["interval", "first", "last"] := At.mk' X G n9 l9 c9 k9 fun _ _ _ _ _ _ us hl => match us, hl with | [_, _, _], _ => rfl
  have D_covers := ok_covers (P := P) (w := w) (K := K) (mg := mg) (base := base) T A9 D_contains
  have A10 : At K mg "is_end" s_is_end ["line", "value"] := At.mk' X G n10 l10 c10 k10 fun _ _ _ _ _ _ us hl => match us, hl with | [_, _], _ => rfl
  have D_is_end := ok_is_end (P := P) (w := w) (K := K) (mg := mg) (base := base) T A10 D_is_integer
  have A11 : At K mg "_law_net" s__law_net ["reel", "most"] := At.mk' X G n11 l11 c11 k11 fun _ _ _ _ _ _ us hl => match us, hl with | [_, _], _ => rfl
  have D__law_net := ok__law_net (P := P) (w := w) (K := K) (mg := mg) (base := base) T A11 D__law_draw
  have A12 : At K mg "_law_reach" s__law_reach ["net", "spans", "pair"] := At.mk' X G n12 l12 c12 k12 fun _ _ _ _ _ _ us hl => match us, hl with | [_, _, _], _ => rfl
  have D__law_reach := ok__law_reach (P := P) (w := w) (K := K) (mg := mg) (base := base) T A12 D__law_holds
  have A13 : At K mg "_law_spans" s__law_spans ["reel", "net"] := At.mk' X G n13 l13 c13 k13 fun _ _ _ _ _ _ us hl => match us, hl with | [_, _], _ => rfl
  have D__law_spans := ok__law_spans (P := P) (w := w) (K := K) (mg := mg) (base := base) T A13 D__law_draw
  have A14 : At K mg "_law_wide" s__law_wide ["reel", "net", "spans"] := At.mk' X G n14 l14 c14 k14 fun _ _ _ _ _ _ us hl => match us, hl with | [_, _, _], _ => rfl
  have D__law_wide := ok__law_wide (P := P) (w := w) (K := K) (mg := mg) (base := base) T A14 D__law_draw
  have A15 : At K mg "is_line" s_is_line ["value"] := At.mk' X G n15 l15 c15 k15 fun _ _ _ _ _ _ us hl => match us, hl with | [_], _ => rfl
  have D_is_line := ok_is_line (P := P) (w := w) (K := K) (mg := mg) (base := base) T A15 D_is_name D_is_position
  have A16 : At K mg "is_known_interval" s_is_known_interval ["line", "host", "value"] := At.mk' X G n16 l16 c16 k16 fun _ _ _ _ _ _ us hl => match us, hl with | [_, _, _], _ => rfl
  have D_is_known_interval := ok_is_known_interval (P := P) (w := w) (K := K) (mg := mg) (base := base) T A16 D_is_end D_is_pair
  have A17 : At K mg "_law_due" s__law_due ["net", "spans"] := At.mk' X G n17 l17 c17 k17 fun _ _ _ _ _ _ us hl => match us, hl with | [_, _], _ => rfl
  have D__law_due := ok__law_due (P := P) (w := w) (K := K) (mg := mg) (base := base) T A17 D__law_reach
  have A18 : At K mg "check_line" s_check_line ["line"] := At.mk' X G n18 l18 c18 k18 fun _ _ _ _ _ _ us hl => match us, hl with | [_], _ => rfl
  have D_check_line := ok_check_line (P := P) (w := w) (K := K) (mg := mg) (base := base) T A18 D_is_line
  have A19 : At K mg "is_state" s_is_state ["line", "value"] := At.mk' X G n19 l19 c19 k19 fun _ _ _ _ _ _ us hl => match us, hl with | [_, _], _ => rfl
  have D_is_state := ok_is_state (P := P) (w := w) (K := K) (mg := mg) (base := base) T A19 D_check_line D_is_known_interval
  have A20 : At K mg "in_order" s_in_order ["line"] := At.mk' X G n20 l20 c20 k20 fun _ _ _ _ _ _ us hl => match us, hl with | [_], _ => rfl
  have D_in_order := ok_in_order (P := P) (w := w) (K := K) (mg := mg) (base := base) T A20 D_check_line
  have A21 : At K mg "check_state" s_check_state ["line", "state"] := At.mk' X G n21 l21 c21 k21 fun _ _ _ _ _ _ us hl => match us, hl with | [_, _], _ => rfl
  have D_check_state := ok_check_state (P := P) (w := w) (K := K) (mg := mg) (base := base) T A21 D_is_state
  have A22 : At K mg "lacking" s_lacking ["line", "state"] := At.mk' X G n22 l22 c22 k22 fun _ _ _ _ _ _ us hl => match us, hl with | [_, _], _ => rfl
  have D_lacking := ok_lacking (P := P) (w := w) (K := K) (mg := mg) (base := base) T A22 D_check_state D_covers D_in_order
  have A23 : At K mg "is_quiet" s_is_quiet ["line", "state"] := At.mk' X G n23 l23 c23 k23 fun _ _ _ _ _ _ us hl => match us, hl with | [_, _], _ => rfl
  have D_is_quiet := ok_is_quiet (P := P) (w := w) (K := K) (mg := mg) (base := base) T A23 D_lacking
  have A24 : At K mg "law" s_law ["script"] := At.mk' X G n24 l24 c24 k24 fun _ _ _ _ _ _ us hl => match us, hl with | [_], _ => rfl
  have D_law := ok_law (P := P) (w := w) (K := K) (mg := mg) (base := base) T hm A24 D__law_due D__law_net D__law_none D__law_reel D__law_spans D__law_wide D_is_quiet D_lacking
  exact D_law
end FL.k04
open PySem PySem.W PyProof.Rows
theorem PySem.Challenge.cw_floodline_k04_lacking_hosts_holds : PySem.Challenge.rw_floodline_k04_lacking_hosts.Holds := by
  w_on; o_law; k_head; (case hw => w_witness2)
  k_fill
  refine FL.law_end (l := PySem.Challenge.rw_floodline_k04_lacking_hosts) (n := 63) (k := 9) (x := "script") (sp := fun K => FL.k04.sp_law K) rfl (by decide) rfl ⟨rfl, by decide, by decide⟩ (fun w h Y => PySem.W.kIn_of Y) (by decide +kernel) ?F ?c
  case c => exact fun K H a ns hl hS => ⟨a, ns, rfl, hS, hl, fun _ => rfl⟩
  case F =>
    intro w mg h KX G V
    have v_FARTHEST : ∃ t, mg "FARTHEST" = some (.int (1000000000000000000000000000000) t) := by
      obtain ⟨v, e, r⟩ := V.2.val ("FARTHEST", WData.int (1000000000000000000000000000000)) (by simp)
      obtain ⟨t, q, -⟩ := readsW_int_inv r
      rw [q] at e
      exact ⟨t, e⟩
    refine' FL.k04.all_at KX G v_FARTHEST ?n0 ?l0 ?c0 ?k0 ?n1 ?l1 ?c1 ?k1 ?n2 ?l2 ?c2 ?k2 ?n3 ?l3 ?c3 ?k3 ?n4 ?l4 ?c4 ?k4 ?n5 ?l5 ?c5 ?k5 ?n6 ?l6 ?c6 ?k6 ?n7 ?l7 ?c7 ?k7 ?n8 ?l8 ?c8 ?k8 ?n9 ?l9 ?c9 ?k9 ?n10 ?l10 ?c10 ?k10 ?n11 ?l11 ?c11 ?k11 ?n12 ?l12 ?c12 ?k12 ?n13 ?l13 ?c13 ?k13 ?n14 ?l14 ?c14 ?k14 ?n15 ?l15 ?c15 ?k15 ?n16 ?l16 ?c16 ?k16 ?n17 ?l17 ?c17 ?k17 ?n18 ?l18 ?c18 ?k18 ?n19 ?l19 ?c19 ?k19 ?n20 ?l20 ?c20 ?k20 ?n21 ?l21 ?c21 ?k21 ?n22 ?l22 ?c22 ?k22 ?n23 ?l23 ?c23 ?k23 ?n24 ?l24 ?c24 ?k24 ?b_all ?b_bool ?b_dict ?b_int ?b_isinstance ?b_len ?b_list ?b_max ?b_min ?b_range ?b_repr ?b_set ?b_sorted ?b_str ?b_tuple ?b_type ?g_MOST_HOSTS ?g_MOST_LETTERS
    (case n0 => k_is)
    (case l0 => k_is)
    (case c0 => k_is)
    (case k0 => k_is)
    (case n1 => k_is)
    (case l1 => k_is)
    (case c1 => k_is)
    (case k1 => k_is)
    (case n2 => k_is)
    (case l2 => k_is)
    (case c2 => k_is)
    (case k2 => k_is)
    (case n3 => k_is)
    (case l3 => k_is)
    (case c3 => k_is)
    (case k3 => k_is)
    (case n4 => k_is)
    (case l4 => k_is)
    (case c4 => k_is)
    (case k4 => k_is)
    (case n5 => k_is)
    (case l5 => k_is)
    (case c5 => k_is)
    (case k5 => k_is)
    (case n6 => k_is)
    (case l6 => k_is)
    (case c6 => k_is)
    (case k6 => k_is)
    (case n7 => k_is)
    (case l7 => k_is)
    (case c7 => k_is)
    (case k7 => k_is)
    (case n8 => k_is)
    (case l8 => k_is)
    (case c8 => k_is)
    (case k8 => k_is)
    (case n9 => k_is)
    (case l9 => k_is)
    (case c9 => k_is)
    (case k9 => k_is)
    (case n10 => k_is)
    (case l10 => k_is)
    (case c10 => k_is)
    (case k10 => k_is)
    (case n11 => k_is)
    (case l11 => k_is)
    (case c11 => k_is)
    (case k11 => k_is)
    (case n12 => k_is)
    (case l12 => k_is)
    (case c12 => k_is)
    (case k12 => k_is)
    (case n13 => k_is)
    (case l13 => k_is)
    (case c13 => k_is)
    (case k13 => k_is)
    (case n14 => k_is)
    (case l14 => k_is)
    (case c14 => k_is)
    (case k14 => k_is)
    (case n15 => k_is)
    (case l15 => k_is)
    (case c15 => k_is)
    (case k15 => k_is)
    (case n16 => k_is)
    (case l16 => k_is)
    (case c16 => k_is)
    (case k16 => k_is)
    (case n17 => k_is)
    (case l17 => k_is)
    (case c17 => k_is)
    (case k17 => k_is)
    (case n18 => k_is)
    (case l18 => k_is)
    (case c18 => k_is)
    (case k18 => k_is)
    (case n19 => k_is)
    (case l19 => k_is)
    (case c19 => k_is)
    (case k19 => k_is)
    (case n20 => k_is)
    (case l20 => k_is)
    (case c20 => k_is)
    (case k20 => k_is)
    (case n21 => k_is)
    (case l21 => k_is)
    (case c21 => k_is)
    (case k21 => k_is)
    (case n22 => k_is)
    (case l22 => k_is)
    (case c22 => k_is)
    (case k22 => k_is)
    (case n23 => k_is)
    (case l23 => k_is)
    (case c23 => k_is)
    (case k23 => k_is)
    (case n24 => k_is)
    (case l24 => k_is)
    (case c24 => k_is)
    (case k24 => k_is)
    (case b_all => k_is)
    (case b_bool => k_is)
    (case b_dict => k_is)
    (case b_int => k_is)
    (case b_isinstance => k_is)
    (case b_len => k_is)
    (case b_list => k_is)
    (case b_max => k_is)
    (case b_min => k_is)
    (case b_range => k_is)
    (case b_repr => k_is)
    (case b_set => k_is)
    (case b_sorted => k_is)
    (case b_str => k_is)
    (case b_tuple => k_is)
    (case b_type => k_is)
    (case g_MOST_HOSTS => k_is)
    (case g_MOST_LETTERS => k_is)
#print axioms PySem.Challenge.cw_floodline_k04_lacking_hosts_holds
