import PyProof.Rows.All
import Wide.All
import OpenK.AllK
import Wide.FinOn
import HandS.ForMost
import HandS.IsInst
import HandS.More
import HandS.Style
import HandS.Zip
import HandS.Wide
import HandS.ListItems
import PyProof.ReprRoads
import PyProof.TypeEq
import HandS.Evl
import PyProof.ReprLen
import PyProof.Rows.StrJoinMade
import HandS.Ends
import HandS.SortRule
import PyProof.CallFns
import FFC
import PySem.Challenge.RW_floodline_k55_whole_quiet_networks
set_option Elab.async false
set_option linter.all false
set_option maxRecDepth 100000
set_option maxHeartbeats 8000000
/-! Rules that the laws of this program want besides the layer's own. -/
namespace FL
open PySem PySem.Spec PyProof.Rows L2

/-! ### two classes of the language compared by == -/
def IsTy (n : String) : Prop := ∀ s : Shared, s.TypeIs (.type n) "type"
def rEqTy : R2 := fun x y H Q => ∃ a b, x = .ty a ∧ y = .ty b ∧ IsTy a ∧ IsTy b ∧ Q (.bl (decide (a = b))) H
section
variable {X : Cx}
theorem op_eqTy : OpR X (compareOp .Eq) rEqTy := by
  intro pins s σ H x y v u Q I rx ry h
  obtain ⟨a, b, rfl, rfl, ha, hb, q⟩ := h
  cases rx
  cases ry
  by_cases e : a = b
  · subst e
    exact TypeEq.eq_type_same ha ⟨.bl _, H, I, (by show Value.bool true = Value.bool _; rw [decide_eq_true rfl]), q⟩
  · refine TypeEq.eq_type_other ha hb ?_ ⟨.bl _, H, I, (by show Value.bool false = Value.bool _; rw [decide_eq_false e]), q⟩
    rw [Bool.eq_false_iff]
    intro z
    rw [beq_iff_eq] at z
    injection z with z
    exact e z

/-! ### list of a text -/
def signV (x : Str) : List V := x.cps.toList.map fun c => V.str ⟨#[c]⟩
def rListStr : List V → Hp → VK → Prop := fun xs H Q => ∃ x : Str, xs = [.str x] ∧ x.length ≤ sizeLine ∧ ∀ p, H p = none → Q (.ref p) (upd H p (.lst (signV x)))
theorem vals_at : ∀ {xs : List V} {us : List Value}, us.length = xs.length → (∀ (j : Nat) (u : Value), us[j]? = some u → ∃ x, xs[j]? = some x ∧ L2.RelV x u) → Vals xs us
  | [], [], _, _ => .nil
  | [], _ :: _, h, _ => by cases h
  | _ :: _, [], h, _ => by cases h
  | x :: xs, u :: us, h, hr => by
    refine .cons ?_ (vals_at (xs := xs) (us := us) (by simpa using h) fun j v e => by simpa using hr (j + 1) v (by simpa using e))
    obtain ⟨y, e, r⟩ := hr 0 u rfl
    cases e
    exact r
theorem call_listStr (hcalm : X.calm = true) : CallR X (.type "list") rListStr := by
  intro pins s σ H xs us Q I r q
  obtain ⟨x, ex, hz, q⟩ := q
  subst ex
  obtain ⟨u, eu, rx⟩ := vals1 r
  subst eu
  obtain ⟨t, rfl⟩ := rx
  refine call_list_str (I.ok.hd hcalm) x t (hn := hz) fun h' tk acc c' hk hD hacc => ?_
  have hv : Vals (signV x) acc.toList := vals_at (by rw [Array.length_toList, hacc.1]; simp [signV]) fun j v e => by
    obtain ⟨c, u, hc, rfl⟩ := hacc.2 j v (by rw [← Array.getElem?_toList]; exact e)
    exact ⟨.str ⟨#[c]⟩, by simp [signV, hc], _, rfl⟩
  refine ⟨.ref s.heap.objs.size, upd H s.heap.objs.size (.lst (signV x)), I.laid (t' := tk) hk (Nat.le_refl _)
    (show ObjOk X.prog X.w _ _ _ (.lst (signV x)) from ⟨by simp [signV]; exact hz, acc.toList, c', hv, by rw [Array.toArray_toList]; exact hD⟩), rfl, q _ (I.hok.fresh (Nat.le_refl _))⟩
end

/-! ### list(e.values()) -/
def rValsL : V → Hp → VK → Prop := fun x H Q => ∃ (d : Addr) (kvs : List (Key × V)), x = .ref d ∧ Rd H d (.dK kvs) ∧ ∀ p, H p = none → Q (.ref p) (upd H p (.lst (kvs.map (·.2))))
def tListValues (te : TE) : TE := fun σ H Q => te σ H fun x H1 => rValsL x H1 Q
theorem kv_snd : ∀ {kvs : List (Key × V)} {vs : List (Key × Value)}, KV kvs vs → Vals (kvs.map (·.2)) (vs.map (·.2))
  | [], [], _ => .nil
  | p :: kvs, q :: vs, .cons r t => .cons r.2 (kv_snd t)
section
variable {X : Cx} {e : Expr} {te : TE} {p apos cpos pos : Pos}
theorem pe_listValues (hcalm : X.calm = true) (he : PE X e te) (hg : Gl X "list") (hm : X.mg "list" = none) (hv : bootBuiltins "list" = some (.type "list"))
    (hbase : attributeBase e "values" X.env (eval e X.env) = eval e X.env := by rfl) (hline : (apos.endLine == cpos.line) = true := by rfl)
    (hs : starEach [.Call (.Attribute e "values" apos) [] [] cpos] X.env = (false, eval (.Call (.Attribute e "values" apos) [] [] cpos) X.env) :: starEach [] X.env := by rfl) :
    PE X (.Call (.Name "list" p) [.Call (.Attribute e "values" apos) [] [] cpos] [] pos) (tListValues te) := by
  refine ⟨fun pins s σ H Q I hq => wpAny_Call_Name_kw (ld_blt I hg hm hv (PyProof.Rows.callWith_type1 ?_ hs rfl))⟩
  rw [hs]
  show wpAny (model X.prog X.w) X.A (spliced ((false, eval (Expr.Call (Expr.Attribute e "values" apos) [] [] cpos) X.env) :: backTo pos (starEach [] X.env))) _ X.xe s
  refine Calls.spliced_cons (wpAny_Call_method (args := []) (T := "dict") (id := "dict.values") hbase rfl hline F.plainAttrs_dict F.slot_dict_values F.type_dict_values
    (thn (he.run pins s σ H _ I hq) fun u s1 ⟨x, H1, I1, rx, d, kvs, ex, hd, q⟩ => ?_))
  subst ex
  obtain rfl : u = Value.ref d := rx
  obtain ⟨hz, hs0, vs, kv, hdo⟩ : ObjOk X.prog X.w H1 s1.heap d (.dK kvs) := hd.elim (I1.hok d _) fun ⟨_, hq⟩ => (I1.hok d _ hq).2
  obtain ⟨ep, hat⟩ := hdo.dictAt
  have I2 : Inv X pins σ H1 { s1 with heap := s1.heap.push { cls := .type "dict_values", data := .fields #[.ref d] } } := I1.kept (t' := s1.toks) fun b ob w => Heap.get?_push_of_some _ w
  have lk : kvs.length = vs.length := Paired.length kv
  refine ⟨hdo.typeIs, hdo.mapOf.noDict, ?_⟩
  show wpAny (model X.prog X.w) X.A (callWith cpos (Value.builtin "dict.values") [Value.ref d] [] []) _ X.xe s1
  refine method_meetsIn F.slot_dict_values F.entry_dict_values rfl (PySem.evalArgs_none ⟨rfl, hdo.typeIs, F.args_dict_values_1 _, _, meets_dict_values (mixKind X.prog X.w) d hs0, ⟨vs, hdo⟩, Calls.spliced_nil ?_⟩)
  refine PySem.W.kdl_call (PySem.W.kdl_values (knd := mixKind X.prog X.w) (kvs := vs) (ep := ep)) (I1.ok.hd hcalm) ⟨⟨_, Heap.get?_push_size _ rfl, rfl, rfl⟩, hat.push _⟩ (by omega) fun h' tk acc c' hk hD hacc => ?_
  have ev : acc.toList = vs.map (·.2) := PySem.W.kdl_vals_eq acc.toList (by rw [Array.length_toList]; exact hacc.1) fun j v e => hacc.2 j v (by rw [← Array.getElem?_toList]; exact e)
  have hvv : Vals (kvs.map (·.2)) acc.toList := by rw [ev]; exact kv_snd kv
  refine ⟨.ref _, upd H1 _ (.lst (kvs.map (·.2))), I2.laid (t' := tk) hk (Nat.le_refl _) ?_, rfl, q _ (I2.hok.fresh (Nat.le_refl _))⟩
  exact ⟨by rw [List.length_map]; exact hz, acc.toList, c', hvv, by rw [Array.toArray_toList]; exact hD⟩
end
end FL
namespace FL
open PySem PySem.Spec PyProof.Rows L2

/-! ### nested data that stands in the abstract heap: none, bools, ints, texts, lists, tuples, dicts with int and text keys -/
def kD : Key → PyData
  | .inl i => .int i
  | .inr x => .str x
mutual
inductive Dt (H : Hp) : V → PyData → Prop
  | non : Dt H .non .none
  | bl (b : Bool) : Dt H (.bl b) (.bool b)
  | int (i : Int) : Dt H (.int i) (.int i)
  | str (x : Str) : Dt H (.str x) (.str x)
  | lst {a : Addr} {xs : List V} {ds : List PyData} (h : H a = some (.lst xs)) (hs : DtAll H xs ds) : Dt H (.ref a) (.list ds)
  | tup {a : Addr} {xs : List V} {ds : List PyData} (h : H a = some (.tup xs)) (hs : DtAll H xs ds) : Dt H (.ref a) (.tuple ds)
  | dct {a : Addr} {kvs : List (Key × V)} {ds : List (PyData × PyData)} (h : H a = some (.dK kvs)) (hs : DtKv H kvs ds) : Dt H (.ref a) (.dict ds)
inductive DtAll (H : Hp) : List V → List PyData → Prop
  | nil : DtAll H [] []
  | cons {v : V} {vs : List V} {d : PyData} {ds : List PyData} (h : Dt H v d) (t : DtAll H vs ds) : DtAll H (v :: vs) (d :: ds)
inductive DtKv (H : Hp) : List (Key × V) → List (PyData × PyData) → Prop
  | nil : DtKv H [] []
  | cons {k : Key} {v : V} {kvs : List (Key × V)} {d : PyData} {ds : List (PyData × PyData)} (h : Dt H v d) (t : DtKv H kvs ds) : DtKv H ((k, v) :: kvs) ((kD k, d) :: ds)
end
mutual
theorem Dt.mono {H H' : Hp} (e : Same H H') : ∀ {d : PyData} {v : V}, Dt H v d → Dt H' v d
  | .none, _, h => by cases h; exact .non
  | .bool b, _, h => by cases h; exact .bl b
  | .int i, _, h => by cases h; exact .int i
  | .str x, _, h => by cases h; exact .str x
  | .list ds, _, h => by
    cases h with
    | lst h hs => exact .lst (e _ _ h) (DtAll.mono e hs)
  | .tuple ds, _, h => by
    cases h with
    | tup h hs => exact .tup (e _ _ h) (DtAll.mono e hs)
  | .dict ds, _, h => by
    cases h with
    | dct h hs => exact .dct (e _ _ h) (DtKv.mono e hs)
theorem DtAll.mono {H H' : Hp} (e : Same H H') : ∀ {ds : List PyData} {vs : List V}, DtAll H vs ds → DtAll H' vs ds
  | [], _, h => by cases h; exact .nil
  | d :: ds, _, h => by
    cases h with
    | cons h t => exact .cons (Dt.mono e h) (DtAll.mono e t)
theorem DtKv.mono {H H' : Hp} (e : Same H H') : ∀ {ds : List (PyData × PyData)} {kvs : List (Key × V)}, DtKv H kvs ds → DtKv H' kvs ds
  | [], _, h => by cases h; exact .nil
  | (k, d) :: ds, _, h => by
    cases h with
    | cons h t => exact .cons (Dt.mono e h) (DtKv.mono e t)
end

section
variable {X : Cx} {pins : List (Addr × Obj)} {σ : L2.St} {H : Hp} {s : Shared}
mutual
theorem Dt.reads (I : L2.Inv X pins σ H s) : ∀ (d : PyData) (v : V) (u : Value), Dt H v d → L2.RelV v u → ∃ as, Reads s.heap u d as ∧ ∀ a ∈ as, (H a).isSome = true
  | .none, _, _, h, r => by
    cases h; cases r
    exact ⟨[], .none, fun _ z => nomatch z⟩
  | .bool b, _, _, h, r => by
    cases h; cases r
    exact ⟨[], .bool b, fun _ z => nomatch z⟩
  | .int i, _, _, h, r => by
    cases h; obtain ⟨t, rfl⟩ := r
    exact ⟨[], .int i t, fun _ z => nomatch z⟩
  | .str x, _, _, h, r => by
    cases h; obtain ⟨t, rfl⟩ := r
    exact ⟨[], .str x t, fun _ z => nomatch z⟩
  | .list ds, _, _, h, r => by
    cases h with
    | @lst a xs _ h hs =>
      cases r
      obtain ⟨its, rv, ⟨o, n, ho, hc, _, hd⟩, _⟩ := I.list (SqL.of h)
      obtain ⟨as, hr, hm⟩ := Dt.readsAll I ds _ its hs rv
      refine ⟨_, .list ho hc hd hr, fun b hb => ?_⟩
      rcases List.mem_cons.mp hb with e | hb
      · rw [e, h]; rfl
      · exact hm b hb
  | .tuple ds, _, _, h, r => by
    cases h with
    | @tup a xs _ h hs =>
      cases r
      obtain ⟨its, rv, ⟨o, ho, hc, n, hd⟩, _⟩ := I.tuple (SqT.of h)
      obtain ⟨as, hr, hm⟩ := Dt.readsAll I ds _ its hs rv
      exact ⟨_, .tuple ho hc hd hr, hm⟩
  | .dict ds, _, _, h, r => by
    cases h with
    | @dct a kvs _ h hs =>
      cases r
      obtain ⟨_, _, vs, kv, o, es, ep, ho, hx, hd, _, hp, _⟩ := I.hok a _ h
      obtain ⟨as, bs, h1, h2, m1, m2⟩ := Dt.readsKv I ds kvs vs es.toList hs kv hp
      refine ⟨_, .dict ho hx.1 hd h1 h2, fun b hb => ?_⟩
      rcases List.mem_append.mp hb with hb | hb
      · rcases List.mem_cons.mp hb with e | hb
        · rw [e, h]; rfl
        · exact m1 b hb
      · exact m2 b hb
theorem Dt.readsAll (I : L2.Inv X pins σ H s) : ∀ (ds : List PyData) (vs : List V) (us : List Value), DtAll H vs ds → Vals vs us → ∃ as, ReadsAll s.heap us ds as ∧ ∀ a ∈ as, (H a).isSome = true
  | [], _, _, h, r => by
    cases h; cases r
    exact ⟨[], .nil, fun _ z => nomatch z⟩
  | d :: ds, _, _, h, r => by
    cases h with
    | cons h t =>
      cases r with
      | cons r1 r2 =>
        obtain ⟨as, q1, m1⟩ := Dt.reads I d _ _ h r1
        obtain ⟨bs, q2, m2⟩ := Dt.readsAll I ds _ _ t r2
        exact ⟨_, .cons q1 q2, fun b hb => (List.mem_append.mp hb).elim (m1 b) (m2 b)⟩
theorem Dt.readsKv (I : L2.Inv X pins σ H s) : ∀ (ds : List (PyData × PyData)) (kvs : List (Key × V)) (vs : List (Key × Value)) (es : List DictEntry), DtKv H kvs ds → KV kvs vs → Pairs (mixKind X.prog X.w) es vs →
    ∃ as bs, ReadsAll s.heap (es.map (·.key)) (ds.map (·.1)) as ∧ ReadsAll s.heap (es.map (·.val)) (ds.map (·.2)) bs ∧ (∀ a ∈ as, (H a).isSome = true) ∧ ∀ a ∈ bs, (H a).isSome = true
  | [], _, _, _, h, r, p => by
    cases h; cases r; cases p
    exact ⟨[], [], .nil, .nil, by simp, by simp⟩
  | (_, d) :: ds, _, _, _, h, r, p => by
    cases h with
    | @cons k v kvs _ _ h t =>
      cases r with
      | cons r1 r2 =>
        cases p with
        | cons p1 p2 p3 =>
          obtain ⟨e1, rv⟩ := r1
          obtain ⟨as, bs, q1, q2, m1, m2⟩ := Dt.readsKv I ds _ _ _ t r2 p3
          obtain ⟨cs, q3, m3⟩ := Dt.reads I d v _ h rv
          rename_i _ _ en _
          have q4 : Reads s.heap en.key (kD k) [] := by
            rw [← e1] at p1
            rcases keyIs_shape p1 with ⟨i, t, e, f⟩ | ⟨x, t, e, f⟩
            · have e : k = Sum.inl i := e
              rw [e, f]; exact .int i t
            · have e : k = Sum.inr x := e
              rw [e, f]; exact .str x t
          refine ⟨[] ++ as, cs ++ bs, .cons q4 q1, .cons (by show Reads s.heap en.val d cs; rw [p2]; exact q3) q2, fun b hb => m1 b hb, fun b hb => (List.mem_append.mp hb).elim (m3 b) (m2 b)⟩
end
end

/-! ### repr of such data -/
/-- no repr is running; the place of sys.modules is the base's own -/
structure Grd (A : Around) (base : Heap) : Prop where
  g : A.guards = some []
  m : ∃ o, base.get? sysModules = some o
def rReprD : List V → Hp → VK → Prop := fun xs H Q => ∃ x d, xs = [x] ∧ (∃ a, x = .ref a) ∧ Dt H x d ∧ d.showable = true ∧ d.depth ≤ 60 ∧ d.shown.length ≤ sizeLine ∧ Q (.str d.shown) H
theorem call_reprD {X : Cx} (G : Grd X.A X.base) (hu : X.A.units + 64 < cLine) : CallR X (.builtin "repr") rReprD := by
  intro pins s σ H xs us Q I r h
  obtain ⟨_, d, rfl, ⟨a, rfl⟩, hd, hs, hdp, hsz, q⟩ := h
  obtain ⟨u, rfl, ru⟩ := vals1 r
  obtain ⟨as, rd, hm⟩ := Dt.reads I d _ _ hd ru
  cases ru
  obtain ⟨o, ho⟩ := G.m
  have hn : sysModules ∉ as := fun z => by
    have e := (I.bs _ _ ho).2
    have e2 := hm _ z
    rw [e] at e2
    cases e2
  exact repr_of_reads' rd hs (fun _ => hn) G.g (by omega) (fun _ _ e => e) (fun h' u tk hk => ⟨.str d.shown, H, I.kept hk, ⟨u, rfl⟩, q⟩) hsz
end FL
namespace FL
open PySem PySem.Spec PyProof.Rows L2

/-! ### defs that are called while no repr runs -/
structure FnOkG (P : Program) (w : World) (K : PySem.W.Frag) (mg : Str → Option Value) (base : Heap) (k : Nat) (f : Addr) (fd : FuncData) (ps : List Str) (sp : Sp) : Prop where
  len : ∀ vs H Q E, sp vs H Q E → vs.length = ps.length
  run : ∀ (A : Around) (outer : List Env) (s : Shared) (H : Hp) (args : Args) (us : List Value) (vs : List V) (Q : VK) (E : XK), Room k A → A.guards = some [] →
    Env0 P w K mg base A outer s H → BindsTo s fd args (ps.zip us) → Vals vs us → sp vs H Q E → codeAny (model P w) A (.call (.ref f) args) (CR CX0 outer P w H s Q E) s
section
variable {P : Program} {w : World} {K : PySem.W.Frag} {mg : Str → Option Value} {base : Heap}
theorem FnOkG.of {k : Nat} {f : Addr} {fd : FuncData} {ps : List Str} {sp : Sp} (F : FnOk P w K mg base CX0 k f fd ps sp) : FnOkG P w K mg base k f fd ps sp :=
  ⟨F.len, fun A outer s H args us vs Q E hr _ => F.run A outer s H args us vs Q E hr⟩
/-- a def by its body, where no repr is running -/
theorem okG {x qual : Str} {st : Stmt} {f : Addr} {fd : FuncData} {N ps : List Str} {k : Nat} {sp : Sp} (hm : ∃ o, base.get? sysModules = some o) (F : Fun K x qual st f fd) (S : FnScope N ps (defScope st)) (len : ∀ vs H Q E, sp vs H Q E → vs.length = ps.length)
    (body : ∀ (X : Cx), Grd X.A X.base → ∀ (cdv : Value) (A : Around) (outer : List Env) (s : Shared) (H : Hp) (vs : List V) (Q : VK) (E : XK), X = (cxOf CX0 P w K mg base N qual (defScope st) f cdv A outer s H E).nox → Room k X.A → sp vs H Q E →
      ∃ t, PSs X (defBody st) t ∧ t { nx := fun _ H' => Q .non H', rt := Q } (start N vs) H) : FnOkG P w K mg base (k + 1) f fd ps sp := by
  obtain ⟨oc, od, kV, doc, pm, an, cdv, ct, osl, rfl, lk, hcd⟩ := F.ex
  refine ⟨len, fun A outer s H args us vs Q E hr hg e0 hb r hsp => ?_⟩
  have kx : K.In s.heap := e0.mod.kin.keeps fun b o q => (e0.bs b o q).1
  have nl : s.heap.NoLimit := e0.mod.nolimit.keeps fun b o q => (e0.bs b o q).1
  refine codeAny_call_function hr.depth (kx _ _ lk) rfl S.co S.gen rfl (PySem.W.codeRec_of kx hcd) (hb _ _ _ _ ?_)
  refine wpAny_newFunctionEnv_cells S.kind (fun y hy => ?_) fun env he s1 z => ?_
  · rcases S.par y.1 (List.of_mem_zip hy).1 with q | q
    · exact .inl q
    · exact .inr ⟨q, PySem.W.cellsFrom_some _ _ _ (.inl q)⟩
  subst he
  refine ⟨nl.keeps z.toInCall.keep, codeAny_func ?_⟩
  obtain ⟨t, ht, hq⟩ := body _ ⟨hg, hm⟩ cdv A outer s H vs Q E rfl (hr.deeper _) hsp
  have I := inv_start (CX := CX0) (E := E) (mg := mg) S hr.hd e0 (len _ _ _ _ hsp) r z
  refine wpAny_mono (ht.nox.run [] s1 (start N vs) H _ I hq) (fun fl s' hs => ?_) fun e s' hs => hs
  cases fl with
  | ret u =>
    obtain ⟨v, σ', H', J, rv, q⟩ := hs
    exact ⟨v, H', J.os, J.bare, J.base, J.hok, rv, q⟩
  | next =>
    obtain ⟨σ', H', J, q⟩ := hs
    exact ⟨V.non, H', J.os, J.bare, J.base, J.hok, rfl, q⟩
  | brk => obtain ⟨_, _, _, q⟩ := hs; exact q.elim
  | cont => obtain ⟨_, _, _, q⟩ := hs; exact q.elim
end

/-! ### a def of the module by its name -/
/-- the def x keeps the promise sp, at level k -/
structure Dfn (P : Program) (w : World) (K : PySem.W.Frag) (mg : Str → Option Value) (base : Heap) (x : Str) (ps : List Str) (k : Nat) (sp : Sp) : Prop where
  ex : ∃ f fd, mg x = some (.ref f) ∧ PySem.W.keepIn K (.ref f) = true ∧ Binds K fd ps [] ∧ FnOk P w K mg base CX0 k f fd ps sp
structure DfnG (P : Program) (w : World) (K : PySem.W.Frag) (mg : Str → Option Value) (base : Heap) (x : Str) (ps : List Str) (k : Nat) (sp : Sp) : Prop where
  ex : ∃ f fd, mg x = some (.ref f) ∧ PySem.W.keepIn K (.ref f) = true ∧ Binds K fd ps [] ∧ FnOkG P w K mg base k f fd ps sp
/-- where a def of the module stands -/
structure At (K : PySem.W.Frag) (mg : Str → Option Value) (x : Str) (st : Stmt) (ps : List Str) : Prop where
  ex : ∃ f fd, mg x = some (.ref f) ∧ Fun K x x st f fd ∧ Binds K fd ps []
theorem At.mk' {K : PySem.W.Frag} {h : Heap} {mg : Str → Option Value} {x : Str} {st : Stmt} {ps : List Str} {f : Addr} {oc : Value} {od an : Option Addr} {osl : Array (Option Value)} {kV doc pm cdv ct : Value} (X : K.In h) (G : h.Ns mainGlobals mg)
    (n : PySem.W.nsIn K mainGlobals x = some (some (.ref f))) (l : K.lookup f = some ⟨oc, od, .func (PySem.W.fnOf x x (defArgs st) (defBody st) (defScope st) .none kV doc pm an cdv ct), osl⟩)
    (c : PySem.W.codeIn K cdv x = true) (k : PySem.W.keepIn K (.ref f) = true)
    (b : ∀ (kV doc pm : Value) (an : Option Addr) (cdv ct : Value) (us : List Value), us.length = ps.length → bindArgs (PySem.W.fnOf x x (defArgs st) (defBody st) (defScope st) .none kV doc pm an cdv ct) ⟨us, []⟩ = pure (ps.zip us)) : At K mg x st ps :=
  ⟨_, _, PySem.W.mg_of X G n, fun_mk l c k, (fun_mk l c k).binds b⟩
section
variable {P : Program} {w : World} {K : PySem.W.Frag} {mg : Str → Option Value} {base : Heap}
theorem dfn {x : Str} {st : Stmt} {N ps : List Str} {k : Nat} {sp : Sp} (D : At K mg x st ps) (S : FnScope N ps (defScope st)) (len : ∀ vs H Q E, sp vs H Q E → vs.length = ps.length)
    (body : ∀ (X : Cx) (f : Addr) (cdv : Value) (A : Around) (outer : List Env) (s : Shared) (H : Hp) (vs : List V) (Q : VK) (E : XK), X = (cxOf CX0 P w K mg base N x (defScope st) f cdv A outer s H E).nox → Room k X.A → sp vs H Q E →
      ∃ t, PSs X (defBody st) t ∧ t { nx := fun _ H' => Q .non H', rt := Q } (start N vs) H) : Dfn P w K mg base x ps (k + 1) sp := by
  obtain ⟨f, fd, hg, F, b⟩ := D.ex
  exact ⟨f, fd, hg, F.kp, b, F.ok S len fun cdv A outer s H vs Q E hr h => body _ f cdv A outer s H vs Q E rfl hr h⟩
theorem dfnG {x : Str} {st : Stmt} {N ps : List Str} {k : Nat} {sp : Sp} (hm : ∃ o, base.get? sysModules = some o) (D : At K mg x st ps) (S : FnScope N ps (defScope st)) (len : ∀ vs H Q E, sp vs H Q E → vs.length = ps.length)
    (body : ∀ (X : Cx), Grd X.A X.base → ∀ (f : Addr) (cdv : Value) (A : Around) (outer : List Env) (s : Shared) (H : Hp) (vs : List V) (Q : VK) (E : XK), X = (cxOf CX0 P w K mg base N x (defScope st) f cdv A outer s H E).nox → Room k X.A → sp vs H Q E →
      ∃ t, PSs X (defBody st) t ∧ t { nx := fun _ H' => Q .non H', rt := Q } (start N vs) H) : DfnG P w K mg base x ps (k + 1) sp := by
  obtain ⟨f, fd, hg, F, b⟩ := D.ex
  exact ⟨f, fd, hg, F.kp, b, okG hm F S len fun X g cdv A outer s H vs Q E e hr h => body X g f cdv A outer s H vs Q E e hr h⟩
end
section
variable {X : Cx} {k : Nat} {ps : List Str} {sp : Sp} {x : Str} {p pos : Pos} {e : Expr} {es : List Expr} {t : TA}
theorem pe_callD (D : Dfn X.prog X.w X.K X.mg X.base x ps k sp) (hr : Room k X.A) (hg : Gl X x) (ha : PA X (e :: es) t) (hdb : (x == ("__debug__" : Str)) = false := by decide)
    (he : starEach (e :: es) X.env = (false, eval e X.env) :: starEach es X.env := by rfl) (hpl : (backTo pos (starEach es X.env)).any (·.1) = false := by rfl) : PE X (.Call (.Name x p) (e :: es) [] pos) (tCall sp [] E0 t) := by
  obtain ⟨f, fd, hm, hk, hb, F⟩ := D.ex
  exact pe_call F hr hg hm hk hb .nil pass0 ha hdb he hpl
theorem pe_callD0 (D : Dfn X.prog X.w X.K X.mg X.base x ps k sp) (hr : Room k X.A) (hg : Gl X x) (hdb : (x == ("__debug__" : Str)) = false := by decide) : PE X (.Call (.Name x p) [] [] pos) (tCall sp [] E0 tNil) := by
  obtain ⟨f, fd, hm, hk, hb, F⟩ := D.ex
  exact pe_call0 F hr hg hm hk hb .nil pass0 hdb
/-- a def that says repr, called where no repr runs -/
theorem run_fnG {f : Addr} {fd : FuncData} {pins : List (Addr × Obj)} {σ : L2.St} {H : Hp} {s : Shared} {Q : VK} {us : List Value} {vs : List V} (F : FnOkG X.prog X.w X.K X.mg X.base k f fd ps sp) (g : X.A.guards = some []) (hr : Room k X.A) (hb : Binds X.K fd ps [])
    (I : L2.Inv X pins σ H s) (r : Vals vs us) (h : sp vs H Q E0) : wpAny (model X.prog X.w) X.A (call (.ref f) us) (EP X pins σ Q) X.xe s := by
  have hl : (us ++ []).length = ps.length := by rw [List.append_nil, ← r.length]; exact F.len _ _ _ _ h
  have hb2 := hb s us I.kIn hl
  rw [List.append_nil] at hb2
  refine wpAny_call (codeAny_mono (F.run X.A X.stack s H ⟨us, []⟩ us vs Q E0 hr g I.env0 hb2 r h) fun res s' hq => ?_)
  match res, hq with
  | .ok (.ret u), hq => exact I.after hq
theorem pe_callG (D : DfnG X.prog X.w X.K X.mg X.base x ps k sp) (g : X.A.guards = some []) (hr : Room k X.A) (hg : Gl X x) (ha : PA X (e :: es) t) (hdb : (x == ("__debug__" : Str)) = false := by decide)
    (he : starEach (e :: es) X.env = (false, eval e X.env) :: starEach es X.env := by rfl) (hpl : (backTo pos (starEach es X.env)).any (·.1) = false := by rfl) : PE X (.Call (.Name x p) (e :: es) [] pos) (tCall sp [] E0 t) := by
  obtain ⟨f, fd, hm, hk, hb, F⟩ := D.ex
  refine ⟨fun pins s σ H Q I h => wpAny_Call_Name_kw (ld_glob I hg hm ?_ hdb)⟩
  refine PySem.W.callWith_K (h₀ := X.base) I.ok.mod.kin hk (thn (ha.run pos pins s σ H _ I h) fun us s1 ⟨vs, H1, I1, r, q⟩ => ⟨I1.kIn, run_fnG F g hr hb I1 r ?_⟩) he hpl
  exact (congrArg (fun l => sp l H1 Q E0) (List.append_nil vs)).mp q
theorem pe_callG0 (D : DfnG X.prog X.w X.K X.mg X.base x ps k sp) (g : X.A.guards = some []) (hr : Room k X.A) (hg : Gl X x) (hdb : (x == ("__debug__" : Str)) = false := by decide) : PE X (.Call (.Name x p) [] [] pos) (tCall sp [] E0 tNil) := by
  obtain ⟨f, fd, hm, hk, hb, F⟩ := D.ex
  exact ⟨fun pins s σ H Q I h => wpAny_Call_Name_kw (ld_glob I hg hm (PySem.W.callWith_K0 I.kIn hk (run_fnG (us := []) (vs := []) F g hr hb I .nil h)) hdb)⟩
end
/-- an alternative of two rules -/
theorem PE.or {X : Cx} {e : Expr} {t u : TE} (h : PE X e t) (h' : PE X e u) : PE X e (fun σ H Q => t σ H Q ∨ u σ H Q) :=
  ⟨fun pins s σ H Q I q => q.elim (h.run pins s σ H Q I) (h'.run pins s σ H Q I)⟩
theorem pvl {X : Cx} (i : Nat) {x : Str} {pos : Pos} (hN : X.N[i]? = some x := by rfl) (hv : X.env.scope.names.lookup x = some .local := by rfl) (hd : (x == ("__debug__" : Str)) = false := by decide) (hcd : (x == ("__classdict__" : Str)) = false := by decide) : PE X (.Name x pos) (tVar i) := pe_var hN (.inl hv) hd hcd
theorem pvc {X : Cx} (i : Nat) {x : Str} {pos : Pos} (hN : X.N[i]? = some x := by rfl) (hv : X.env.scope.names.lookup x = some .cell := by rfl) (hd : (x == ("__debug__" : Str)) = false := by decide) (hcd : (x == ("__classdict__" : Str)) = false := by decide) : PE X (.Name x pos) (tVar i) := pe_var hN (.inr (.inl hv)) hd hcd
theorem pvf {X : Cx} (i : Nat) {x : Str} {pos : Pos} (hN : X.N[i]? = some x := by rfl) (hv : X.env.scope.names.lookup x = some .free := by rfl) (hd : (x == ("__debug__" : Str)) = false := by decide) (hcd : (x == ("__classdict__" : Str)) = false := by decide) : PE X (.Name x pos) (tVar i) := pe_var hN (.inr (.inr hv)) hd hcd

/-! ### operators by the values that come -/
section
variable {X : Cx}
def rAddS0 : R2 := fun x y H Q => ∃ i j, x = .str i ∧ y = .str j ∧ i.length + j.length ≤ sizeLine ∧ Q (.str (i ++ j)) H
def rAdd : R2 := fun x y H Q => rI0 (fun i j => .int (i + j)) x y H Q ∨ rAddS0 x y H Q ∨ rCat x y H Q
theorem opAdd : OpR X (binaryOp .Add) rAdd := op_add.or (op_add_str.or op_cat)
def rSub : R2 := rI0 fun i j => .int (i - j)
theorem opSub : OpR X (binaryOp .Sub) rSub := op_sub
def rMul : R2 := fun x y H Q => rI CMulW (fun i j => .int (i * j)) x y H Q ∨ rRep x y H Q
theorem opMul : OpR X (binaryOp .Mult) rMul := op_mulW.or op_rep
def rFdv : R2 := rI CDivW fun i j => .int (i / j)
theorem opFdv : OpR X (binaryOp .FloorDiv) rFdv := op_fdivW
def rMod : R2 := rI (fun _ j => 0 < j) fun i j => .int (i % j)
theorem opMod : OpR X (binaryOp .Mod) rMod := op_mod
def rPow : R2 := rI CPow fun i j => .int (i ^ j.toNat)
theorem opPow : OpR X (binaryOp .Pow) rPow := op_pow
def rLtA : R2 := fun x y H Q => rI0 (fun i j => .bl (decide (i < j))) x y H Q ∨ ∃ i j, x = .str i ∧ y = .str j ∧ Q (.bl (decide (i.cps.toList < j.cps.toList))) H
theorem opLt : OpR X (compareOp .Lt) rLtA := op_lt.or op_lt_str
def rLeA : R2 := fun x y H Q => rI0 (fun i j => .bl (decide (i ≤ j))) x y H Q ∨ ∃ i j, x = .str i ∧ y = .str j ∧ Q (.bl (!decide (j.cps.toList < i.cps.toList))) H
theorem opLe : OpR X (compareOp .LtE) rLeA := op_le.or op_le_str
def rGtA : R2 := fun x y H Q => rI0 (fun i j => .bl (decide (j < i))) x y H Q ∨ ∃ i j, x = .str i ∧ y = .str j ∧ Q (.bl (decide (j.cps.toList < i.cps.toList))) H
theorem opGt : OpR X (compareOp .Gt) rGtA := op_gt.or op_gt_str
def rGeA : R2 := fun x y H Q => rI0 (fun i j => .bl (decide (j ≤ i))) x y H Q ∨ ∃ i j, x = .str i ∧ y = .str j ∧ Q (.bl (!decide (i.cps.toList < j.cps.toList))) H
theorem opGe : OpR X (compareOp .GtE) rGeA := op_ge.or op_ge_str
def rEqA (K : PySem.W.Frag) : R2 := fun x y H Q => rEq x y H Q ∨ rEqD K x y H Q ∨ rEqTy x y H Q
theorem opEq (hu : X.A.units + 64 < cLine) : OpR X (compareOp .Eq) (rEqA X.K) := op_eq.or ((op_eqD hu).or op_eqTy)
def rNeA (K : PySem.W.Frag) : R2 := fun x y H Q => rNe x y H Q ∨ rNeD K x y H Q
theorem opNe (hu : X.A.units + 64 < cLine) : OpR X (compareOp .NotEq) (rNeA X.K) := op_ne.or (op_neD hu)
def rIs : R2 := fun x y H Q => (y = .non ∧ Q (.bl (decide (x = .non))) H) ∨ rIsB x y H Q
theorem opIs : OpR X (compareOp .Is) rIs := op_isN.or op_isBl
def rIsNot : R2 := fun x y H Q => (y = .non ∧ Q (.bl (!decide (x = .non))) H) ∨ rNotB x y H Q
theorem opIsNot : OpR X (compareOp .IsNot) rIsNot := op_notN.or op_notBl
end

/-! ### what stands in a comprehension's block, whatever the block's beginning is -/
abbrev Bk (α : Type) : Type := Shared → Hp → Addr → List (Str × Addr) → List Addr → α
def tAllE (t : Bk TE) : TE := fun σ H Q => ∀ s H0 C cl fp, t s H0 C cl fp σ H Q
def tAllT (t : Bk TT) : TT := fun σ H Q => ∀ s H0 C cl fp, t s H0 C cl fp σ H Q
def tAllG (t : Bk TG) : TG := fun v σ H Q => ∀ s H0 C cl fp, t s H0 C cl fp v σ H Q
section
variable {X : Cx} {scope : Scope} {e : Expr} {es : List Expr}
theorem blk_e {t : Bk TE} (h : ∀ s H C cl fp, PE (X.blk s H scope (compEnvC scope cl C X.env) fp) e (t s H C cl fp)) : ∀ s H C cl fp, PE (X.blk s H scope (compEnvC scope cl C X.env) fp) e (tAllE t) :=
  fun s H C cl fp => ⟨fun pins sh σ H' Q I q => (h s H C cl fp).run pins sh σ H' Q I (q s H C cl fp)⟩
theorem blk_t {t : Bk TT} (h : ∀ s H C cl fp, PTs (X.blk s H scope (compEnvC scope cl C X.env) fp) es (t s H C cl fp)) : ∀ s H C cl fp, PTs (X.blk s H scope (compEnvC scope cl C X.env) fp) es (tAllT t) :=
  fun s H C cl fp => ⟨fun pins sh σ H' Q I q => (h s H C cl fp).run pins sh σ H' Q I (q s H C cl fp)⟩
theorem blk_g {t : Bk TG} (h : ∀ s H C cl fp, PG (X.blk s H scope (compEnvC scope cl C X.env) fp) e (t s H C cl fp)) : ∀ s H C cl fp, PG (X.blk s H scope (compEnvC scope cl C X.env) fp) e (tAllG t) :=
  fun s H C cl fp => ⟨fun pins sh σ H' v u Q I r q => (h s H C cl fp).run pins sh σ H' v u Q I r (q s H C cl fp)⟩
end
end FL
namespace FL
open PySem PySem.Spec PyProof.Rows L2

/-! ### the ledger: F, what is never changed any more; L, the objects at hand, each by its content -/
structure Led (H F : Hp) (L : List (Addr × HO)) : Prop where
  ext : Same F H
  ent : ∀ x ∈ L, H x.1 = some x.2 ∧ F x.1 = none
  nd : (L.map (·.1)).Nodup
section
variable {H F : Hp} {L : List (Addr × HO)} {a p : Addr} {o u : HO}
theorem Led.same0 (H : Hp) : Led H H [] := ⟨Same.refl H, by simp, by simp⟩
theorem Led.get (D : Led H F L) (i : Nat) (h : L[i]? = some (a, o) := by rfl) : H a = some o := (D.ent _ (List.mem_of_getElem? h)).1
theorem Led.off (D : Led H F L) (i : Nat) (h : L[i]? = some (a, o) := by rfl) : F a = none := (D.ent _ (List.mem_of_getElem? h)).2
theorem Led.frz (D : Led H F L) (h : F a = some o) : H a = some o := D.ext _ _ h
theorem Led.fresh (D : Led H F L) (hp : H p = none) : p ∉ L.map (·.1) := fun z => by
  obtain ⟨x, hx, e⟩ := List.mem_map.mp z
  have q := (D.ent x hx).1
  rw [e, hp] at q
  cases q
/-- a new object at hand -/
theorem Led.new (D : Led H F L) (hp : H p = none) : Led (upd H p o) F ((p, o) :: L) := by
  have hf : F p = none := D.ext.free hp
  refine ⟨fun b x e => ?_, fun x hx => ?_, ?_⟩
  · rw [upd_ne (ne_of_none e hf)]; exact D.ext b x e
  · rcases List.mem_cons.mp hx with rfl | hx
    · exact ⟨upd_same, hf⟩
    · obtain ⟨q1, q2⟩ := D.ent x hx
      exact ⟨by rw [upd_ne (ne_of_none q1 hp)]; exact q1, q2⟩
  · exact List.nodup_cons.mpr ⟨D.fresh hp, D.nd⟩
theorem Led.freeze (D : Led H F ((a, o) :: L)) : Led H (upd F a o) L := by
  have h := D.ent (a, o) List.mem_cons_self
  have nd := List.nodup_cons.mp D.nd
  refine ⟨fun b x e => ?_, fun x hx => ?_, nd.2⟩
  · by_cases hb : b = a
    · subst hb; rw [upd_same] at e; cases e; exact h.1
    · rw [upd_ne hb] at e; exact D.ext b x e
  · obtain ⟨q1, q2⟩ := D.ent x (List.mem_cons_of_mem _ hx)
    exact ⟨q1, by rw [upd_ne (fun z => nd.1 (by rw [← z]; exact List.mem_map.mpr ⟨x, hx, rfl⟩))]; exact q2⟩
theorem Led.newF (D : Led H F L) (hp : H p = none) : Led (upd H p o) (upd F p o) L := (D.new hp).freeze
theorem Led.grow (D : Led H F ((a, o) :: L)) : Same F (upd F a o) := fun b x e => by
  rw [upd_ne (ne_of_none e (D.ent (a, o) List.mem_cons_self).2)]; exact e
theorem Led.drop (D : Led H F ((a, o) :: L)) : Led H F L := ⟨D.ext, fun x hx => D.ent x (List.mem_cons_of_mem _ hx), (List.nodup_cons.mp D.nd).2⟩
theorem Led.swap (D : Led H F ((a, o) :: (p, u) :: L)) : Led H F ((p, u) :: (a, o) :: L) :=
  ⟨D.ext, fun x hx => D.ent x (by
    rcases List.mem_cons.mp hx with rfl | hx
    · exact List.mem_cons_of_mem _ List.mem_cons_self
    · rcases List.mem_cons.mp hx with rfl | hx
      · exact List.mem_cons_self
      · exact List.mem_cons_of_mem _ (List.mem_cons_of_mem _ hx)), by
    have h := D.nd
    simp only [List.map_cons, List.nodup_cons, List.mem_cons, not_or] at h ⊢
    exact ⟨⟨fun e => h.1.1 e.symm, h.2.1⟩, h.1.2, h.2.2⟩⟩
theorem Led.perm {L' : List (Addr × HO)} (D : Led H F L) (h : L'.Perm L) : Led H F L' := ⟨D.ext, fun x hx => D.ent x (h.mem_iff.mp hx), (h.map _).nodup_iff.mpr D.nd⟩
/-- the i-th object at hand is written -/
theorem Led.set (D : Led H F L) (i : Nat) (h : L[i]? = some (a, o) := by rfl) : Led (upd H a u) F (L.set i (a, u)) := by
  obtain ⟨hi, e⟩ := List.getElem?_eq_some_iff.mp h
  have hm : (a, o) ∈ L := List.mem_of_getElem? h
  have key : ∀ (j : Nat) (hj : j < L.length), L[j].1 = a → j = i := fun j hj q => by
    have n := D.nd
    have e1 : (L.map (·.1))[j]'(by simpa using hj) = (L.map (·.1))[i]'(by simpa using hi) := by
      rw [List.getElem_map, List.getElem_map, q, e]
    exact (List.getElem_inj n).mp e1
  refine ⟨fun b x q => ?_, fun x hx => ?_, ?_⟩
  · rw [upd_ne (ne_of_none q (D.ent _ hm).2)]; exact D.ext b x q
  · obtain ⟨j, hj, q⟩ := List.mem_iff_getElem.mp hx
    rw [List.getElem_set] at q
    by_cases hji : i = j
    · rw [if_pos hji] at q
      subst q
      exact ⟨upd_same, (D.ent _ hm).2⟩
    · rw [if_neg hji] at q
      have hj' : j < L.length := by simpa using hj
      have hx2 : x ∈ L := by rw [← q]; exact List.getElem_mem hj'
      obtain ⟨q1, q2⟩ := D.ent x hx2
      refine ⟨?_, q2⟩
      rw [upd_ne (fun z => hji (key j hj' (by rw [q]; exact z)).symm)]
      exact q1
  · have hm2 : (L.set i (a, u)).map (·.1) = L.map (·.1) := by
      refine List.ext_getElem? fun j => ?_
      rw [List.getElem?_map, List.getElem?_set, List.getElem?_map]
      by_cases hji : i = j
      · subst hji
        rw [if_pos rfl, if_pos hi, h]; rfl
      · rw [if_neg hji]
    rw [hm2]; exact D.nd
/-- forms that the readings ask -/
theorem new_loc (D : Led H F L) {Q : VK} (k : ∀ p H', H p = none → Led H' F ((p, o) :: L) → Q (.ref p) H') : ∀ p, H p = none → Q (.ref p) (upd H p o) := fun p hp => k p _ hp (D.new hp)
theorem new_frz (D : Led H F L) {Q : VK} (k : ∀ p F' H', H p = none → Same F F' → F' p = some o → Led H' F' L → Q (.ref p) H') : ∀ p, H p = none → Q (.ref p) (upd H p o) :=
  fun p hp => k p _ _ hp (D.new hp).grow upd_same (D.newF hp)
end
end FL
namespace FL
open PySem PySem.Spec PyProof.Rows L2

/-! ### readings, one construct at a time -/
section
variable {σ : L2.St} {H : Hp} {Q : VK} {i j : Nat} {v x y : V} {ta tb tc te : TE} {D : Ends} {K : PySem.W.Frag}
theorem y_var (e : σ[i]? = some (some v)) (q : Q v H) : tVar i σ H Q := ⟨v, e, q⟩
theorem y_c (q : Q v H) : tC v σ H Q := q
theorem y_op {r : R2} (q : ta σ H fun x H1 => tb σ H1 fun y H2 => r x y H2 Q) : tOp r ta tb σ H Q := q
theorem y_neg {n : Int} (q : Q (.int (-n)) H) : rU (fun i => V.int (-i)) (.int n) H Q := ⟨n, rfl, q⟩
theorem y_un {r : V → Hp → VK → Prop} (q : ta σ H fun x H1 => r x H1 Q) : tUn r ta σ H Q := q
/-- and, or, not of bools -/
def andK (x : V) (A B : Prop) : Prop := ∃ c, x = .bl c ∧ if c = true then A else B
theorem y_andV (q : ta σ H fun x H1 => andK x (tb σ H1 Q) (Q (.bl false) H1)) : tAndV ta tb σ H Q := q
theorem y_orV (q : ta σ H fun x H1 => andK x (Q (.bl true) H1) (tb σ H1 Q)) : tOrV ta tb σ H Q := q
theorem andK_t {A B : Prop} (q : A) : andK (.bl true) A B := ⟨true, rfl, iteT q⟩
theorem andK_f {A B : Prop} (q : B) : andK (.bl false) A B := ⟨false, rfl, iteF q⟩
theorem andK_b {A B : Prop} {b : Bool} (h1 : b = true → A) (h2 : b = false → B) : andK (.bl b) A B := by
  cases b with
  | true => exact andK_t (h1 rfl)
  | false => exact andK_f (h2 rfl)
/-- a bool's, an int's use -/
def tk (x : V) (R : Bool → Prop) : Prop := ∃ c, x = .bl c ∧ R c
def ik (x : V) (R : Int → Prop) : Prop := ∃ c, x = .int c ∧ R c
theorem tkK {b : Bool} {R : Bool → Prop} (q : R b) : tk (.bl b) R := ⟨b, rfl, q⟩
theorem ikK {b : Int} {R : Int → Prop} (q : R b) : ik (.int b) R := ⟨b, rfl, q⟩
theorem y_notV (q : ta σ H fun x H1 => tk x fun c => Q (.bl (!c)) H1) : tNotV ta σ H Q := q
/-- a test's answer -/
theorem y_tB {R : Bool → Hp → Prop} (q : te σ H fun x H1 => tk x fun c => R c H1) : tB te σ H R := q
theorem y_tTest {R : Bool → Hp → Prop} (q : te σ H fun x H1 => tk x fun c => R c H1) : tTest te σ H R := q
theorem y_tNot {t : TT} {R : Bool → Hp → Prop} (q : t σ H fun c H1 => R (!c) H1) : tNot t σ H R := q
theorem y_tAnd {t u : TT} {R : Bool → Hp → Prop} (q : t σ H fun c H1 => if c = true then u σ H1 R else R false H1) : tAnd t u σ H R := q
theorem y_tOr {t u : TT} {R : Bool → Hp → Prop} (q : t σ H fun c H1 => if c = true then R true H1 else u σ H1 R) : tOr t u σ H R := q
theorem y_tIf {t : TT} (q : t σ H fun c H1 => if c = true then ta σ H1 Q else tb σ H1 Q) : tIf t ta tb σ H Q := q
theorem y_chain {r r' : R2} (q : ta σ H fun x H1 => tb σ H1 fun y H2 => r x y H2 fun z H3 => andK z (tc σ H3 fun w' H4 => r' y w' H4 Q) (Q (.bl false) H3)) : tChain r r' ta tb tc σ H Q := q
/-- argument lists, displays -/
theorem y_nil {R : List V → Hp → Prop} (q : R [] H) : tNil σ H R := q
theorem y_cons {tr : TA} {R : List V → Hp → Prop} (q : ta σ H fun x H1 => tr σ H1 fun xs H2 => R (x :: xs) H2) : tCons ta tr σ H R := q
theorem y_lst {t : TA} (q : t σ H fun xs H1 => xs.length ≤ sizeLine ∧ ∀ p, H1 p = none → Q (.ref p) (upd H1 p (.lst xs))) : tLst t σ H Q := q
theorem y_tup {t : TA} (q : t σ H fun xs H1 => xs.length ≤ sizeLine ∧ ∀ p, H1 p = none → Q (.ref p) (upd H1 p (.tup xs))) : tTup t σ H Q := q
theorem y_cb {t : TA} {r : List V → Hp → VK → Prop} (q : t σ H fun vs H1 => r vs H1 Q) : tCB r t σ H Q := q
theorem y_call {t : TA} {sp : Sp} {E : XK} (q : t σ H fun vs H1 => sp vs H1 Q E) : tCall sp [] E t σ H Q := by
  have e : ∀ vs : List V, vs ++ [] = vs := fun vs => List.append_nil vs
  show t σ H fun vs H1 => sp (vs ++ []) H1 Q E
  simp only [e]
  exact q
theorem y_slice {r : V → Option Int → Option Int → Hp → VK → Prop} {tl th : TO} (q : te σ H fun x H1 => tl σ H1 fun l H2 => th σ H2 fun u H3 => r x l u H3 Q) : tSl r te tl th σ H Q := q
theorem y_part {R : Option Int → Hp → Prop} (q : te σ H fun x H1 => ik x fun i => R (some i) H1) : tPart te σ H R := q
theorem y_nopart {R : Option Int → Hp → Prop} (q : R none H) : tNoPart σ H R := q
theorem y_bm {T : String} {r : V → List V → Hp → VK → Prop} {t : TA} (q : te σ H fun x H1 => tyV K T x H1 ∧ t σ H1 fun xs H2 => r x xs H2 Q) : tBM K T r te t σ H Q := q
theorem y_bm0 {T : String} {r : V → List V → Hp → VK → Prop} (q : te σ H fun x H1 => tyV K T x H1 ∧ r x [] H1 Q) : tBM0 K T r te σ H Q := q
theorem y_dget (q : ta σ H fun x H1 => tb σ H1 fun y H2 => ∃ a v, x = .ref a ∧ DGet H2 a y (some v) ∧ Q v H2) : tDGet ta tb σ H Q := q
theorem y_din (q : ta σ H fun y H1 => tb σ H1 fun x H2 => ∃ a o, x = .ref a ∧ DGet H2 a y o ∧ Q (.bl o.isSome) H2) : tDIn ta tb σ H Q := q
theorem y_dnotin (q : ta σ H fun y H1 => tb σ H1 fun x H2 => ∃ a o, x = .ref a ∧ DGet H2 a y o ∧ Q (.bl (!o.isSome)) H2) : tDNotIn ta tb σ H Q := q
theorem y_dnew (q : ∀ p, H p = none → Q (.ref p) (upd H p (.dK []))) : tDNewK σ H Q := q
/-! ### statements -/
variable {t u : TS} {g : TG}
theorem y_seq (q : t { D with nx := u D } σ H) : tSeq t u D σ H := q
theorem y_next (q : D.nx σ H) : tNext D σ H := q
theorem y_ret (q : te σ H D.rt) : tRet te D σ H := q
theorem y_retN (q : D.rt .non H) : tRetN D σ H := q
theorem y_drop (q : te σ H fun _ H1 => D.nx σ H1) : tDrop te D σ H := q
theorem y_if {c : TT} (q : c σ H fun b H1 => if b = true then t D σ H1 else u D σ H1) : tIfS c t u D σ H := q
theorem y_asg (q : te σ H fun x H1 => g x σ H1 D.nx) : tAsg te g D σ H := q
theorem y_gname {R : L2.St → Hp → Prop} {σ' : L2.St} (e : σ.set i (some v) = σ') (q : R σ' H) : gName i v σ H R := by subst e; exact q
theorem y_gsub {s : TSet} {R : L2.St → Hp → Prop} (q : ta σ H fun o H1 => tb σ H1 fun k H2 => s o k v H2 fun H3 => R σ H3) : gSub ta tb s v σ H R := q
theorem y_par3 {k : Nat} {t : TA} (q : t σ H fun vs H1 => ∃ u v w, vs = [u, v, w] ∧ D.nx (((σ.set i (some u)).set j (some v)).set k (some w)) H1) : tPar3 i j k t D σ H := q
theorem y_par {t : TA} (q : t σ H fun vs H1 => ∃ v w, vs = [v, w] ∧ D.nx ((σ.set i (some v)).set j (some w)) H1) : tPar i j t D σ H := q
theorem y_dput (q : te σ H fun v H1 => ta σ H1 fun x H2 => tb σ H2 fun y H3 => ∃ a H4, x = .ref a ∧ DPut H3 a y v H4 ∧ D.nx σ H4) : sDPut ta tb te D σ H := q

/-! ### operators on values -/
variable {a b n m : Int} {z w' : Str} {p : Addr} {xs ys : List V} {F : Hp} {L : List (Addr × HO)}
theorem r_add (q : Q (.int (a + b)) H) : rAdd (.int a) (.int b) H Q := .inl ⟨a, b, rfl, rfl, q⟩
theorem r_addS (hl : z.length + w'.length ≤ sizeLine) (q : Q (.str (z ++ w')) H) : rAdd (.str z) (.str w') H Q := .inr (.inl ⟨z, w', rfl, rfl, hl, q⟩)
theorem r_addL {l c : Addr} (h1 : H l = some (.lst xs)) (h2 : H c = some (.lst ys)) (hl : xs.length + ys.length ≤ sizeLine) (q : ∀ p, H p = none → Q (.ref p) (upd H p (.lst (xs ++ ys)))) : rAdd (.ref l) (.ref c) H Q :=
  .inr (.inr ⟨l, c, xs, ys, rfl, rfl, h1, h2, hl, q⟩)
theorem r_sub (q : Q (.int (a - b)) H) : rSub (.int a) (.int b) H Q := ⟨a, b, rfl, rfl, q⟩
theorem r_mul (h : CMulW a b) (q : Q (.int (a * b)) H) : rMul (.int a) (.int b) H Q := .inl ⟨a, b, rfl, rfl, h, q⟩
theorem r_mulL {l : Addr} (h1 : H l = some (.lst xs)) (h2 : -(2 ^ 63) ≤ n) (h3 : n < 2 ^ 63) (hl : xs.length * n.toNat ≤ sizeLine) (q : ∀ p, H p = none → Q (.ref p) (upd H p (.lst (List.replicate n.toNat xs).flatten))) : rMul (.ref l) (.int n) H Q :=
  .inr ⟨l, n, xs, rfl, rfl, h1, h2, h3, hl, q⟩
theorem r_fdv (h : CDivW a b) (q : Q (.int (a / b)) H) : rFdv (.int a) (.int b) H Q := ⟨a, b, rfl, rfl, h, q⟩
theorem r_mod (h : 0 < b) (q : Q (.int (a % b)) H) : rMod (.int a) (.int b) H Q := ⟨a, b, rfl, rfl, h, q⟩
theorem r_pow (h : CPow a b) (q : Q (.int (a ^ b.toNat)) H) : rPow (.int a) (.int b) H Q := ⟨a, b, rfl, rfl, h, q⟩
theorem r_lt (q : Q (.bl (decide (a < b))) H) : rLtA (.int a) (.int b) H Q := .inl ⟨a, b, rfl, rfl, q⟩
theorem r_le (q : Q (.bl (decide (a ≤ b))) H) : rLeA (.int a) (.int b) H Q := .inl ⟨a, b, rfl, rfl, q⟩
theorem r_gt (q : Q (.bl (decide (b < a))) H) : rGtA (.int a) (.int b) H Q := .inl ⟨a, b, rfl, rfl, q⟩
theorem r_ge (q : Q (.bl (decide (b ≤ a))) H) : rGeA (.int a) (.int b) H Q := .inl ⟨a, b, rfl, rfl, q⟩
theorem r_leS (q : Q (.bl (!decide (w'.cps.toList < z.cps.toList))) H) : rLeA (.str z) (.str w') H Q := .inr ⟨z, w', rfl, rfl, q⟩
theorem r_eq (h : scal x y = true) (q : Q (.bl (decide (x = y))) H) : rEqA K x y H Q := .inl ⟨h, q⟩
theorem r_ne (h : scal x y = true) (q : Q (.bl (!decide (x = y))) H) : rNeA K x y H Q := .inl ⟨h, q⟩
theorem r_eqD {d e : PyData} (h1 : Dp K H x d) (h2 : Dp K H y e) (s1 : SeqAt.shaped d = true) (s2 : SeqAt.shaped e = true) (q : Q (.bl (PyData.eqv d e)) H) : rEqA K x y H Q := .inr (.inl ⟨d, e, h1, h2, s1, s2, q⟩)
theorem r_neD {d e : PyData} (h1 : Dp K H x d) (h2 : Dp K H y e) (s1 : SeqAt.shaped d = true) (s2 : SeqAt.shaped e = true) (q : Q (.bl (!PyData.eqv d e)) H) : rNeA K x y H Q := .inr ⟨d, e, h1, h2, s1, s2, q⟩
theorem r_eqT {s t : String} (h1 : IsTy s) (h2 : IsTy t) (q : Q (.bl (decide (s = t))) H) : rEqA K (.ty s) (.ty t) H Q := .inr (.inr ⟨s, t, rfl, rfl, h1, h2, q⟩)
theorem r_isN (q : Q (.bl (decide (x = .non))) H) : rIs x .non H Q := .inl ⟨rfl, q⟩
theorem r_isB {c e : Bool} (q : Q (.bl (decide (c = e))) H) : rIs (.bl c) (.bl e) H Q := .inr ⟨c, e, rfl, rfl, q⟩
theorem r_notN (q : Q (.bl (!decide (x = .non))) H) : rIsNot x .non H Q := .inl ⟨rfl, q⟩
theorem r_notB {c e : Bool} (q : Q (.bl (!decide (c = e))) H) : rIsNot (.bl c) (.bl e) H Q := .inr ⟨c, e, rfl, rfl, q⟩
theorem r_ixL (h : SqL K H p xs) (e : atI xs n = some v) (q : Q v H) : rIx K (.ref p) (.int n) H Q := .inl ⟨p, xs, n, v, rfl, rfl, h, e, q⟩
theorem r_ixT (h : SqT K H p xs) (e : atI xs n = some v) (q : Q v H) : rIx K (.ref p) (.int n) H Q := .inr (.inl ⟨p, xs, n, v, rfl, rfl, h, e, q⟩)
theorem at_nat {α : Type} {l : List α} {k : Nat} {c : α} (h : l[k]? = some c) : atI l (k : Int) = some c := by
  have hk := (List.getElem?_eq_some_iff.mp h).1
  unfold atI ixN
  rw [if_pos (by omega), if_pos (by omega)]
  simpa using h
theorem ite_b {A B : Prop} {c : Bool} (h1 : c = true → A) (h2 : c = false → B) : if c = true then A else B := by
  cases c with
  | true => exact iteT (h1 rfl)
  | false => exact iteF (h2 rfl)
theorem ite_is {A B : Prop} {c : Bool} (e : c = true) (h : A) : if c = true then A else B := by rw [if_pos e]; exact h
theorem ite_no {A B : Prop} {c : Bool} (e : c = false) (h : B) : if c = true then A else B := by rw [e]; exact iteF h

/-! ### values of any kind -/
inductive Ar (H : Hp) : V → String → Prop
  | non : Ar H .non "NoneType"
  | bl (b : Bool) : Ar H (.bl b) "bool"
  | int (i : Int) : Ar H (.int i) "int"
  | str (x : Str) : Ar H (.str x) "str"
  | lst {a : Addr} {xs : List V} (h : H a = some (.lst xs)) : Ar H (.ref a) "list"
  | tup {a : Addr} {xs : List V} (h : H a = some (.tup xs)) : Ar H (.ref a) "tuple"
  | dK {a : Addr} {kvs : List (Key × V)} (h : H a = some (.dK kvs)) : Ar H (.ref a) "dict"
theorem Ar.tyx {s : String} (h : Ar H x s) : TyX K H x (.type s) := by
  cases h with
  | non => exact .base .non
  | bl b => exact .base (.bl b)
  | int i => exact .base (.int i)
  | str x => exact .base (.str x)
  | lst h => exact .base (.lst h)
  | tup h => exact .base (.tup h)
  | dK h => exact .base (.dK h)
theorem Ar.tyb {s : String} (h : Ar H x s) : TyB K H x s := by
  cases h with
  | non => exact .non
  | bl b => exact .bl b
  | int i => exact .int i
  | str x => exact .str x
  | lst h => exact .lst (SqL.of h)
  | tup h => exact .tup (SqT.of h)
  | dK h => exact .dK h
theorem Ar.isTy {s : String} (h : Ar H x s) : IsTy s := by
  cases h with
  | non => exact TypeEq.meta_NoneType
  | bl b => exact TypeEq.meta_bool
  | int i => exact TypeEq.meta_int
  | str x => exact TypeEq.meta_str
  | lst h => exact TypeEq.meta_list
  | tup h => exact TypeEq.meta_tuple
  | dK h => exact TypeEq.meta_dict
def isT (s t : String) : Bool := decide (s = t) || (decide (s = "bool") && decide (t = "int"))
theorem kit_all : ∀ s ∈ ["NoneType", "bool", "int", "str", "list", "tuple", "dict"], ∀ t ∈ ["int", "bool", "str", "dict", "list", "tuple"], kitB s t = some (isT s t) := by decide +kernel
theorem Ar.mem {s : String} (h : Ar H x s) : s ∈ ["NoneType", "bool", "int", "str", "list", "tuple", "dict"] := by cases h <;> simp
theorem r_isi {s t : String} (h : Ar H x s) (ht : t ∈ ["int", "bool", "str", "dict", "list", "tuple"]) (q : Q (.bl (isT s t)) H) : rIsi K [x, .ty t] H Q :=
  ⟨x, .ty t, .type s, .type t, _, rfl, .ty t, h.tyx, kit_ty (kit_all s h.mem t ht), q⟩
theorem y_start {t : TS} {N : List Str} {vs : List V} {σ' : L2.St} (e : L2.start N vs = σ') (q : t D σ' H) : t D (L2.start N vs) H := by rw [e]; exact q
theorem r_typ {s : String} (h : Ar H x s) (q : Q (.ty s) H) : rTyp K [x] H Q := ⟨x, s, rfl, h.tyb, q⟩
theorem Ar.isStr {s : String} (h : Ar H x s) (e : isT s "str" = true) : ∃ z, x = .str z := by
  cases h <;> first | exact ⟨_, rfl⟩ | exact absurd e (by decide)
theorem Ar.isTup {s : String} (h : Ar H x s) (e : isT s "tuple" = true) : ∃ t xs, x = .ref t ∧ H t = some (.tup xs) := by
  cases h <;> first | exact ⟨_, _, rfl, by assumption⟩ | exact absurd e (by decide)
theorem Ar.isLst {s : String} (h : Ar H x s) (e : isT s "list" = true) : ∃ t xs, x = .ref t ∧ H t = some (.lst xs) := by
  cases h <;> first | exact ⟨_, _, rfl, by assumption⟩ | exact absurd e (by decide)
theorem iteNT {A B : Prop} (h : B) : if (!true) = true then A else B := by rw [Bool.not_true]; exact iteF h
theorem iteNF {A B : Prop} (h : A) : if (!false) = true then A else B := by rw [Bool.not_false]; exact iteT h
theorem Ar.noStr {s : String} (h : Ar H x s) (e : isT s "str" = false) (z : Str) : x ≠ .str z := by
  cases h <;> first | exact absurd e (by decide) | (intro z; cases z)
theorem Dt.ar {d : PyData} (h : Dt H x d) : ∃ s, Ar H x s := by
  cases h with
  | non => exact ⟨_, .non⟩
  | bl b => exact ⟨_, .bl b⟩
  | int i => exact ⟨_, .int i⟩
  | str x => exact ⟨_, .str x⟩
  | lst h _ => exact ⟨_, .lst h⟩
  | tup h _ => exact ⟨_, .tup h⟩
  | dct h _ => exact ⟨_, .dK h⟩
end
end FL
namespace FL
open PySem PySem.Spec PyProof.Rows L2
theorem le_line {n : Nat} (h : n ≤ 1000000) : n ≤ sizeLine := Nat.le_trans h (by decide)
theorem lt_line {n : Nat} (h : n < 1000000) : n < sizeLine := Nat.lt_of_lt_of_le h (by decide)

/-! ### comprehensions over the ledger -/
/-- what a comprehension's walk has to be: n turns, the i-th item; src: what must stand while it walks -/
structure WalkIt (J : It) (n : Nat) (item : Nat → V → Prop) (src : Hp → Prop) : Prop where
  go : ∀ i H, src H → i < n → J.go i H
  yld : ∀ i H x H', src H → J.yld i H x H' → H' = H ∧ item i x
  stop : ∀ H, src H → J.stop n H
theorem walk_list {K : PySem.W.Frag} {a : Addr} {xs : List V} : WalkIt (Itl K a) xs.length (fun i x => xs[i]? = some x) (fun H => SqL K H a xs) where
  go := fun i H h hi => ⟨xs, xs[i], h, by simp [hi]⟩
  yld := fun i H x H' h y => ⟨y.1, y.2 xs h⟩
  stop := fun H h => ⟨xs, h, Nat.le_refl _⟩
theorem walk_str {z : Str} : WalkIt (Its z) z.cps.size (fun i x => ∃ c, z.cps[i]? = some c ∧ x = .str ⟨#[c]⟩) (fun _ => True) where
  go := fun i H _ hi => hi
  yld := fun i H x H' _ y => y
  stop := fun H _ => Nat.le_refl _
theorem walk_range {lo : Int} {n : Nat} : WalkIt (Itr lo n) n (fun i x => x = .int (lo + i)) (fun _ => True) where
  go := fun i H _ hi => hi
  yld := fun i H x H' _ y => y
  stop := fun H _ => Nat.le_refl _
section
variable {σ : L2.St} {H F : Hp} {L : List (Addr × HO)} {J : It} {n : Nat} {item : Nat → V → Prop} {src : Hp → Prop} {g : TG} {tt : TT} {te : TE} {vs : List Nat} {Q : VK}
/-- what a comprehension asks behind its walk's making -/
def lcAsk (J : It) (g : TG) (tt : TT) (te : TE) (vs : List Nat) (σ : L2.St) (H1 : Hp) (Q : VK) : Prop := ∀ D, H1 D = none → ∃ W : Nat → Nat → Hp → Prop, (∃ m, W 0 m (upd H1 D (.lst []))) ∧ ∀ i m H, W i m H →
  (J.stop i H ∧ Q (.ref D) H) ∨ (J.go i H ∧ ∃ Nx : Hp → Prop, (∀ H', Nx H' → ∃ m', m' < m ∧ W (i + 1) m' H') ∧ ∀ x H', J.yld i H x H' → g x (wipe σ vs) H' fun σ2 H2 => wipe σ2 vs = wipe σ vs ∧ tt σ2 H2 fun b H3 =>
    if b = true then te σ2 H3 fun y H4 => ∃ acc, H4 D = some (.lst acc) ∧ acc.length < sizeLine ∧ Nx (upd H4 D (.lst (acc ++ [y]))) else Nx H3)
theorem y_lc {wi : TI} (q : wi σ H fun J H1 => lcAsk J g tt te vs σ H1 Q) : tLc wi g tt te vs σ H Q := q
theorem y_yes {R : Bool → Hp → Prop} (q : R true H) : tYes σ H R := q
theorem y_allE {t : Bk TE} (q : ∀ s H0 C cl fp, t s H0 C cl fp σ H Q) : tAllE t σ H Q := q
theorem y_allT {t : Bk TT} {R : Bool → Hp → Prop} (q : ∀ s H0 C cl fp, t s H0 C cl fp σ H R) : tAllT t σ H R := q
theorem y_allG {t : Bk TG} {v : V} {R : L2.St → Hp → Prop} (q : ∀ s H0 C cl fp, t s H0 C cl fp v σ H R) : tAllG t v σ H R := q
theorem y_iList {K : PySem.W.Frag} {tl : TE} {R : It → Hp → Prop} (q : tl σ H fun x H1 => ∃ a, x = .ref a ∧ (∃ xs, SqL K H1 a xs) ∧ R (Itl K a) H1) : iList K tl σ H R := q
theorem y_iStr {tl : TE} {R : It → Hp → Prop} (q : tl σ H fun x H1 => ∃ z, x = .str z ∧ R (Its z) H1) : iStr tl σ H R := q
theorem y_iRng {ta : TA} {R : It → Hp → Prop} (q : ta σ H fun vs H1 => ∃ j : Int, vs = [.int j] ∧ -(2 ^ 62) ≤ j ∧ j < 2 ^ 62 ∧ R (Itr 0 j.toNat) H1) : iRng1 ta σ H R := q
theorem lc_led (D0 : Led H F L) (wk : WalkIt J n item src) (hn : n ≤ 100000) (Inv : Nat → List V → Hp → List (Addr × HO) → Prop) (h0 : Inv 0 [] F L)
    (hsrc : ∀ i acc F' L' H' Dl, Inv i acc F' L' → Led H' F' ((Dl, .lst acc) :: L') → src H')
    (turn : ∀ (Kp : V → Hp → Prop) (Sk : Hp → Prop) i acc F' L' H' Dl x, i < n → item i x → Inv i acc F' L' → Led H' F' ((Dl, .lst acc) :: L') → acc.length ≤ i →
      (∀ y F2 L2 H4, Led H4 F2 ((Dl, .lst acc) :: L2) → Inv (i + 1) (acc ++ [y]) F2 L2 → Kp y H4) → (∀ F2 L2 H3, Led H3 F2 ((Dl, .lst acc) :: L2) → Inv (i + 1) acc F2 L2 → Sk H3) →
      g x (wipe σ vs) H' fun σ2 H2 => wipe σ2 vs = wipe σ vs ∧ tt σ2 H2 fun b H3 => if b = true then te σ2 H3 Kp else Sk H3)
    (done : ∀ acc F' L' H' Dl, Inv n acc F' L' → Led H' F' ((Dl, .lst acc) :: L') → acc.length ≤ n → Q (.ref Dl) H') : lcAsk J g tt te vs σ H Q := by
  intro Dl hD
  refine ⟨fun i m H' => m = n - i ∧ i ≤ n ∧ ∃ acc F' L', Led H' F' ((Dl, .lst acc) :: L') ∧ Inv i acc F' L' ∧ acc.length ≤ i, ⟨n, by omega, by omega, [], F, L, D0.new hD, h0, Nat.le_refl _⟩, ?_⟩
  rintro i m H' ⟨rfl, hi, acc, F', L', D, I, ha⟩
  have hs := hsrc i acc F' L' H' Dl I D
  by_cases hlt : i < n
  · refine .inr ⟨wk.go i H' hs hlt, fun H2 => i + 1 ≤ n ∧ ∃ acc F' L', Led H2 F' ((Dl, .lst acc) :: L') ∧ Inv (i + 1) acc F' L' ∧ acc.length ≤ i + 1, fun H2 ⟨_, q⟩ => ⟨n - (i + 1), by omega, rfl, hlt, q⟩, fun x H2 y => ?_⟩
    obtain ⟨e, it⟩ := wk.yld i H' x H2 hs y
    subst e
    exact turn _ _ i acc F' L' H2 Dl x hlt it I D ha
      (fun y F2 L2 H4 D2 I2 => ⟨acc, D2.get 0, lt_line (by omega), hlt, acc ++ [y], F2, L2, D2.set 0, I2, by simp; omega⟩)
      (fun F2 L2 H3 D2 I2 => ⟨hlt, acc, F2, L2, D2, I2, by omega⟩)
  · have e : i = n := by omega
    subst e
    exact .inl ⟨wk.stop H' hs, done acc F' L' H' Dl I D ha⟩
end
end FL
namespace FL
open PySem PySem.Spec PyProof.Rows L2

/-! ### lines -/
def nmStr (z : Str) : Bool := decide (1 ≤ z.length ∧ z.length ≤ 8) && z.cps.toList.all fun c => decide (97 ≤ c ∧ c ≤ 122)
def lineK (ks : List (Str × Int)) : List (Key × V) := ks.map fun p => (.inr p.1, .int p.2)
structure LineOk (ks : List (Str × Int)) : Prop where
  len1 : 1 ≤ ks.length
  len2 : ks.length ≤ 40
  nm : ∀ p ∈ ks, nmStr p.1 = true
  ps : ∀ p ∈ ks, -(10 ^ 30) ≤ p.2 ∧ p.2 ≤ 10 ^ 30
  ndn : (ks.map (·.1)).Nodup
  ndp : (ks.map (·.2)).Nodup
theorem nm_len {z : Str} (h : nmStr z = true) : 1 ≤ z.length ∧ z.length ≤ 8 := by
  unfold nmStr at h
  rw [Bool.and_eq_true] at h
  exact of_decide_eq_true h.1

/-! ### for over a dict's items, the dict locked meanwhile -/
section
variable {σ : L2.St} {H : Hp} {D : Ends} {g : TG} {tb : TS} {te : TE} {a : Addr} {kvs : List (Key × V)}
theorem y_lockItems (he : ∀ H1 R, R (.ref a) H1 → te σ H1 R) (hd : H a = some (.dK kvs)) (Pv : Obj → Nat → L2.St → Hp → Prop) (h0 : ∀ od, Pv od 0 σ (upd H a (.frz od (.dK kvs))))
    (hfr : ∀ od i σ' H', Pv od i σ' H' → H' a = some (.frz od (.dK kvs)))
    (turn : ∀ od i k v T σ' H', kvs[i]? = some (k, v) → Pv od i σ' H' → H' T = none → g (.ref T) σ' (upd H' T (.tup [kV k, v])) fun σ2 H2 =>
      tb ⟨Pv od (i + 1), fun v H'' => H'' a = some (.frz od (.dK kvs)) ∧ D.rt v (upd H'' a (.dK kvs)), fun σ'' H'' => H'' a = some (.frz od (.dK kvs)) ∧ D.nx σ'' (upd H'' a (.dK kvs)), Pv od (i + 1)⟩ σ2 H2)
    (done : ∀ od σ' H', Pv od kvs.length σ' H' → D.nx σ' (upd H' a (.dK kvs))) : tLock (tFor (iItems te) g tb) D σ H := by
  refine ⟨a, .dK kvs, hd, trivial, fun od => ?_⟩
  refine he _ _ ⟨a, od, kvs, rfl, upd_same, ?_⟩
  refine ⟨fun i m σ' H' => m = kvs.length - i ∧ i ≤ kvs.length ∧ Pv od i σ' H', ⟨kvs.length, by omega, by omega, h0 od⟩, ?_⟩
  rintro i m σ' H' ⟨rfl, hi, p⟩
  have hf := hfr od i σ' H' p
  by_cases hlt : i < kvs.length
  · refine .inr ⟨⟨hf, hlt⟩, Pv od (i + 1), fun σ2 H2 q => ⟨kvs.length - (i + 1), by omega, rfl, hlt, q⟩, ?_⟩
    rintro x H2 ⟨T, k, v, e, rfl, hT, rfl⟩
    exact turn od i k v T σ' H' e p hT
  · have e : i = kvs.length := by omega
    subst e
    exact .inl ⟨⟨hf, Nat.le_refl _⟩, hf, done od σ' H' p⟩
theorem y_lockKeys (he : ∀ H1 R, R (.ref a) H1 → te σ H1 R) (hd : H a = some (.dK kvs)) (Pv : Obj → Nat → L2.St → Hp → Prop) (h0 : ∀ od, Pv od 0 σ (upd H a (.frz od (.dK kvs))))
    (hfr : ∀ od i σ' H', Pv od i σ' H' → H' a = some (.frz od (.dK kvs)))
    (turn : ∀ od i k v σ' H', kvs[i]? = some (k, v) → Pv od i σ' H' → g (kV k) σ' H' fun σ2 H2 =>
      tb ⟨Pv od (i + 1), fun v H'' => H'' a = some (.frz od (.dK kvs)) ∧ D.rt v (upd H'' a (.dK kvs)), fun σ'' H'' => H'' a = some (.frz od (.dK kvs)) ∧ D.nx σ'' (upd H'' a (.dK kvs)), Pv od (i + 1)⟩ σ2 H2)
    (done : ∀ od σ' H', Pv od kvs.length σ' H' → D.nx σ' (upd H' a (.dK kvs))) : tLock (tFor (iKeys te) g tb) D σ H := by
  refine ⟨a, .dK kvs, hd, trivial, fun od => he _ _ ⟨a, od, rfl, .inl ⟨kvs, upd_same, ?_⟩⟩⟩
  refine ⟨fun i m σ' H' => m = kvs.length - i ∧ i ≤ kvs.length ∧ Pv od i σ' H', ⟨kvs.length, by omega, by omega, h0 od⟩, ?_⟩
  rintro i m σ' H' ⟨rfl, hi, p⟩
  have hf := hfr od i σ' H' p
  by_cases hlt : i < kvs.length
  · refine .inr ⟨⟨hf, hlt⟩, Pv od (i + 1), fun σ2 H2 q => ⟨kvs.length - (i + 1), by omega, rfl, hlt, q⟩, ?_⟩
    rintro x H2 ⟨rfl, k, v, e, rfl⟩
    exact turn od i k v _ _ e p
  · have e : i = kvs.length := by omega
    subst e
    exact .inl ⟨⟨hf, Nat.le_refl _⟩, hf, done od σ' H' p⟩
end
theorem same_lock {H H' : Hp} {a : Addr} {o : HO} {od : Obj} (h : H a = some o) (s : Same (upd H a (.frz od o)) H') : Same H (upd H' a o) := fun b x e => by
  by_cases hb : b = a
  · subst hb; rw [h] at e; rw [upd_same]; exact e
  · rw [upd_ne hb]; exact s b x (by rw [upd_ne hb]; exact e)

section
variable {σ : L2.St} {H : Hp} {Q : VK} {x y v : V} {K : PySem.W.Frag} {p : Addr}
theorem Ar.isDict {s : String} (h : Ar H x s) (e : isT s "dict" = true) : ∃ a kvs, x = .ref a ∧ H a = some (.dK kvs) := by
  cases h <;> first | exact ⟨_, _, rfl, by assumption⟩ | exact absurd e (by decide)
theorem y_gtup {g : TGs} {n : Nat} {R : L2.St → Hp → Prop} {xs : List V} (h : SqT K H p xs) (e : xs.length = n) (q : g xs σ H R) : gTup K n g (.ref p) σ H R := ⟨p, xs, rfl, h, e, q⟩
theorem y_gcons {g : TG} {u : TGs} {R : L2.St → Hp → Prop} {vs : List V} (q : g v σ H fun σ' H' => u vs σ' H' R) : gCons g u (v :: vs) σ H R := ⟨v, vs, rfl, q⟩
theorem y_gnil {R : L2.St → Hp → Prop} (q : R σ H) : gNil [] σ H R := ⟨rfl, q⟩
end

theorem isT_ne {s t : String} (h : isT s t = false) : s ≠ t := fun e => by
  subst e
  unfold isT at h
  rw [decide_eq_true rfl] at h
  cases h
/-! ### hosts, frames of a line, by values -/
def isHost (ks : List (Str × Int)) : V → Bool
  | .str z => ks.any fun p => decide (p.1 = z)
  | _ => false
theorem valV_line (z : Str) : ∀ ks : List (Str × Int), (valV (lineK ks) (.inr z)).isSome = ks.any fun p => decide (p.1 = z)
  | [] => rfl
  | p :: ks => by
    have ih := valV_line z ks
    show (valV ((Sum.inr p.1, V.int p.2) :: lineK ks) (Sum.inr z : Key)).isSome = (decide (p.1 = z) || ks.any fun p => decide (p.1 = z))
    by_cases e : p.1 = z
    · rw [valV_pos (by show (Sum.inr p.1 : Key) = Sum.inr z; rw [e]), decide_eq_true e]; rfl
    · rw [decide_eq_false e, Bool.false_or, ← ih]
      unfold valV
      rw [List.find?_cons_of_neg (by simp; exact e)]
inductive FrB (ks : List (Str × Int)) (H : Hp) : V → Bool → Prop
  | no {x : V} {s : String} (h : Ar H x s) (n : ∀ t u v, x = .ref t → H t ≠ some (.tup [u, v])) (m : ∀ t xs, x = .ref t → H t = some (.tup xs) → xs.length ≤ 100000) : FrB ks H x false
  | pair {t : Addr} {u v : V} {s s' : String} (h : H t = some (.tup [u, v])) (hu : Ar H u s) (hv : Ar H v s') : FrB ks H (.ref t) (isHost ks u && isHost ks v && !decide (u = v))
inductive FramesB (ks : List (Str × Int)) (H : Hp) : V → Bool → Prop
  | no {x : V} {s : String} (h : Ar H x s) (n : s ≠ "list") : FramesB ks H x false
  | long {l : Addr} {xs : List V} (h : H l = some (.lst xs)) (n : 300 < xs.length) (m : xs.length ≤ 100000) : FramesB ks H (.ref l) false
  | lst {l : Addr} {xs : List V} {bs : List Bool} (h : H l = some (.lst xs)) (n : xs.length ≤ 300) (p : Paired (FrB ks H) xs bs) : FramesB ks H (.ref l) (bs.all id)
theorem Ar.mono {H H' : Hp} {x : V} {s : String} (e : Same H H') (h : Ar H x s) : Ar H' x s := by
  cases h with
  | non => exact .non
  | bl b => exact .bl b
  | int i => exact .int i
  | str x => exact .str x
  | lst h => exact .lst (e _ _ h)
  | tup h => exact .tup (e _ _ h)
  | dK h => exact .dK (e _ _ h)
theorem Ar.there {H : Hp} {a : Addr} {s : String} (h : Ar H (.ref a) s) : ∃ o, H a = some o := by
  cases h <;> exact ⟨_, by assumption⟩
theorem FrB.mono {ks : List (Str × Int)} {H H' : Hp} {x : V} {b : Bool} (e : Same H H') (h : FrB ks H x b) : FrB ks H' x b := by
  cases h with
  | @no _ s h n m =>
    refine .no (h.mono e) (fun t u v ex q => ?_) (fun t xs ex q => ?_)
    · subst ex
      obtain ⟨o, ho⟩ := h.there
      have q2 := e _ _ ho
      rw [q] at q2
      cases q2
      exact n t u v rfl ho
    · subst ex
      obtain ⟨o, ho⟩ := h.there
      have q2 := e _ _ ho
      rw [q] at q2
      cases q2
      exact m t xs rfl ho
  | pair h hu hv => exact .pair (e _ _ h) (hu.mono e) (hv.mono e)
theorem FrB.len {ks : List (Str × Int)} {H : Hp} {x : V} {b : Bool} (h : FrB ks H x b) : ∀ t xs, x = .ref t → H t = some (.tup xs) → xs.length ≤ 100000 := by
  cases h with
  | no h n m => exact m
  | pair h hu hv =>
    intro t xs e q
    cases e
    rw [h] at q
    cases q
    show 2 ≤ 100000
    decide
theorem FramesB.mono {ks : List (Str × Int)} {H H' : Hp} {x : V} {b : Bool} (e : Same H H') (h : FramesB ks H x b) : FramesB ks H' x b := by
  cases h with
  | no h n => exact .no (h.mono e) n
  | long h n m => exact .long (e _ _ h) n m
  | lst h n p => exact .lst (e _ _ h) n (L2.Paired.mapP p fun _ _ q => q.mono e)
theorem Paired.get {α β : Type} {F : α → β → Prop} : ∀ {xs : List α} {ys : List β}, Paired F xs ys → ∀ {i : Nat} {x : α}, xs[i]? = some x → ∃ y, ys[i]? = some y ∧ F x y
  | _, _, .nil, i, x, h => by cases h
  | _, _, .cons r t, 0, x, h => ⟨_, rfl, (Option.some.inj h) ▸ r⟩
  | _, _, .cons r t, i + 1, x, h => Paired.get t (i := i) h
section
variable {σ : L2.St} {H : Hp} {Q : VK} {te ta : TE} {K : PySem.W.Frag}
theorem y_lenSet (q : ta σ H fun x H1 => ∃ (l : Addr) (ns : List Int), x = .ref l ∧ SqL K H1 l (ns.map V.int) ∧ ns.Nodup ∧ ns.length ≤ 4000 ∧ Q (.int (ns.length : Nat)) H1) : RZ.tLenSetI K ta σ H Q := q
theorem y_listVals (q : te σ H fun x H1 => rValsL x H1 Q) : tListValues te σ H Q := q
theorem y_listItems (q : te σ H fun x H1 => LiI.rItemsL x H1 Q) : LiI.tListItems te σ H Q := q
end
end FL
namespace FL
open PySem PySem.Spec PyProof.Rows L2

/-! ### loops -/
section
variable {σ : L2.St} {H F : Hp} {D : Ends} {g : TG} {tb : TS} {K : PySem.W.Frag} {a : Addr} {xs : List V}
def forAsk (J : It) (g : TG) (tb : TS) (D : Ends) (σ : L2.St) (H1 : Hp) : Prop := ∃ W : Nat → Nat → L2.St → Hp → Prop, (∃ m, W 0 m σ H1) ∧ ∀ i m σ H, W i m σ H →
  (J.stop i H ∧ D.nx σ H) ∨ (J.go i H ∧ ∃ N : L2.St → Hp → Prop, (∀ σ' H', N σ' H' → ∃ m', m' < m ∧ W (i + 1) m' σ' H') ∧ ∀ x H', J.yld i H x H' → g x σ H' fun σ2 H2 => tb { D with nx := N, ct := N, bk := D.nx } σ2 H2)
theorem y_for {wi : TI} (q : wi σ H fun J H1 => forAsk J g tb D σ H1) : tFor wi g tb D σ H := q
theorem for_any {J : It} {n : Nat} {item : Nat → V → Prop} {src : Hp → Prop} (wk : WalkIt J n item src) (Pv : Nat → L2.St → Hp → Prop) (h0 : Pv 0 σ H) (hsrc : ∀ i σ' H', Pv i σ' H' → src H')
    (turn : ∀ i x σ' H', i < n → item i x → Pv i σ' H' → g x σ' H' fun σ2 H2 => tb { D with nx := Pv (i + 1), ct := Pv (i + 1), bk := D.nx } σ2 H2) (done : ∀ σ' H', Pv n σ' H' → D.nx σ' H') : forAsk J g tb D σ H := by
  refine ⟨fun i m σ' H' => m = n - i ∧ i ≤ n ∧ Pv i σ' H', ⟨n, by omega, by omega, h0⟩, ?_⟩
  rintro i m σ' H' ⟨rfl, hi, p⟩
  have hs := hsrc i σ' H' p
  by_cases hlt : i < n
  · refine .inr ⟨wk.go i H' hs hlt, Pv (i + 1), fun σ2 H2 q => ⟨n - (i + 1), by omega, rfl, hlt, q⟩, fun x H2 y => ?_⟩
    obtain ⟨e, it⟩ := wk.yld i H' x H2 hs y
    subst e
    exact turn i x σ' H2 hlt it p
  · have e : i = n := by omega
    subst e
    exact .inl ⟨wk.stop H' hs, done σ' H' p⟩
end

/-! ### slices, items -/
theorem cut_take (xs : List V) (k : Nat) : cutV xs none (some (k : Int)) = xs.take k := by
  unfold cutV
  rw [HT.sIx_none, HT.sIx_nat]
  show List.take (min k xs.length - 0) (xs.drop 0) = _
  rw [List.drop_zero, Nat.sub_zero]
  by_cases h : k ≤ xs.length
  · rw [Nat.min_eq_left h]
  · rw [Nat.min_eq_right (by omega), List.take_of_length_le (Nat.le_refl _), List.take_of_length_le (by omega)]
theorem cut_drop (xs : List V) (k : Nat) : cutV xs (some (k : Int)) none = xs.drop k := by
  unfold cutV
  rw [HT.sIx_none, HT.sIx_nat]
  by_cases h : k ≤ xs.length
  · rw [Nat.min_eq_left h, List.take_of_length_le (by simp)]
  · rw [Nat.min_eq_right (by omega), List.drop_of_length_le (Nat.le_refl _), List.drop_of_length_le (by omega), List.take_nil]
section
variable {σ : L2.St} {H F : Hp} {K : PySem.W.Frag} {a : Addr} {xs : List V} {Q : VK} {L : List (Addr × HO)} {lo hi : Option Int}
theorem r_sl (h : SqL K H a xs) (q : ∀ p, H p = none → Q (.ref p) (upd H p (.lst (cutV xs lo hi)))) : rSlL K (.ref a) lo hi H Q := ⟨a, xs, rfl, h, q⟩
theorem Led.seq (D : Led H F L) (h : SqL K F a xs) : SqL K H a xs := Same.seq D.ext h
end

/-! ### the drawing of numbers out of a script -/
structure Rl where
  great : List Int
  cells : List Int
  n : Nat
  stir : Int
structure RlOk (R : Rl) : Prop where
  gl : R.great.length ≤ 64
  c1 : 1 ≤ R.cells.length
  c2 : R.cells.length ≤ 64
  cb : ∀ x ∈ R.cells, 0 ≤ x ∧ x < 1000003
  s0 : 0 ≤ R.stir
  s1 : R.stir < 2 ^ 140
def rE (r g c : Addr) (R : Rl) : List (Addr × HO) := [(r, .lst [.ref g, .ref c, .int R.n, .int R.stir]), (g, .lst (R.great.map V.int)), (c, .lst (R.cells.map V.int))]
theorem mod_m (x : Int) : 0 ≤ x % (2 ^ (64 : Int).toNat * 2 ^ (63 : Int).toNat - 1) ∧ x % (2 ^ (64 : Int).toNat * 2 ^ (63 : Int).toNat - 1) < 2 ^ 140 := by
  have h : (0 : Int) < 2 ^ (64 : Int).toNat * 2 ^ (63 : Int).toNat - 1 := by decide +kernel
  have h2 : (2 : Int) ^ (64 : Int).toNat * 2 ^ (63 : Int).toNat - 1 < 2 ^ 140 := by decide +kernel
  exact ⟨Int.emod_nonneg _ (Int.ne_of_gt h), Int.lt_trans (Int.emod_lt_of_pos _ h) h2⟩
theorem abs_lt {x : Int} {k : Nat} (h0 : 0 ≤ x) (h : x < 2 ^ k) : x.natAbs < 2 ^ k := by
  have e : ((2 ^ k : Nat) : Int) = 2 ^ k := by simp
  omega

theorem Led.nf {H F H1 : Hp} {L : List (Addr × HO)} {p : Addr} {o : HO} (D : Led H F L) (hp : H p = none) (e : upd H p o = H1) : ∃ F1, Same F F1 ∧ F1 p = some o ∧ F p = none ∧ Led H1 F1 L :=
  ⟨upd F p o, (D.new hp).grow, upd_same, D.ext.free hp, e ▸ D.newF hp⟩
theorem Led.nl {H F H1 : Hp} {L : List (Addr × HO)} {p : Addr} {o : HO} (D : Led H F L) (hp : H p = none) (e : upd H p o = H1) : Led H1 F ((p, o) :: L) := e ▸ D.new hp
theorem Led.st {H F H1 : Hp} {L : List (Addr × HO)} {a : Addr} {o u : HO} (D : Led H F L) (i : Nat) (e : upd H a u = H1) (h : L[i]? = some (a, o) := by rfl) : Led H1 F (L.set i (a, u)) := e ▸ D.set i h

theorem Led.sub {H F : Hp} {L L' : List (Addr × HO)} (D : Led H F L) (h : L'.Sublist L) : Led H F L' := ⟨D.ext, fun x hx => D.ent x (h.subset hx), D.nd.sublist (h.map _)⟩
theorem ints_at {ns : List Int} {i : Nat} {x : V} (h : (ns.map V.int)[i]? = some x) : ∃ z, x = V.int z ∧ ns[i]? = some z := by
  rw [List.getElem?_map] at h
  cases e : ns[i]? with
  | none => rw [e] at h; cases h
  | some z => rw [e] at h; exact ⟨z, (Option.some.inj h).symm, rfl⟩

/-! ### lists of ints, compared and stored -/
def dI (ns : List Int) : List PyData := ns.map PyData.int
theorem dpI {K : PySem.W.Frag} {H : Hp} : ∀ ns : List Int, DpAll K H (ns.map V.int) (dI ns)
  | [] => .nil
  | n :: ns => .cons (.int n) (dpI ns)
theorem canI : ∀ ns : List Int, PyData.canLayAll0 (dI ns) = true
  | [] => rfl
  | n :: ns => by
    show (PyData.canLay0 (.int n) && PyData.canLayAll0 (dI ns)) = true
    rw [canI ns]; rfl
theorem depI : ∀ ns : List Int, PyData.depthAll (dI ns) = 0
  | [] => rfl
  | n :: ns => by
    show max (PyData.depth (.int n)) (PyData.depthAll (dI ns)) = 0
    rw [depI ns]; rfl
theorem shI (ns : List Int) : SeqAt.shaped (.list (dI ns)) = true := by
  unfold SeqAt.shaped
  rw [Bool.and_eq_true]
  refine ⟨canI ns, decide_eq_true ?_⟩
  show PyData.depthAll (dI ns) + 1 ≤ 64
  rw [depI]; decide
theorem r_setL {v : V} {p : Addr} {xs : List V} {H : Hp} {j : Nat} {R : Hp → Prop} (h : H p = some (.lst xs)) (hj : j < xs.length) (q : R (upd H p (.lst (xs.set j v)))) : rSetL (.ref p) (.int (j : Int)) v H R :=
  ⟨p, xs, j, j, rfl, rfl, h, Evl.ixN_nat hj, q⟩
theorem int_of_bl {b : Bool} {H : Hp} {Q : VK} (q : Q (.int (if b = true then 1 else 0)) H) : (∃ i, ([V.bl b] : List V) = [.int i] ∧ Q (.int i) H) ∨ ∃ k, ([V.bl b] : List V) = [.bl k] ∧ Q (.int (if k = true then 1 else 0)) H := .inr ⟨b, rfl, q⟩

/-! ### the reel ahead of the other things at hand -/
section
variable {H F : Hp} {L X : List (Addr × HO)} {r g c p : Addr} {o : HO} {R : Rl}
theorem Led.back (D : Led H F ((p, o) :: (rE r g c R ++ L))) : Led H F (rE r g c R ++ ((p, o) :: L)) := D.perm (List.perm_append_comm_assoc (rE r g c R) [(p, o)] L)
theorem Led.fwd (D : Led H F (rE r g c R ++ ((p, o) :: L))) : Led H F ((p, o) :: (rE r g c R ++ L)) := D.perm (List.perm_append_comm_assoc [(p, o)] (rE r g c R) L)
end
/-! ### dicts from text to int -/
theorem lineK_app (ks ls : List (Str × Int)) : lineK (ks ++ ls) = lineK ks ++ lineK ls := List.map_append ..
theorem lineK_len (ks : List (Str × Int)) : (lineK ks).length = ks.length := List.length_map ..
theorem putK_line {ks : List (Str × Int)} {z : Str} (n : Int) (h : z ∉ ks.map (·.1)) : putK (lineK ks) (.inr z) (.int n) = lineK (ks ++ [(z, n)]) := by
  unfold putK
  rw [if_neg]
  · rw [lineK_app]; rfl
  · rw [List.any_eq_true]
    rintro ⟨kv, hm, e⟩
    have e := of_decide_eq_true e
    obtain ⟨p, hp, rfl⟩ := List.mem_map.mp hm
    have e : (Sum.inr p.1 : Key) = Sum.inr z := e
    injection e with e
    exact h (List.mem_map.mpr ⟨p, hp, e⟩)
theorem merge_line : ∀ (ls ks : List (Str × Int)), ((ks ++ ls).map (·.1)).Nodup → mergeK (lineK ks) (lineK ls) = lineK (ks ++ ls)
  | [], ks, _ => by rw [List.append_nil]; rfl
  | p :: ls, ks, h => by
    show mergeK (putK (lineK ks) (.inr p.1) (.int p.2)) (lineK ls) = _
    have hn : p.1 ∉ ks.map (·.1) := fun z => by
      rw [List.map_append, List.map_cons, List.nodup_append] at h
      exact h.2.2 _ z _ List.mem_cons_self rfl
    rw [putK_line p.2 hn, merge_line ls _ (by rw [List.append_assoc]; exact h), List.append_assoc]; rfl
theorem valV_line_some {z : Str} {n : Int} : ∀ {ks : List (Str × Int)}, (z, n) ∈ ks → (ks.map (·.1)).Nodup → valV (lineK ks) (.inr z) = some (.int n)
  | p :: ks, h, nd => by
    show valV ((Sum.inr p.1, V.int p.2) :: lineK ks) (Sum.inr z : Key) = _
    rcases List.mem_cons.mp h with e | h
    · rw [valV_pos (by show (Sum.inr p.1 : Key) = Sum.inr z; rw [← e]), ← e]
    · have hn := List.nodup_cons.mp nd
      have ne : p.1 ≠ z := fun e => hn.1 (by show p.1 ∈ _; rw [e]; exact List.mem_map.mpr ⟨_, h, rfl⟩)
      have ih := valV_line_some h hn.2
      unfold valV at ih ⊢
      rw [List.find?_cons_of_neg (by simp; exact ne)]
      exact ih
theorem LineOk.perm {ks ls : List (Str × Int)} (h : LineOk ks) (p : ls.Perm ks) : LineOk ls where
  len1 := by rw [p.length_eq]; exact h.len1
  len2 := by rw [p.length_eq]; exact h.len2
  nm := fun q hq => h.nm q (p.mem_iff.mp hq)
  ps := fun q hq => h.ps q (p.mem_iff.mp hq)
  ndn := (p.map _).nodup_iff.mpr h.ndn
  ndp := (p.map _).nodup_iff.mpr h.ndp
theorem strs_at {ns : List Str} {i : Nat} {x : V} (h : (ns.map V.str)[i]? = some x) : ∃ z, x = V.str z ∧ ns[i]? = some z := by
  rw [List.getElem?_map] at h
  cases e : ns[i]? with
  | none => rw [e] at h; cases h
  | some z => rw [e] at h; exact ⟨z, (Option.some.inj h).symm, rfl⟩
theorem seqIx {n : Nat} {d : Int} (h0 : 0 ≤ d) (h1 : d < n) : seqIndex? d n = some d.toNat := by
  have h := (ixN_seq (n := n) (i := d) (j := d.toNat) (by unfold ixN; rw [if_pos h0, if_pos h1])).1
  exact h
theorem erase_map : ∀ (ns : List Str) (k : Nat), (ns.map V.str).eraseIdx k = (ns.eraseIdx k).map V.str
  | [], _ => rfl
  | _ :: _, 0 => rfl
  | n :: ns, k + 1 => by
    show V.str n :: (ns.map V.str).eraseIdx k = V.str n :: (ns.eraseIdx k).map V.str
    rw [erase_map ns k]
theorem r_popAt {H : Hp} {Q : VK} {l : Addr} {ns : List Str} {d : Int} (h : H l = some (.lst (ns.map V.str))) (h0 : 0 ≤ d) (h1 : d < ns.length) (hz : ns.length ≤ 100000)
    (q : ∀ z, ns[d.toNat]? = some z → Q (.str z) (upd H l (.lst ((ns.eraseIdx d.toNat).map V.str)))) : rPopAt (.ref l) [.int d] H Q := by
  have hk : d.toNat < ns.length := by omega
  refine ⟨l, ns.map V.str, d, d.toNat, .str ns[d.toNat], rfl, rfl, h, by omega, by omega, by rw [List.length_map]; exact seqIx h0 h1, by rw [List.getElem?_map, List.getElem?_eq_getElem hk]; rfl, ?_⟩
  have e : (ns.map V.str).eraseIdx d.toNat = (ns.eraseIdx d.toNat).map V.str := by
    exact erase_map ns d.toNat
  rw [e]
  exact q _ (List.getElem?_eq_getElem hk)

theorem erase_perm {α : Type} : ∀ {l : List α} {k : Nat} {z : α}, l[k]? = some z → (z :: l.eraseIdx k).Perm l
  | [], _, _, h => by cases h
  | a :: l, 0, z, h => by cases h; exact List.Perm.refl _
  | a :: l, k + 1, z, h => by
    have ih := erase_perm (l := l) (k := k) (z := z) h
    exact (List.Perm.swap a z (l.eraseIdx k)).trans (ih.cons a)
/-- the position of a host -/
def posOf (ks : List (Str × Int)) (z : Str) : Int := ((ks.find? fun p => decide (p.1 = z)).map (·.2)).getD 0
theorem posOf_in : ∀ {ks : List (Str × Int)} {z : Str}, z ∈ ks.map (·.1) → (z, posOf ks z) ∈ ks
  | p :: ks, z, h => by
    by_cases e : p.1 = z
    · have : posOf (p :: ks) z = p.2 := by unfold posOf; rw [List.find?_cons_of_pos (by simp [e])]; rfl
      rw [this, ← e]; exact List.mem_cons_self
    · have h2 : z ∈ ks.map (·.1) := by
        rcases List.mem_cons.mp h with q | q
        · exact absurd q.symm e
        · exact q
      have : posOf (p :: ks) z = posOf ks z := by unfold posOf; rw [List.find?_cons_of_neg (by simp [e])]
      rw [this]; exact List.mem_cons_of_mem _ (posOf_in h2)
theorem posOf_of : ∀ {ks : List (Str × Int)} {z : Str} {n : Int}, (z, n) ∈ ks → (ks.map (·.1)).Nodup → posOf ks z = n
  | p :: ks, z, n, h, nd => by
    rcases List.mem_cons.mp h with e | h
    · unfold posOf; rw [List.find?_cons_of_pos (by simp [← e])]; rw [← e]; rfl
    · have hn := List.nodup_cons.mp nd
      have ne : ¬ p.1 = z := fun e => hn.1 (by show p.1 ∈ _; rw [e]; exact List.mem_map.mpr ⟨_, h, rfl⟩)
      have : posOf (p :: ks) z = posOf ks z := by unfold posOf; rw [List.find?_cons_of_neg (by simp [ne])]
      rw [this]; exact posOf_of h hn.2
theorem posOf_map {ks : List (Str × Int)} (nd : (ks.map (·.1)).Nodup) : (ks.map (·.1)).map (fun z => (z, posOf ks z)) = ks := by
  rw [List.map_map]
  have : ∀ p ∈ ks, ((fun z => (z, posOf ks z)) ∘ fun x => x.1) p = p := fun p hp => by
    show (p.1, posOf ks p.1) = p
    rw [posOf_of (z := p.1) (n := p.2) hp nd]
  rw [List.map_congr_left this]; exact List.map_id _

theorem Paired.app {α β : Type} {F : α → β → Prop} : ∀ {l₁ m₁ : List α} {l₂ m₂ : List β}, Paired F l₁ l₂ → Paired F m₁ m₂ → Paired F (l₁ ++ m₁) (l₂ ++ m₂)
  | _, _, _, _, .nil, k => k
  | _, _, _, _, .cons r t, k => .cons r (Paired.app t k)

/-! ### a rest that is shown once -/
theorem with_e {te : TE} {σ : L2.St} {H : Hp} {Q : VK} (Pq : V → Hp → Prop) (rest : ∀ v H', Pq v H' → Q v H') (go : (∀ v H', Pq v H' → Q v H') → te σ H Q) : te σ H Q := go rest
theorem with_s {t : TS} {σ : L2.St} {H : Hp} {D : Ends} (Pq : L2.St → Hp → Prop) (rest : ∀ σ' H', Pq σ' H' → D.nx σ' H') (go : (∀ σ' H', Pq σ' H' → D.nx σ' H') → t D σ H) : t D σ H := go rest
/-! ### lists of texts, frames, as data -/
def dS (ns : List Str) : List PyData := ns.map PyData.str
theorem dpS {K : PySem.W.Frag} {H : Hp} : ∀ ns : List Str, DpAll K H (ns.map V.str) (dS ns)
  | [] => .nil
  | n :: ns => .cons (.str n) (dpS ns)
theorem canS : ∀ ns : List Str, (∀ z ∈ ns, nmStr z = true) → PyData.canLayAll0 (dS ns) = true
  | [], _ => rfl
  | n :: ns, h => by
    show (PyData.canLay0 (.str n) && PyData.canLayAll0 (dS ns)) = true
    rw [canS ns fun z hz => h z (List.mem_cons_of_mem _ hz), Bool.and_true]
    have hn := h n List.mem_cons_self
    unfold nmStr at hn
    rw [Bool.and_eq_true] at hn
    show (n.cps.all fun c => decide (c < 0x110000)) = true
    rw [← Array.all_toList, List.all_eq_true]
    intro c hc
    have := of_decide_eq_true ((List.all_eq_true.mp hn.2) c hc)
    exact decide_eq_true (by omega)
theorem depS : ∀ ns : List Str, PyData.depthAll (dS ns) = 0
  | [] => rfl
  | n :: ns => by
    show max (PyData.depth (.str n)) (PyData.depthAll (dS ns)) = 0
    rw [depS ns]; rfl
theorem shS (ns : List Str) (h : ∀ z ∈ ns, nmStr z = true) : SeqAt.shaped (.list (dS ns)) = true := by
  unfold SeqAt.shaped
  rw [Bool.and_eq_true]
  refine ⟨canS ns h, decide_eq_true ?_⟩
  show PyData.depthAll (dS ns) + 1 ≤ 64
  rw [depS]; decide
def tS (p : Str × Str) : PyData := .tuple [.str p.1, .str p.2]
/-- frames: a list of tuples of two texts each -/
def TupsAt (H : Hp) (ts : List Addr) (ps : List (Str × Str)) : Prop := Paired (fun t p => H t = some (.tup [.str p.1, .str p.2])) ts ps
theorem TupsAt.mono {H H' : Hp} {ts : List Addr} {ps : List (Str × Str)} (e : Same H H') (h : TupsAt H ts ps) : TupsAt H' ts ps := L2.Paired.mapP h fun _ _ q => e _ _ q
theorem TupsAt.dp {K : PySem.W.Frag} {H : Hp} : ∀ {ts : List Addr} {ps : List (Str × Str)}, TupsAt H ts ps → DpAll K H (ts.map V.ref) (ps.map tS)
  | _, _, .nil => .nil
  | _, _, .cons r t => .cons (.tup (SqT.of r) (.cons (.str _) (.cons (.str _) .nil))) (TupsAt.dp t)
theorem canT : ∀ ps : List (Str × Str), (∀ p ∈ ps, nmStr p.1 = true ∧ nmStr p.2 = true) → PyData.canLayAll0 (ps.map tS) = true
  | [], _ => rfl
  | p :: ps, h => by
    show (PyData.canLayAll0 (dS [p.1, p.2]) && PyData.canLayAll0 (ps.map tS)) = true
    rw [canT ps fun q hq => h q (List.mem_cons_of_mem _ hq), Bool.and_true]
    have := h p List.mem_cons_self
    exact canS _ fun z hz => by
      rcases List.mem_cons.mp hz with e | hz
      · rw [e]; exact this.1
      · rw [List.mem_singleton.mp hz]; exact this.2
theorem depT : ∀ ps : List (Str × Str), PyData.depthAll (ps.map tS) ≤ 1
  | [] => by decide
  | p :: ps => by
    have ih := depT ps
    show max (PyData.depthAll (dS [p.1, p.2]) + 1) (PyData.depthAll (ps.map tS)) ≤ 1
    rw [depS]
    omega
theorem shT (ps : List (Str × Str)) (h : ∀ p ∈ ps, nmStr p.1 = true ∧ nmStr p.2 = true) : SeqAt.shaped (.list (ps.map tS)) = true := by
  unfold SeqAt.shaped
  rw [Bool.and_eq_true]
  refine ⟨canT ps h, decide_eq_true ?_⟩
  have := depT ps
  show PyData.depthAll (ps.map tS) + 1 ≤ 64
  omega
theorem eqv_nil (ds : List PyData) : PyData.eqv (.list ds) (.list []) = ds.isEmpty := by
  cases ds <;> rfl

theorem paired_last {α β : Type} {F : α → β → Prop} : ∀ {xs : List α} {ys : List β}, Paired F xs ys → ys ≠ [] → ∃ xs' x ys' y, xs = xs' ++ [x] ∧ ys = ys' ++ [y] ∧ F x y
  | _, _, .nil, h => absurd rfl h
  | [x], [y], .cons r .nil, _ => ⟨[], x, [], y, rfl, rfl, r⟩
  | x :: x2 :: xs, y :: y2 :: ys, .cons r t, _ => by
    obtain ⟨xs', u, ys', v, e1, e2, q⟩ := paired_last t (by simp)
    exact ⟨x :: xs', u, y :: ys', v, by rw [e1]; rfl, by rw [e2]; rfl, q⟩
theorem isEmpty_nil {α : Type} {l : List α} (h : l.isEmpty = true) : l = [] := by cases l with
  | nil => rfl
  | cons _ _ => cases h
theorem dec_str (z s : Str) : decide (V.str z = V.str s) = decide (z = s) := by
  by_cases e : z = s
  · rw [e, decide_eq_true rfl, decide_eq_true rfl]
  · rw [decide_eq_false e, decide_eq_false fun q => e (by injection q)]
end FL
namespace FL
open PySem PySem.Spec PyProof.Rows L2

/-! ### data that repr can write: short numbers, a bounded weight, a bounded depth -/
structure DOk (d : PyData) (W k : Nat) : Prop where
  ls : d.leavesShort 40 = true
  sh : d.showable = true
  wt : d.weight ≤ W
  dp : d.depth ≤ k
structure DOkA (ds : List PyData) (W k : Nat) : Prop where
  ls : PyData.leavesShortAll 40 ds = true
  sh : PyData.showableAll ds = true
  wt : PyData.weightAll ds ≤ W
  dp : PyData.depthAll ds ≤ k
structure DOkV (ds : List (PyData × PyData)) (W k : Nat) : Prop where
  ls : PyData.leavesShortKv 40 ds = true
  sh : PyData.showableKv ds = true
  wt : PyData.weightKv ds ≤ W
  dp : PyData.depthKv ds ≤ k
theorem DOk.more {d : PyData} {W W' k k' : Nat} (h : DOk d W k) (hw : W ≤ W') (hk : k ≤ k') : DOk d W' k' := ⟨h.ls, h.sh, Nat.le_trans h.wt hw, Nat.le_trans h.dp hk⟩
theorem DOkA.more {d : List PyData} {W W' k k' : Nat} (h : DOkA d W k) (hw : W ≤ W') (hk : k ≤ k') : DOkA d W' k' := ⟨h.ls, h.sh, Nat.le_trans h.wt hw, Nat.le_trans h.dp hk⟩
theorem DOk.non : DOk .none 0 0 := ⟨rfl, rfl, Nat.le_refl _, Nat.le_refl _⟩
theorem DOk.bl (b : Bool) : DOk (.bool b) 0 0 := ⟨rfl, rfl, Nat.le_refl _, Nat.le_refl _⟩
theorem num_len {i : Int} (h0 : -(10 ^ 39) < i) (h1 : i < 10 ^ 39) : (Str.ofString (toString i)).length ≤ 40 := by
  by_cases h : 0 ≤ i
  · exact Nat.le_trans (toString_length_le h (k := 39) (by decide) h1) (by decide)
  · cases i with
    | ofNat n => exact absurd (Int.natCast_nonneg n) h
    | negSucc n =>
      have e : toString (Int.negSucc n) = "-" ++ toString ((n + 1 : Nat) : Int) := rfl
      have h2 := toString_length_le (v := ((n + 1 : Nat) : Int)) (by omega) (k := 39) (by decide) (by omega)
      rw [PyProof.Rows.ofString_length] at h2 ⊢
      rw [e, String.toList_append, List.length_append]
      have e1 : ("-" : String).toList.length = 1 := by decide
      omega
theorem DOk.int {i : Int} (h0 : -(10 ^ 39) < i) (h1 : i < 10 ^ 39) : DOk (.int i) 130 0 := by
  refine ⟨?_, ?_, ?_, Nat.le_refl _⟩
  · show decide ((PyData.shown (.int i)).length ≤ 40) = true
    refine decide_eq_true ?_
    simp only [PyData.shown]
    exact num_len h0 h1
  · show decide (i.natAbs.log2 < 1920) = true
    refine decide_eq_true (Nat.lt_of_lt_of_le (PySem.Flt.log2_lt_of (k := 200) (by decide) ?_) (by decide))
    have : (10 : Nat) ^ 39 < 2 ^ 200 := by decide
    omega
  · show (if i == 0 then 0 else i.natAbs.log2 + 1) ≤ 130
    split
    · decide
    · have h2 : i.natAbs.log2 < 130 := PySem.Flt.log2_lt_of (k := 130) (by decide) (by have : (10 : Nat) ^ 39 < 2 ^ 130 := by decide
                                                                                       omega)
      omega
theorem DOk.str {z : Str} (h : ∀ c ∈ z.cps.toList, c < 16 ^ 8) : DOk (.str z) z.cps.size 0 := by
  refine ⟨?_, rfl, Nat.le_refl _, Nat.le_refl _⟩
  show (z.cps.toList.all fun c => decide (c < 16 ^ 8)) = true
  exact List.all_eq_true.mpr fun c hc => decide_eq_true (h c hc)
theorem nm_small {z : Str} (h : nmStr z = true) : ∀ c ∈ z.cps.toList, c < 16 ^ 8 := fun c hc => by
  unfold nmStr at h
  rw [Bool.and_eq_true] at h
  have := of_decide_eq_true ((List.all_eq_true.mp h.2) c hc)
  have e : (16 : Nat) ^ 8 = 4294967296 := by decide
  omega
theorem DOk.nm {z : Str} (h : nmStr z = true) : DOk (.str z) 8 0 := (DOk.str (nm_small h)).more (nm_len h).2 (Nat.le_refl _)
theorem DOkA.nil {k : Nat} : DOkA [] 0 k := ⟨rfl, rfl, Nat.le_refl _, Nat.zero_le _⟩
theorem DOkA.cons {d : PyData} {ds : List PyData} {w W k : Nat} (h : DOk d w k) (t : DOkA ds W k) : DOkA (d :: ds) (w + 1 + W) k := by
  refine ⟨?_, ?_, ?_, ?_⟩
  · simp only [PyData.leavesShortAll, Bool.and_eq_true]; exact ⟨h.ls, t.ls⟩
  · simp only [PyData.showableAll, Bool.and_eq_true]; exact ⟨h.sh, t.sh⟩
  · simp only [PyData.weightAll]; have := h.wt; have := t.wt; omega
  · simp only [PyData.depthAll]; have := h.dp; have := t.dp; omega
theorem DOkA.append {ds es : List PyData} {W U k : Nat} (h : DOkA ds W k) (t : DOkA es U k) : DOkA (ds ++ es) (W + U) k := by
  induction ds generalizing W with
  | nil => exact (t.more (by omega) (Nat.le_refl _))
  | cons d ds ih =>
    have h1 : DOk d d.weight k := ⟨by have := h.ls; simp only [PyData.leavesShortAll, Bool.and_eq_true] at this; exact this.1, by have := h.sh; simp only [PyData.showableAll, Bool.and_eq_true] at this; exact this.1, Nat.le_refl _, by have := h.dp; simp only [PyData.depthAll] at this; omega⟩
    have h2 : DOkA ds (PyData.weightAll ds) k := ⟨by have := h.ls; simp only [PyData.leavesShortAll, Bool.and_eq_true] at this; exact this.2, by have := h.sh; simp only [PyData.showableAll, Bool.and_eq_true] at this; exact this.2, Nat.le_refl _, by have := h.dp; simp only [PyData.depthAll] at this; omega⟩
    refine (DOkA.cons h1 (ih h2)).more ?_ (Nat.le_refl _)
    have := h.wt
    simp only [PyData.weightAll] at this
    omega
theorem DOkA.all {w k : Nat} : ∀ {ds : List PyData}, (∀ d ∈ ds, DOk d w k) → DOkA ds (ds.length * (w + 1)) k
  | [], _ => DOkA.nil.more (by omega) (Nat.le_refl _)
  | d :: ds, h => (DOkA.cons (h d List.mem_cons_self) (DOkA.all fun e he => h e (List.mem_cons_of_mem _ he))).more (by rw [List.length_cons, Nat.succ_mul]; omega) (Nat.le_refl _)
theorem DOk.list {ds : List PyData} {W k : Nat} (h : DOkA ds W k) : DOk (.list ds) W (k + 1) :=
  ⟨by simp only [PyData.leavesShort]; exact h.ls, by simp only [PyData.showable]; exact h.sh, by simp only [PyData.weight]; exact h.wt, by simp only [PyData.depth]; have := h.dp; omega⟩
theorem DOk.tuple {ds : List PyData} {W k : Nat} (h : DOkA ds W k) : DOk (.tuple ds) W (k + 1) :=
  ⟨by simp only [PyData.leavesShort]; exact h.ls, by simp only [PyData.showable]; exact h.sh, by simp only [PyData.weight]; exact h.wt, by simp only [PyData.depth]; have := h.dp; omega⟩
theorem DOkV.nil {k : Nat} : DOkV [] 0 k := ⟨rfl, rfl, Nat.le_refl _, Nat.zero_le _⟩
theorem DOkV.cons {c d : PyData} {ds : List (PyData × PyData)} {v w W k : Nat} (g : DOk c v k) (h : DOk d w k) (t : DOkV ds W k) : DOkV ((c, d) :: ds) (v + w + 2 + W) k := by
  refine ⟨?_, ?_, ?_, ?_⟩
  · simp only [PyData.leavesShortKv, Bool.and_eq_true]; exact ⟨⟨g.ls, h.ls⟩, t.ls⟩
  · simp only [PyData.showableKv, Bool.and_eq_true]; exact ⟨⟨g.sh, h.sh⟩, t.sh⟩
  · simp only [PyData.weightKv]; have := g.wt; have := h.wt; have := t.wt; omega
  · simp only [PyData.depthKv]; have := g.dp; have := h.dp; have := t.dp; omega
theorem DOk.dict {ds : List (PyData × PyData)} {W k : Nat} (h : DOkV ds W k) : DOk (.dict ds) W (k + 1) :=
  ⟨by simp only [PyData.leavesShort]; exact h.ls, by simp only [PyData.showable]; exact h.sh, by simp only [PyData.weight]; exact h.wt, by simp only [PyData.depth]; have := h.dp; omega⟩
theorem DOk.fits {d : PyData} {W k : Nat} (h : DOk d W k) (hw : W ≤ 399000) : d.shown.length ≤ sizeLine := by
  have h1 := PyData.shown_le 40 (by decide) d h.ls
  have h2 : (40 + 2) * d.weight ≤ 42 * 399000 := Nat.mul_le_mul (by decide) (Nat.le_trans h.wt hw)
  rw [sizeLine_eq]
  omega

/-! ### values of such data -/
def Dx (F : Hp) (v : V) (W k : Nat) : Prop := ∃ d, Dt F v d ∧ DOk d W k
def DxA (F : Hp) (vs : List V) (W k : Nat) : Prop := ∃ ds, DtAll F vs ds ∧ DOkA ds W k
theorem Dx.mono {F F' : Hp} {v : V} {W k : Nat} (e : Same F F') (h : Dx F v W k) : Dx F' v W k := let ⟨d, h1, h2⟩ := h; ⟨d, h1.mono e, h2⟩
theorem Dx.more {F : Hp} {v : V} {W W' k k' : Nat} (h : Dx F v W k) (hw : W ≤ W') (hk : k ≤ k') : Dx F v W' k' := let ⟨d, h1, h2⟩ := h; ⟨d, h1, h2.more hw hk⟩
theorem DxA.mono {F F' : Hp} {v : List V} {W k : Nat} (e : Same F F') (h : DxA F v W k) : DxA F' v W k := let ⟨d, h1, h2⟩ := h; ⟨d, h1.mono e, h2⟩
theorem DxA.more {F : Hp} {v : List V} {W W' k k' : Nat} (h : DxA F v W k) (hw : W ≤ W') (hk : k ≤ k') : DxA F v W' k' := let ⟨d, h1, h2⟩ := h; ⟨d, h1, h2.more hw hk⟩
section
variable {F : Hp} {v : V} {vs us : List V} {w W U k : Nat} {a : Addr}
theorem Dx.non : Dx F .non 0 0 := ⟨_, .non, .non⟩
theorem Dx.bl (b : Bool) : Dx F (.bl b) 0 0 := ⟨_, .bl b, .bl b⟩
theorem Dx.int {i : Int} (h0 : -(10 ^ 39) < i) (h1 : i < 10 ^ 39) : Dx F (.int i) 130 0 := ⟨_, .int i, .int h0 h1⟩
theorem Dx.nm {z : Str} (h : nmStr z = true) : Dx F (.str z) 8 0 := ⟨_, .str z, .nm h⟩
theorem Dx.str {z : Str} (h : ∀ c ∈ z.cps.toList, c < 16 ^ 8) : Dx F (.str z) z.cps.size 0 := ⟨_, .str z, .str h⟩
theorem DxA.nil : DxA F [] 0 k := ⟨_, .nil, .nil⟩
theorem DxA.cons (h : Dx F v w k) (t : DxA F vs W k) : DxA F (v :: vs) (w + 1 + W) k := let ⟨_, h1, h2⟩ := h; let ⟨_, t1, t2⟩ := t; ⟨_, .cons h1 t1, .cons h2 t2⟩
theorem DtAll.append {H : Hp} : ∀ {vs us : List V} {ds es : List PyData}, DtAll H vs ds → DtAll H us es → DtAll H (vs ++ us) (ds ++ es)
  | _, _, _, _, .nil, k => k
  | _, _, _, _, .cons h t, k => .cons h (DtAll.append t k)
theorem DxA.append (h : DxA F vs W k) (t : DxA F us U k) : DxA F (vs ++ us) (W + U) k := let ⟨_, h1, h2⟩ := h; let ⟨_, t1, t2⟩ := t; ⟨_, DtAll.append h1 t1, h2.append t2⟩
theorem DxA.all : ∀ {vs : List V}, (∀ v ∈ vs, Dx F v w k) → DxA F vs (vs.length * (w + 1)) k
  | [], _ => DxA.nil.more (by omega) (Nat.le_refl _)
  | v :: vs, h => (DxA.cons (h v List.mem_cons_self) (DxA.all fun e he => h e (List.mem_cons_of_mem _ he))).more (by rw [List.length_cons, Nat.succ_mul]; omega) (Nat.le_refl _)
theorem Dx.lst (h : F a = some (.lst vs)) (t : DxA F vs W k) : Dx F (.ref a) W (k + 1) := let ⟨_, t1, t2⟩ := t; ⟨_, .lst h t1, .list t2⟩
theorem Dx.tup (h : F a = some (.tup vs)) (t : DxA F vs W k) : Dx F (.ref a) W (k + 1) := let ⟨_, t1, t2⟩ := t; ⟨_, .tup h t1, .tuple t2⟩
theorem line_kv : ∀ (ks : List (Str × Int)), (∀ p ∈ ks, nmStr p.1 = true) → (∀ p ∈ ks, -(10 ^ 30) ≤ p.2 ∧ p.2 ≤ 10 ^ 30) → ∃ ds, DtKv F (lineK ks) ds ∧ DOkV ds (ks.length * 140) 0
  | [], _, _ => ⟨[], .nil, .nil⟩
  | p :: ks, h1, h2 => by
    obtain ⟨ds, q1, q2⟩ := line_kv ks (fun x hx => h1 x (List.mem_cons_of_mem _ hx)) fun x hx => h2 x (List.mem_cons_of_mem _ hx)
    have b := h2 p List.mem_cons_self
    have e : (10 : Int) ^ 30 < 10 ^ 39 := by decide
    refine ⟨(.str p.1, .int p.2) :: ds, .cons (k := .inr p.1) (.int p.2) q1, ?_⟩
    have := DOkV.cons (DOk.nm (h1 p List.mem_cons_self)) (DOk.int (i := p.2) (by omega) (by omega)) q2
    exact ⟨this.ls, this.sh, Nat.le_trans this.wt (by rw [List.length_cons, Nat.succ_mul]; omega), this.dp⟩
theorem Dx.line {ks : List (Str × Int)} (h : F a = some (.dK (lineK ks))) (ok : LineOk ks) : Dx F (.ref a) 5600 1 := by
  obtain ⟨ds, q1, q2⟩ := line_kv (F := F) ks ok.nm ok.ps
  exact ⟨_, .dct h q1, (DOk.dict q2).more (by have := ok.len2; omega) (Nat.le_refl _)⟩
theorem Dx.tS {p : Str × Str} {t : Addr} (h : F t = some (.tup [.str p.1, .str p.2])) (h1 : nmStr p.1 = true) (h2 : nmStr p.2 = true) : Dx F (.ref t) 18 1 :=
  (Dx.tup h (.cons (.nm h1) (.cons (.nm h2) .nil))).more (by decide) (Nat.le_refl _)
end

/-! ### many new things, none of them written again -/
def Has (F : Hp) (l : List (Addr × HO)) : Prop := ∀ x ∈ l, F x.1 = some x.2
section
variable {H H1 F F0 : Hp} {L l : List (Addr × HO)} {p a : Addr} {o : HO}
theorem Has.nil : Has F [] := fun _ h => nomatch h
theorem Has.get (h : Has F l) (i : Nat) (e : l[i]? = some (a, o) := by rfl) : F a = some o := h _ (List.mem_of_getElem? e)
theorem Has.mono {F' : Hp} (s : Same F F') (h : Has F l) : Has F' l := fun x hx => s _ _ (h x hx)
theorem Led.nh (D : Led H F L) (s : Same F0 F) (hh : Has F l) (hp : H p = none) (e : upd H p o = H1) : ∃ F1, Same F0 F1 ∧ Has F1 ((p, o) :: l) ∧ Led H1 F1 L := by
  obtain ⟨F1, s1, h1, _, D1⟩ := D.nf hp e
  refine ⟨F1, s.trans s1, fun x hx => ?_, D1⟩
  rcases List.mem_cons.mp hx with e | hx
  · rw [e]; exact h1
  · exact s1 _ _ (hh x hx)
theorem Led.after {H' : Hp} (D : Led H F L) (s : Same H H') : Led H' F L := ⟨D.ext.trans s, fun x hx => ⟨s _ _ (D.ent x hx).1, (D.ent x hx).2⟩, D.nd⟩
end
theorem y_disp {trs : List (TE × TE)} {σ : L2.St} {H : Hp} {Q : VK} (q : ∀ p, H p = none → tPairs trs σ (upd H p (.dK [])) fun ps H2 => H2 p = some (.dK []) ∧ ∃ kvs : List (Key × V), ps = kvs.map (fun kv => (kV kv.1, kv.2)) ∧ kvs.length ≤ 15 ∧ Q (.ref p) (upd H2 p (.dK (mergeK [] kvs)))) : tDisp trs σ H Q := q
end FL
namespace FL
open PySem PySem.Spec PyProof.Rows L2

/-! ### frames that are none, lists of frames with one that is none -/
section
variable {F : Hp} {ks : List (Str × Int)} {t l : Addr} {u v x : V} {xs : List V} {z : Str} {s s' : String} {W k : Nat}
theorem host_no (h : z ∉ ks.map (·.1)) : isHost ks (.str z) = false := by
  show (ks.any fun p => decide (p.1 = z)) = false
  rw [List.any_eq_false]
  intro p hp e
  exact h (List.mem_map.mpr ⟨p, hp, of_decide_eq_true e⟩)
theorem host_is (h : z ∈ ks.map (·.1)) : isHost ks (.str z) = true := by
  obtain ⟨p, hp, e⟩ := List.mem_map.mp h
  exact List.any_eq_true.mpr ⟨p, hp, decide_eq_true e⟩
theorem frP (h : F t = some (.tup [u, v])) (hu : Ar F u s) (hv : Ar F v s') (e : (isHost ks u && isHost ks v && !decide (u = v)) = false) : FrB ks F (.ref t) false := e ▸ .pair h hu hv
theorem frE (h : F t = some (.tup [.str z, .str z])) : FrB ks F (.ref t) false := frP h (.str _) (.str _) (by simp)
theorem frR (h : F t = some (.tup [u, v])) (hu : Ar F u s) (hv : Ar F v s') (e : isHost ks v = false) : FrB ks F (.ref t) false := frP h hu hv (by rw [e, Bool.and_false, Bool.false_and])
theorem frLf (h : F t = some (.tup [u, v])) (hu : Ar F u s) (hv : Ar F v s') (e : isHost ks u = false) : FrB ks F (.ref t) false := frP h hu hv (by rw [e, Bool.false_and, Bool.false_and])
theorem frT (h : F t = some (.tup xs)) (n : xs.length ≠ 2) (m : xs.length ≤ 100000) : FrB ks F (.ref t) false :=
  .no (.tup h) (fun t' u v e q => by cases e; rw [h] at q; cases q; exact n rfl) (fun t' ys e q => by cases e; rw [h] at q; cases q; exact m)
theorem frL (h : F t = some (.lst xs)) : FrB ks F (.ref t) false :=
  .no (.lst h) (fun t' u v e q => by cases e; rw [h] at q; cases q) (fun t' ys e q => by cases e; rw [h] at q; cases q)
theorem frD {kvs : List (Key × V)} (h : F t = some (.dK kvs)) : FrB ks F (.ref t) false :=
  .no (.dK h) (fun t' u v e q => by cases e; rw [h] at q; cases q) (fun t' ys e q => by cases e; rw [h] at q; cases q)
theorem frA (h : Ar F x s) (n : ∀ a, x ≠ .ref a) : FrB ks F x false := .no h (fun t _ _ e _ => n t e) (fun t _ e _ => absurd e (n t))
theorem frs_true : ∀ {xs : List V}, (∀ v ∈ xs, FrB ks F v true) → ∃ bs, Paired (FrB ks F) xs bs ∧ bs.all id = true
  | [], _ => ⟨[], .nil, rfl⟩
  | x :: xs, h => by
    obtain ⟨bs, p, e⟩ := frs_true fun v hv => h v (List.mem_cons_of_mem _ hv)
    exact ⟨true :: bs, .cons (h x List.mem_cons_self) p, e⟩
theorem frs_any : ∀ {xs : List V}, (∀ v ∈ xs, ∃ b, FrB ks F v b) → ∃ bs, Paired (FrB ks F) xs bs
  | [], _ => ⟨[], .nil⟩
  | x :: xs, h => by
    obtain ⟨bs, p⟩ := frs_any fun v hv => h v (List.mem_cons_of_mem _ hv)
    obtain ⟨b, q⟩ := h x List.mem_cons_self
    exact ⟨b :: bs, .cons q p⟩
theorem frs_false : ∀ {xs : List V}, x ∈ xs → FrB ks F x false → (∀ v ∈ xs, ∃ b, FrB ks F v b) → ∃ bs, Paired (FrB ks F) xs bs ∧ bs.all id = false
  | y :: xs, hx, f, h => by
    rcases List.mem_cons.mp hx with e | hx
    · subst e
      obtain ⟨bs, p⟩ := frs_any fun v hv => h v (List.mem_cons_of_mem _ hv)
      exact ⟨false :: bs, .cons f p, rfl⟩
    · obtain ⟨bs, p, e⟩ := frs_false hx f fun v hv => h v (List.mem_cons_of_mem _ hv)
      obtain ⟨b, q⟩ := h y List.mem_cons_self
      exact ⟨b :: bs, .cons q p, by rw [List.all_cons, e, Bool.and_false]⟩
theorem framesT (h : F l = some (.lst xs)) (n : xs.length ≤ 300) (q : ∀ v ∈ xs, FrB ks F v true) : FramesB ks F (.ref l) true := by
  obtain ⟨bs, p, e⟩ := frs_true q
  have := FramesB.lst h n p
  rw [e] at this
  exact this
theorem framesF (h : F l = some (.lst xs)) (n : xs.length ≤ 300) (hx : x ∈ xs) (f : FrB ks F x false) (q : ∀ v ∈ xs, ∃ b, FrB ks F v b) : FramesB ks F (.ref l) false := by
  obtain ⟨bs, p, e⟩ := frs_false hx f q
  have := FramesB.lst h n p
  rw [e] at this
  exact this
theorem pr_true {p : Str × Str} (h : F t = some (.tup [.str p.1, .str p.2])) (h1 : p.1 ∈ ks.map (·.1)) (h2 : p.2 ∈ ks.map (·.1)) (n : p.1 ≠ p.2) : FrB ks F (.ref t) true := by
  have := FrB.pair (ks := ks) h (.str _) (.str _)
  rw [host_is h1, host_is h2, decide_eq_false (fun e => n (by injection e))] at this
  exact this
theorem sendsT : ∀ {ts : List Addr} {ps : List (Str × Str)}, TupsAt F ts ps → (∀ p ∈ ps, p.1 ∈ ks.map (·.1) ∧ p.2 ∈ ks.map (·.1) ∧ p.1 ≠ p.2) → ∀ v ∈ ts.map V.ref, FrB ks F v true
  | _, _, .nil, _, v, hv => nomatch hv
  | t :: ts, p :: ps, .cons r tp, so, v, hv => by
    rcases List.mem_cons.mp hv with e | hv
    · rw [e]
      have q := so p List.mem_cons_self
      exact pr_true r q.1 q.2.1 q.2.2
    · exact sendsT tp (fun p hp => so p (List.mem_cons_of_mem _ hp)) v hv
theorem sendsX : ∀ {ts : List Addr} {ps : List (Str × Str)}, TupsAt F ts ps → (∀ p ∈ ps, nmStr p.1 = true ∧ nmStr p.2 = true) → ∀ v ∈ ts.map V.ref, Dx F v 18 1
  | _, _, .nil, _, v, hv => nomatch hv
  | t :: ts, p :: ps, .cons r tp, so, v, hv => by
    rcases List.mem_cons.mp hv with e | hv
    · rw [e]
      have q := so p List.mem_cons_self
      exact Dx.tS r q.1 q.2
    · exact sendsX tp (fun p hp => so p (List.mem_cons_of_mem _ hp)) v hv
/-- the sends with one wrong item among them -/
theorem mixF {a : Nat} {fs : List V} (h : F l = some (.lst (fs.take a ++ [x] ++ fs.drop a))) (hl : fs.length ≤ 299) (hf : ∀ v ∈ fs, FrB ks F v true) (f : FrB ks F x false) : FramesB ks F (.ref l) false := by
  refine framesF h ?_ (x := x) (by simp) f fun v hv => ?_
  · rw [List.length_append, List.length_append, List.length_take, List.length_drop, List.length_singleton]; omega
  · rcases List.mem_append.mp hv with hv | hv
    · rcases List.mem_append.mp hv with hv | hv
      · exact ⟨_, hf v (List.mem_of_mem_take hv)⟩
      · rw [List.mem_singleton.mp hv]; exact ⟨_, f⟩
    · exact ⟨_, hf v (List.mem_of_mem_drop hv)⟩
theorem mixX {a : Nat} {fs : List V} (h : F l = some (.lst (fs.take a ++ [x] ++ fs.drop a))) (hl : fs.length ≤ 299) (hf : ∀ v ∈ fs, Dx F v 18 1) (f : Dx F x 200 3) : Dx F (.ref l) 6000 4 := by
  refine (Dx.lst h (DxA.append (DxA.append (DxA.all (w := 18) (k := 3) fun v hv => (hf v (List.mem_of_mem_take hv)).more (Nat.le_refl _) (by decide)) (DxA.cons f DxA.nil)) (DxA.all (w := 18) (k := 3) fun v hv => (hf v (List.mem_of_mem_drop hv)).more (Nat.le_refl _) (by decide)))).more ?_ (Nat.le_refl _)
  rw [List.length_take, List.length_drop]; omega
theorem xN (h : nmStr z = true) : Dx F (.str z) 8 k := (Dx.nm h).more (Nat.le_refl _) (Nat.zero_le _)
theorem xS (h : ∀ c ∈ z.cps.toList, c < 16 ^ 8 := by decide) (e : z.cps.size ≤ 8 := by decide) : Dx F (.str z) 8 k := (Dx.str h).more e (Nat.zero_le _)
theorem xI {i : Int} (h0 : -(10 ^ 39) < i := by decide) (h1 : i < 10 ^ 39 := by decide) : Dx F (.int i) 130 k := (Dx.int h0 h1).more (Nat.le_refl _) (Nat.zero_le _)
theorem xB (b : Bool) : Dx F (.bl b) 0 k := (Dx.bl b).more (Nat.le_refl _) (Nat.zero_le _)
theorem xO : Dx F .non 0 k := Dx.non.more (Nat.le_refl _) (Nat.zero_le _)
theorem xD (h : F t = some (.dK [])) : Dx F (.ref t) 0 (k + 1) := ⟨_, .dct h .nil, DOk.dict (DOkV.nil (k := k))⟩
end
theorem alN {α : Type} {p : α → Prop} : ∀ x ∈ ([] : List α), p x := fun _ h => nomatch h
theorem alC {α : Type} {p : α → Prop} {a : α} {l : List α} (h : p a) (t : ∀ x ∈ l, p x) : ∀ x ∈ a :: l, p x := List.forall_mem_cons.mpr ⟨h, t⟩
theorem alA {α : Type} {p : α → Prop} {l m : List α} (h : ∀ x ∈ l, p x) (t : ∀ x ∈ m, p x) : ∀ x ∈ l ++ m, p x := fun x hx => (List.mem_append.mp hx).elim (h x) (t x)
theorem alR {α : Type} {p : α → Prop} {l : List α} {n : Nat} (h : ∀ x ∈ l, p x) : ∀ x ∈ (List.replicate n l).flatten, p x := fun x hx => by
  obtain ⟨m, hm, q⟩ := List.mem_flatten.mp hx
  rw [List.eq_of_mem_replicate hm] at q
  exact h x q
theorem flat_len {α : Type} (n : Nat) (x : α) : ((List.replicate n [x]).flatten).length = n := by simp
theorem Led.froz {H F : Hp} {L : List (Addr × HO)} {a : Addr} {o : HO} (D : Led H F ((a, o) :: L)) : ∃ F1, Same F F1 ∧ Has F1 [(a, o)] ∧ Led H F1 L :=
  ⟨upd F a o, D.grow, fun x hx => by rw [List.mem_singleton.mp hx]; exact upd_same, D.freeze⟩
theorem bit300 (q : Bool) (n : Prop) (h : q = true → n) : ∃ j : Nat, j ≤ 300 ∧ (300 * (if q = true then (1 : Int) else 0)) = (j : Int) ∧ (j = 0 ∨ n) := by
  cases q with
  | true => exact ⟨300, by decide, by simp, .inr (h rfl)⟩
  | false => exact ⟨0, by decide, by simp, .inl rfl⟩
theorem y_disp1 {σ : L2.St} {H : Hp} {Q : VK} {k : Str} {v : V} (q : ∀ p, H p = none → Q (.ref p) (upd H p (.dK [(.inr k, v)]))) : tDisp [(tC (.str k), tC v)] σ H Q := y_disp fun p np => by
  have e : upd (upd H p (.dK [])) p (.dK [(.inr k, v)]) = upd H p (.dK [(.inr k, v)]) := by
    funext b
    by_cases h : b = p
    · rw [h, upd_same, upd_same]
    · rw [upd_ne h, upd_ne h, upd_ne h]
  have h := q p np
  rw [← e] at h
  exact ⟨upd_same, [(.inr k, v)], rfl, by simp, h⟩
theorem oneA : LineOk [("a", 0)] := ⟨by decide, by decide, by decide, by decide, by decide, by decide⟩
theorem Ar.lock {H : Hp} {x : V} {s : String} {a : Addr} {o : HO} (h : Ar H x s) (n : x ≠ .ref a) : Ar (upd H a o) x s := by
  cases h with
  | non => exact .non
  | bl b => exact .bl b
  | int i => exact .int i
  | str x => exact .str x
  | lst h => exact .lst (by rw [upd_ne (fun e => n (by rw [e]))]; exact h)
  | tup h => exact .tup (by rw [upd_ne (fun e => n (by rw [e]))]; exact h)
  | dK h => exact .dK (by rw [upd_ne (fun e => n (by rw [e]))]; exact h)
end FL
namespace FL
open PySem PySem.Spec PyProof.Rows L2

/-! ### a law's def, called by nobody else: no repr runs -/
section
variable {P : Program} {w : World} {K : PySem.W.Frag} {mg : Str → Option Value} {k : Nat} {f a : Addr} {nm x : Str} {sp : Sp} {z : Shared} {us : List Value} {ns : List Int}
/-- what the script's list is, in the abstract -/
theorem pick_script (ha : z.heap.get? a = some { cls := .type "list", data := .seq us.toArray }) (hi : IntsAre us ns) (hl : ns.length ≤ sizeLine) (kx : K.In z.heap) :
    ∃ H : Hp, HOk P w H z.heap ∧ SqL K H a (ns.map V.int) ∧ ∀ b o, H b = some o → b = a ∧ K.lookup a = none ∧ ∃ o' xs, o = .frz o' (.lst xs) := by
  have rv := vals_ints hi
  cases hk : K.lookup a with
  | some o =>
    have e := (kx a o hk).symm.trans ha
    cases e
    refine ⟨fun _ => none, (fun b o q => nomatch q), .inr ⟨_, us.toArray, _, hk, rfl, rfl, rfl, ?_, ?_⟩, fun b o q => nomatch q⟩
    · rw [List.size_toArray, hi.length]; exact hl
    · simpa using rv
  | none =>
    refine ⟨upd (fun _ => none) a (.frz { cls := .type "list", data := .seq us.toArray } (.lst (ns.map V.int))), fun b o q => ?_, .inl (.inr ⟨_, upd_same⟩), fun b o q => ?_⟩
    · by_cases hb : b = a
      · subst hb
        rw [upd_same] at q
        cases q
        exact ⟨ha, by rw [List.length_map]; exact hl, us, _, rv, ha⟩
      · rw [upd_ne hb] at q; cases q
    · by_cases hb : b = a
      · subst hb
        rw [upd_same] at q
        cases q
        exact ⟨rfl, rfl, _, _, rfl⟩
      · rw [upd_ne hb] at q; cases q
theorem run_script (M : L2.Mod K mg z.heap) (hsm : ∃ o es ep, z.heap.get? sysModules = some o ∧ o.data = .dict es ep) (hg : z.gens = #[])
    (ha : z.heap.get? a = some { cls := .type "list", data := .seq us.toArray }) (hi : IntsAre us ns) (hl : ns.length ≤ sizeLine) (hr : Room k callerA)
    (hf : mg nm = some (.ref f)) (F : ∀ base : Heap, (∃ o, base.get? sysModules = some o) → DfnG P w K mg base nm [x] k sp)
    (hsp : ∀ H : Hp, SqL K H a (ns.map V.int) → sp [.ref a] H (fun v _ => v = .bl true) fun _ _ _ => False) :
    codeAny (model P w) callerA (.call (.ref f) ⟨[.ref a], []⟩) (fun r s' => r = .ok (.ret (.bool true)) ∧ OldK z.heap s'.heap ∧ s'.os = z.os ∧ AllBare s'.gens) z := by
  obtain ⟨H, ok, hs, own⟩ := pick_script (P := P) (w := w) ha hi hl M.kin
  have notA : ∀ {b : Addr} {o : Obj} {es : Array DictEntry} {ep : Nat}, z.heap.get? b = some o → o.data = .dict es ep → H b = none := fun {b o es ep} e d => by
    cases q : H b with
    | none => rfl
    | some u =>
      obtain ⟨rfl, _⟩ := own b u q
      rw [ha] at e
      cases e
      cases (show Data.seq us.toArray _ = Data.dict es ep from d)
  have ns_up : ∀ {b : Addr} {m : Str → Option Value}, z.heap.Ns b m → (hidT z.heap H).Ns b m := fun ⟨o, es, ep, e, d, r⟩ => ⟨o, es, ep, hidT_get e (notA e d), d, r⟩
  have kin : K.In (hidT z.heap H) := fun b o e => hidT_get (M.kin b o e) (by
    cases q : H b with
    | none => rfl
    | some u =>
      obtain ⟨rfl, h, _⟩ := own b u q
      rw [h] at e
      cases e)
  obtain ⟨mb, b1, b2⟩ := M.blt
  obtain ⟨mc, c1, c2⟩ := M.nolimit
  have M' : L2.Mod K mg (hidT z.heap H) := { kin := kin, glob := ns_up M.glob, blt := ⟨mb, ns_up b1, b2⟩, nolimit := ⟨mc, ns_up c1, c2⟩ }
  have sm : ∃ o, (hidT z.heap H).get? sysModules = some o := let ⟨o, _, _, e, d⟩ := hsm; ⟨o, hidT_get e (notA e d)⟩
  have start : Env0 P w K mg (hidT z.heap H) callerA [] z H :=
    { frames := rfl, mod := M', bs := fun _ _ e => of_hidT e, bsz := Nat.le_of_eq (hidT_size _ _), funs := trivial, frf := fun b hm => absurd hm (by show b ∉ ([] : List Addr); simp), hok := ok, bare := .of_eq hg }
  obtain ⟨f', fd, hm', _, hb, FF⟩ := (F _ sm).ex
  cases hm'.symm.trans hf
  have bt := hb z [Value.ref a] M.kin rfl
  rw [List.append_nil] at bt
  have call := FF.run callerA [] z H ⟨[.ref a], []⟩ [.ref a] [.ref a] _ _ hr rfl start bt (.cons rfl .nil) (hsp H hs)
  refine codeAny_mono call fun r s' end_ => ?_
  match r, end_ with
  | .error e, h => exact False.elim h
  | .ok .next, h => exact False.elim h
  | .ok .brk, h => exact False.elim h
  | .ok .cont, h => exact False.elim h
  | .ok (.ret u), ⟨v, H', e1, e2, un, ok', rv, hv⟩ =>
    have hv : v = .bl true := hv
    subst hv
    cases (show u = Value.bool true from rv)
    refine ⟨rfl, OldK.of_keep fun b o e => ?_, e1, e2⟩
    cases q : H b with
    | none => exact un.keep b o e q (fun hm => absurd hm (by show b ∉ ([] : List Addr); simp)) (by simp)
    | some u =>
      obtain ⟨rfl, _, o', xs, rfl⟩ := own b u q
      have g1 := (ok b _ q).1
      have g2 := (ok' b _ (un.frzs b o' _ q)).1
      rw [e] at g1
      cases g1
      exact g2
end
/-- the goal that the head leaves, from what the law's def promises -/
theorem law_end {l : PySem.W.OpenLaw} {n k : Nat} {q : Program} {loose : List Str} {XP : (Str → Option Value) → Heap → Prop} {YP : World → Heap → Prop} {d : DefRec} {K : Params → PySem.W.Frag} {x : Str} {sp : PySem.W.Frag → Sp}
    (hn : l.most = some n) (hn2 : n ≤ sizeLine) (hdf : d.params.defaults = []) (hr : Room k callerA) (hY : ∀ (w : World) (h : Heap), YP w h → (K w.params).In h) (hi : importsNone q = true)
    (F : ∀ (w : World) (mg : Str → Option Value) (h : Heap), (K w.params).In h → h.Ns mainGlobals mg → XP mg h → ∀ base : Heap, (∃ o, base.get? sysModules = some o) → DfnG l.prog w (K w.params) mg base d.name [x] k (sp (K w.params)))
    (hsp : ∀ (K : PySem.W.Frag) (H : Hp) (a : Addr) (ns : List Int), ns.length ≤ n → SqL K H a (ns.map V.int) → sp K [.ref a] H (fun v _ => v = .bl true) fun _ _ _ => False) :
    PySem.W.WalkO q loose XP YP l.row.toRowW d [] (fun f vs => PySem.call f vs) := by
  refine Att.attach_call hn hdf fun w s₀ z mg mb fa o pm cd doc a us ns G Y ho hd hcd hmg hobj hints hlen hg => ?_
  have kx := hY w _ Y
  obtain ⟨mm, m1, _⟩ := (G.T.seer hi).mods
  obtain ⟨so, es, ep, m2, m3, _⟩ := m1
  exact run_script ⟨kx, G.T.g, ⟨mb, G.T.b, G.T.builtins⟩, G.T.nolimit⟩ ⟨so, es, ep, m2, m3⟩ hg hobj hints (Nat.le_trans hlen hn2) hr hmg (F w mg z.heap kx G.T.g G.X) (fun H hS => hsp _ H a ns hlen hS)
end FL
namespace FL
open PySem PySem.Spec PyProof.Rows L2

/-! ### intervals as data -/
abbrev Span := Option (Option Int × Option Int)
def oV : Option Int → V
  | none => .non
  | some i => .int i
def SpanAt (F : Hp) (v : V) : Span → Prop
  | none => v = .non
  | some (l, h) => ∃ t, v = .ref t ∧ F t = some (.tup [oV l, oV h])
theorem SpanAt.mono {F F' : Hp} {v : V} : ∀ {s : Span}, Same F F' → SpanAt F v s → SpanAt F' v s
  | none, _, h => h
  | some (_, _), e, ⟨t, h1, h2⟩ => ⟨t, h1, e _ _ h2⟩
def lowOk : Option Int → Int → Bool
  | none, _ => true
  | some i, p => decide (i ≤ p)
def highOk : Option Int → Int → Bool
  | none, _ => true
  | some i, p => decide (p ≤ i)
def inSpan : Span → Int → Bool
  | none, _ => false
  | some (l, h), p => lowOk l p && highOk h p

/-! ### dicts with text keys, any values; states -/
def strK (es : List (Str × V)) : List (Key × V) := es.map fun p => (.inr p.1, p.2)
theorem strK_app (es fs : List (Str × V)) : strK (es ++ fs) = strK es ++ strK fs := List.map_append ..
theorem strK_len (es : List (Str × V)) : (strK es).length = es.length := List.length_map ..
theorem strK_keys (es : List (Str × V)) : (strK es).map (·.1) = (es.map (·.1)).map Sum.inr := by
  unfold strK
  rw [List.map_map, List.map_map]; rfl
theorem putK_str {es : List (Str × V)} {z : Str} (v : V) (h : z ∉ es.map (·.1)) : putK (strK es) (.inr z) v = strK (es ++ [(z, v)]) := by
  unfold putK
  rw [if_neg]
  · rw [strK_app]; rfl
  · rw [List.any_eq_true]
    rintro ⟨kv, hm, e⟩
    have e := of_decide_eq_true e
    obtain ⟨p, hp, rfl⟩ := List.mem_map.mp hm
    have e : (Sum.inr p.1 : Key) = Sum.inr z := e
    injection e with e
    exact h (List.mem_map.mpr ⟨p, hp, e⟩)
theorem merge_str : ∀ (fs es : List (Str × V)), ((es ++ fs).map (·.1)).Nodup → mergeK (strK es) (strK fs) = strK (es ++ fs)
  | [], es, _ => by rw [List.append_nil]; rfl
  | p :: fs, es, h => by
    show mergeK (putK (strK es) (.inr p.1) p.2) (strK fs) = _
    have hn : p.1 ∉ es.map (·.1) := fun z => by
      rw [List.map_append, List.map_cons, List.nodup_append] at h
      exact h.2.2 _ z _ List.mem_cons_self rfl
    rw [putK_str p.2 hn, merge_str fs _ (by rw [List.append_assoc]; exact h), List.append_assoc]; rfl
theorem valV_str {z : Str} {v : V} : ∀ {es : List (Str × V)}, (z, v) ∈ es → (es.map (·.1)).Nodup → valV (strK es) (.inr z) = some v
  | p :: es, h, nd => by
    show valV ((Sum.inr p.1, p.2) :: strK es) (Sum.inr z : Key) = _
    rcases List.mem_cons.mp h with e | h
    · rw [valV_pos (by show (Sum.inr p.1 : Key) = Sum.inr z; rw [← e]), ← e]
    · have hn := List.nodup_cons.mp nd
      have ne : p.1 ≠ z := fun e => hn.1 (by show p.1 ∈ _; rw [e]; exact List.mem_map.mpr ⟨_, h, rfl⟩)
      have ih := valV_str h hn.2
      unfold valV at ih ⊢
      rw [List.find?_cons_of_neg (by simp; exact ne)]
      exact ih
/-- a state stands at d: the hosts in some order, the interval of each -/
def StAt (F : Hp) (ks : List (Str × Int)) (d : Addr) (sp : Str → Span) : Prop :=
  ∃ es : List (Str × V), F d = some (.dK (strK es)) ∧ (es.map (·.1)).Perm (ks.map (·.1)) ∧ ∀ p ∈ es, SpanAt F p.2 (sp p.1)
theorem StAt.mono {F F' : Hp} {ks : List (Str × Int)} {d : Addr} {sp : Str → Span} (s : Same F F') : StAt F ks d sp → StAt F' ks d sp :=
  fun ⟨es, h1, h2, h3⟩ => ⟨es, s _ _ h1, h2, fun p hp => (h3 p hp).mono s⟩
/-- an interval that a host at o may have on the line ks -/
def spanOk (ks : List (Str × Int)) (o : Int) : Span → Prop
  | none => True
  | some (l, h) => (∀ i, l = some i → i ∈ ks.map (·.2) ∧ i ≤ o) ∧ ∀ i, h = some i → i ∈ ks.map (·.2) ∧ o ≤ i

/-! ### a comprehension over a dict's values, the dict locked meanwhile; its items make nothing new -/
section
variable {H F H' : Hp} {L : List (Addr × HO)} {a : Addr} {o u : HO}
theorem Led.lockF (D : Led H F L) (hf : F a = some u) : Led (upd H a o) (upd F a o) L := by
  refine ⟨fun b x e => ?_, fun x hx => ?_, D.nd⟩
  · by_cases hb : b = a
    · subst hb; rw [upd_same] at e ⊢; exact e
    · rw [upd_ne hb] at e ⊢; exact D.ext b x e
  · have q := D.ent x hx
    have ne : x.1 ≠ a := fun e => by rw [e, hf] at q; cases q.2
    rw [upd_ne ne, upd_ne ne]; exact q
theorem Led.unlock (D : Led H' (upd F a o) L) (hf : F a = some u) : Led (upd H' a u) F L := by
  refine ⟨fun b x e => ?_, fun x hx => ?_, D.nd⟩
  · by_cases hb : b = a
    · subst hb; rw [hf] at e; rw [upd_same]; exact e
    · rw [upd_ne hb]; exact D.ext b x (by rw [upd_ne hb]; exact e)
  · have q := D.ent x hx
    have ne : x.1 ≠ a := fun e => by rw [e, upd_same] at q; cases q.2
    rw [upd_ne ne] at q ⊢; exact q
theorem walk_vals {kvs : List (Key × V)} {od : Obj} : WalkIt (Itd a od kvs) kvs.length (fun i x => ∃ k, kvs[i]? = some (k, x)) (fun H => H a = some (.frz od (.dK kvs))) where
  go := fun i H h hi => ⟨h, hi⟩
  yld := fun i H x H' h y => ⟨y.1, y.2⟩
  stop := fun H h => ⟨h, Nat.le_refl _⟩
end
section
variable {σ : L2.St} {H F : Hp} {L : List (Addr × HO)} {a : Addr} {kvs : List (Key × V)} {Q : VK} {g : TG} {tt : TT} {te tc : TE} {vs : List Nat}
theorem lc_lockVals (D0 : Led H F L) (hf : F a = some (.dK kvs)) (hn : kvs.length ≤ 100000) (acc : Nat → List V) (h0 : acc 0 = []) (he : ∀ H1 R, R (.ref a) H1 → tc σ H1 R)
    (turn : ∀ (od : Obj) (Kp : V → Hp → Prop) (Sk : Hp → Prop) i H' x k, kvs[i]? = some (k, x) → H' a = some (.frz od (.dK kvs)) → (∀ y, acc (i + 1) = acc i ++ [y] → Kp y H') → (acc (i + 1) = acc i → Sk H') →
      g x (wipe σ vs) H' fun σ2 H2 => wipe σ2 vs = wipe σ vs ∧ tt σ2 H2 fun b H3 => if b = true then te σ2 H3 Kp else Sk H3)
    (done : ∀ Dl H', Led H' F ((Dl, .lst (acc kvs.length)) :: L) → Q (.ref Dl) H') : tLockE (tLc (iVals tc) g tt te vs) σ H Q := by
  refine ⟨a, .dK kvs, D0.frz hf, trivial, fun od => ?_⟩
  refine y_lc (he _ _ ⟨a, od, kvs, rfl, upd_same, ?_⟩)
  refine lc_led (D0.lockF hf) walk_vals hn (fun i ac F' L' => F' = upd F a (.frz od (.dK kvs)) ∧ L' = L ∧ ac = acc i) ⟨rfl, rfl, h0.symm⟩ (fun i ac F' L' H' Dl ⟨e, _, _⟩ D => D.frz (by rw [e, upd_same])) ?_ ?_
  · rintro Kp Sk i ac F' L' H' Dl x hi ⟨k, hx⟩ ⟨rfl, rfl, rfl⟩ D ha kp sk
    exact turn od Kp Sk i H' x k hx (D.frz upd_same) (fun y e => kp y _ _ H' D ⟨rfl, rfl, e.symm⟩) (fun e => sk _ _ H' D ⟨rfl, rfl, e.symm⟩)
  · rintro ac F' L' H' Dl ⟨rfl, rfl, rfl⟩ D ha
    exact ⟨D.frz upd_same, done Dl _ (D.unlock hf)⟩
end
theorem line_at {ks : List (Str × Int)} {i : Nat} {k : Key} {v : V} (h : (lineK ks)[i]? = some (k, v)) : ∃ p, ks[i]? = some p ∧ (k, v) = (.inr p.1, .int p.2) := by
  unfold lineK at h
  rw [List.getElem?_map] at h
  cases e : ks[i]? with
  | none => rw [e] at h; cases h
  | some p => rw [e] at h; exact ⟨p, rfl, (Option.some.inj h).symm⟩
theorem side_at {ks : List (Str × Int)} {pr : Str × Int → Bool} {d : Int} (h0 : 0 ≤ d) (h1 : d < ((((ks.filter pr).map fun p => V.int p.2) ++ [V.non]).length : Int)) :
    ∃ l : Option Int, atI (((ks.filter pr).map fun p => V.int p.2) ++ [V.non]) d = some (oV l) ∧ ∀ i, l = some i → ∃ p ∈ ks, p.2 = i ∧ pr p = true := by
  obtain ⟨k, rfl⟩ := Int.eq_ofNat_of_zero_le h0
  have hk : k < (((ks.filter pr).map fun p => V.int p.2) ++ [V.non]).length := by omega
  have hm := List.getElem_mem hk
  have e := List.getElem?_eq_getElem hk
  rcases List.mem_append.mp hm with m | m
  · obtain ⟨p, hp, q⟩ := List.mem_map.mp m
    obtain ⟨p1, p2⟩ := List.mem_filter.mp hp
    refine ⟨some p.2, at_nat (by rw [e, ← q]; rfl), fun i e => ?_⟩
    cases e
    exact ⟨p, p1, rfl, p2⟩
  · refine ⟨none, at_nat (by rw [e, List.mem_singleton.mp m]; rfl), fun i e => nomatch e⟩
theorem take_fresh {ys : List Str} {i : Nat} {z : Str} (nd : ys.Nodup) (h : ys[i]? = some z) : z ∉ ys.take i := fun m => by
  have e : ys.take (i + 1) = ys.take i ++ [z] := by rw [List.take_add_one, h]; rfl
  have n2 : (ys.take (i + 1)).Nodup := nd.sublist (List.take_sublist _ _)
  rw [e, List.nodup_append] at n2
  exact n2.2.2 z m z List.mem_cons_self rfl
theorem posOf_eq {ks : List (Str × Int)} {p : Str × Int} (nd : (ks.map (·.1)).Nodup) (h : p ∈ ks) : posOf ks p.1 = p.2 := by
  have h1 := valV_line_some (z := p.1) (n := p.2) h nd
  have h2 := valV_line_some (posOf_in (List.mem_map.mpr ⟨p, h, rfl⟩)) nd
  rw [h1] at h2
  exact (V.int.inj (Option.some.inj h2)).symm
/-- intervals by name, out of a list -/
def spOf (fs : List (Str × Span)) (z : Str) : Span := ((fs.find? fun f => decide (f.1 = z)).map (·.2)).getD none
theorem spOf_in : ∀ {fs : List (Str × Span)} {f : Str × Span}, (fs.map (·.1)).Nodup → f ∈ fs → spOf fs f.1 = f.2
  | g :: fs, f, nd, h => by
    have hn := List.nodup_cons.mp nd
    unfold spOf
    rcases List.mem_cons.mp h with e | h
    · rw [List.find?_cons_of_pos (by simp [e]), e]; rfl
    · have ne : g.1 ≠ f.1 := fun e => hn.1 (by show g.1 ∈ _; rw [e]; exact List.mem_map.mpr ⟨f, h, rfl⟩)
      rw [List.find?_cons_of_neg (by simp; exact ne)]
      exact spOf_in hn.2 h
theorem paired_mem {α β : Type} {F : α → β → Prop} : ∀ {xs : List α} {ys : List β}, Paired F xs ys → ∀ x ∈ xs, ∃ y ∈ ys, F x y
  | _, _, .nil, x, h => nomatch h
  | _, _, .cons r t, x, h => by
    rcases List.mem_cons.mp h with e | h
    · subst e; exact ⟨_, List.mem_cons_self, r⟩
    · obtain ⟨y, h1, h2⟩ := paired_mem t x h
      exact ⟨y, List.mem_cons_of_mem _ h1, h2⟩
theorem paired_fst {G : (Str × V) → (Str × Span) → Prop} : ∀ {es : List (Str × V)} {fs : List (Str × Span)}, Paired G es fs → (∀ e f, G e f → e.1 = f.1) → es.map (·.1) = fs.map (·.1)
  | _, _, .nil, _ => rfl
  | _, _, .cons r t, h => by rw [List.map_cons, List.map_cons, h _ _ r, paired_fst t h]
end FL
/-! ### sorted of pairs of an int and a text, no int with two texts -/
namespace SrtF
open PySem PySem.W PySem.Calls PyProof.Rows Srt SrtO
def IsIS (h : Heap) (v : Value) (x : Int) (z : Str) : Prop := ∃ b ob t u n, v = .ref b ∧ h.get? b = some ob ∧ ob.cls = .type "tuple" ∧ ob.data = .seq #[.int x t, .str z u] n
theorem IsIS.up {h h' : Heap} {v : Value} {x : Int} {z : Str} (p : IsIS h v x z) (k : ∀ b o, h.get? b = some o → o.cls = .type "tuple" → h'.get? b = some o) : IsIS h' v x z :=
  let ⟨b, ob, t, u, n, e1, e2, e3, e4⟩ := p; ⟨b, ob, t, u, n, e1, k _ _ e2 e3, e3, e4⟩
def byFst (k : Value → Int × Str) (v u : Value) : Bool := decide ((k v).1 < (k u).1)
theorem swo_fst {α : Type} (f : α → Int) : Swo fun v u => decide (f v < f u) :=
  ⟨fun x y h => decide_eq_false (by have := of_decide_eq_true h; omega), fun x y z h1 h2 => decide_eq_false (by have := of_decide_eq_false h1; have := of_decide_eq_false h2; omega)⟩
theorem heads_of {h : Heap} : ∀ {us : List Value}, (∀ v ∈ us, ∃ x z, IsIS h v x z) → ∃ fs : List Value, KatTups h us fs ∧ fs.length = us.length ∧ ∀ f ∈ fs, ∃ x t, f = Value.int x t
  | [], _ => ⟨[], .nil, rfl, fun _ q => nomatch q⟩
  | v :: us, hp => by
    obtain ⟨fs, k1, k2, k3⟩ := heads_of (us := us) fun y hy => hp y (.tail _ hy)
    obtain ⟨x, z, b, ob, t, u, n, rfl, e2, e3, e4⟩ := hp v (.head _)
    refine ⟨.int x t :: fs, .cons e2 e3 e4 rfl k1, by simp [k2], fun f hf => ?_⟩
    rcases List.mem_cons.mp hf with e | hf
    · exact ⟨x, t, e⟩
    · exact k3 f hf
section
variable {prog : Program} {w : World} {A : Around} {E : Value → Shared → Prop} {s : Shared}
theorem cmp_is {us : List Value} {k : Value → Int × Str} (hp : ∀ v ∈ us, IsIS s.heap v (k v).1 (k v).2) (hd : ∀ v ∈ us, ∀ u ∈ us, (k v).1 = (k u).1 → (k v).2 = (k u).2) :
    Cmp prog w A s (tuples' true) (fun p => p.1 ∈ us) (lt2 (byFst k)) := by
  intro p q mp mq
  have ip := hp _ mp
  have iq := hp _ mq
  have dd := hd _ mp _ mq
  show wpAny (model prog w) A (keyLt' (tuples' true) p.1 q.1) (fun r s' => s' = s ∧ r = decide ((k p.1).1 < (k q.1).1)) (fun _ _ => False) s
  generalize (k p.1).1 = x at ip dd ⊢
  generalize (k p.1).2 = z at ip dd
  generalize (k q.1).1 = x' at iq dd ⊢
  generalize (k q.1).2 = z' at iq dd
  obtain ⟨b, ob, t, u, n, e1, e2, e3, e4⟩ := ip
  obtain ⟨b', ob', t', u', n', e1', e2', e3', e4'⟩ := iq
  rw [e1, e1']
  refine kat_lt e2 e4 e2' e4' ?_
  show KatLex prog w A true (decide (2 < 2)) _ [(.int x t, .int x' t'), (.str z u, .str z' u')] 0 s
  refine kat_cons (SeqAt.EqAt.int_int x t x' t' prog w _ _ ?_)
  refine kat_go (fun eq => ?_) (fun ne => ?_)
  · have ex : x = x' := by simpa using eq
    have ez := dd ex
    subst ex ez
    refine kat_yes (kat_cons (SeqAt.EqAt.str_str z u z u' prog w _ _ ?_))
    refine kat_go (fun _ => ?_) (fun ne => ?_)
    · exact kat_yes (kat_nil ⟨rfl, (decide_eq_false (Int.lt_irrefl _)).symm⟩)
    · exact absurd ne (by simp)
  · exact kat_no (oneLt_int ⟨rfl, rfl⟩)
theorem sorted_is {l : Addr} {us : List Value} {k : Value → Int × Str} {Q : Value → Shared → Prop} (hl : s.heap.IsList l us.toArray) (hz : us.length ≤ sizeLine) (hp : ∀ v ∈ us, IsIS s.heap v (k v).1 (k v).2)
    (hd : ∀ v ∈ us, ∀ u ∈ us, (k v).1 = (k u).1 → (k v).2 = (k u).2)
    (h : ∀ (h' : Heap) (d : Addr) (out : List Value), Srtd (byFst k) out → out.Perm us → (∀ b o, s.heap.get? b = some o → h'.get? b = some o) → s.heap.objs.size ≤ d → (∃ n, h'.get? d = some (seqObj "list" out.toArray n)) → Q (.ref d) { s with heap := h' }) :
    wpAny (model prog w) A (call (.builtin "sorted") [.ref l]) Q E s := by
  refine sorted_ord (swo_fst fun v => (k v).1) hl hz (fun h2 h1 a ha kk => ?_) fun out hs hb => h _ _ out hs hb.perm (fun b o e => sortedAll_old e) (Nat.le_succ _) (sortedAll_at s.heap us out.toArray)
  intro h' keep
  have at1 : ∀ v ∈ us, IsIS h' v (k v).1 (k v).2 := fun v hv => (hp v hv).up fun b o e c => keep b o (fun z => by
    subst z
    exact (kk _ _ e).1 rfl) (kk _ _ e).2
  obtain ⟨fs, k1, k2, k3⟩ := heads_of fun v hv => ⟨_, _, at1 v hv⟩
  refine ⟨tuples' true, fun Q E hq => ?_, cmp_is at1 hd⟩
  refine kat_kind (T := .type "int") k1 (by omega) (fun f hf => ?_) (by rfl) ?_
  · obtain ⟨x, t, rfl⟩ := k3 f hf
    exact Looks.now
  · rw [show (Value.type "int" != Value.type "tuple") = true from by decide +kernel]
    exact hq
end
end SrtF
namespace FL
open PySem PySem.Spec PyProof.Rows L2
def rSortedF (K : PySem.W.Frag) : List V → Hp → VK → Prop := fun vs H Q => ∃ (a : Addr) (xs : List V) (k : V → Int × Str), vs = [V.ref a] ∧ SqL K H a xs ∧ (∀ x ∈ xs, ∃ t, x = V.ref t ∧ H t = some (.tup [.int (k x).1, .str (k x).2])) ∧
  (∀ x ∈ xs, ∀ y ∈ xs, (k x).1 = (k y).1 → (k x).2 = (k y).2) ∧ ∀ ys p, ys.Perm xs → ys.Pairwise (fun x y => (k x).1 ≤ (k y).1) → H p = none → Q (.ref p) (upd H p (.lst ys))
theorem cr_sortedF {X : Cx} : CallR X (.builtin "sorted") (rSortedF X.K) := by
  intro pins s σ H vs us Q I r h
  obtain ⟨a, xs, k, rfl, hs, hx, hd, q⟩ := h
  obtain ⟨its, rv, hl, hz⟩ := I.list hs
  obtain ⟨u, rfl, ru⟩ := vals1 r
  obtain rfl : u = Value.ref a := ru
  obtain ⟨e1, e2⟩ := refs_back rv fun x m => let ⟨t, e, _⟩ := hx x m; ⟨t, e⟩
  have inX : ∀ v ∈ its, backV v ∈ xs := fun v hv => by rw [e1]; exact List.mem_map.mpr ⟨_, hv, rfl⟩
  refine SrtF.sorted_is (k := fun u => k (backV u)) hl.isList (by rw [← rv.length]; exact hz) (fun v hv => ?_) (fun v hv u hu => hd _ (inX v hv) _ (inX u hu)) fun h' d out h1 h2 kp hd2 hn => ?_
  · have hm := inX v hv
    obtain ⟨t, rfl⟩ := e2 v hv
    obtain ⟨t', e, ht⟩ := hx _ hm
    cases e
    obtain ⟨_, its2, r2, o, ho, hc, n, hd3⟩ := I.hok _ _ ht
    obtain ⟨u1, u2, rfl, ⟨t1, rfl⟩, ⟨t2, rfl⟩⟩ := vals2 r2
    exact ⟨t, o, t1, t2, n, rfl, ho, hc, hd3⟩
  · have h3 : ∀ u ∈ out, ∃ a, u = Value.ref a := fun u hu => e2 u (h2.mem_iff.mp hu)
    obtain ⟨n, hn⟩ := hn
    have hb : (out.map backV).Perm xs := by rw [e1]; exact h2.map backV
    refine ⟨.ref d, upd H d (.lst (out.map backV)), I.laid (t' := s.toks) kp hd2 ⟨by rw [hb.length_eq]; exact hz, out, n, vals_back h3, hn⟩, rfl, q _ d hb ?_ (I.hok.fresh hd2)⟩
    exact List.pairwise_map.mpr (h1.imp fun {v u} e => Int.not_lt.mp (of_decide_eq_false e))
end FL
namespace FL
open PySem PySem.Spec PyProof.Rows L2
section
variable {σ : L2.St} {H F : Hp} {L : List (Addr × HO)} {a : Addr} {kvs : List (Key × V)} {Q : VK} {g : TG} {tt : TT} {te tc : TE} {vs : List Nat}
/-- a comprehension over a dict's items, the dict locked meanwhile -/
theorem lc_lockItems (D0 : Led H F L) (hf : F a = some (.dK kvs)) (hn : kvs.length ≤ 100000) (Inv : Nat → List V → Hp → Prop) (h0 : ∀ F', Inv 0 [] F') (he : ∀ H1 R, R (.ref a) H1 → tc σ H1 R)
    (turn : ∀ (od : Obj) (Kp : V → Hp → Prop) (Sk : Hp → Prop) i acc F' H' T Dl k v, kvs[i]? = some (k, v) → F' a = some (.frz od (.dK kvs)) → Inv i acc F' → Led H' F' ((Dl, .lst acc) :: L) → F' T = some (.tup [kV k, v]) → acc.length ≤ i →
      (∀ y F2 H4, Same F' F2 → Led H4 F2 ((Dl, .lst acc) :: L) → Inv (i + 1) (acc ++ [y]) F2 → Kp y H4) →
      g (.ref T) (wipe σ vs) H' fun σ2 H2 => wipe σ2 vs = wipe σ vs ∧ tt σ2 H2 fun b H3 => if b = true then te σ2 H3 Kp else Sk H3)
    (mono : ∀ i acc F1 F2, Inv i acc F1 → Same F1 F2 → Inv i acc F2)
    (fin : ∀ od acc F1 F2, Inv kvs.length acc F1 → F1 a = some (.frz od (.dK kvs)) → (∀ b o, b ≠ a → F1 b = some o → F2 b = some o) → Inv kvs.length acc F2)
    (done : ∀ acc Dl F' H', Same F F' → Inv kvs.length acc F' → Led H' F' ((Dl, .lst acc) :: L) → acc.length ≤ kvs.length → Q (.ref Dl) H') : tLockE (tLc (iItems tc) g tt te vs) σ H Q := by
  refine ⟨a, .dK kvs, D0.frz hf, trivial, fun od => ?_⟩
  refine y_lc (he _ _ ⟨a, od, kvs, rfl, upd_same, ?_⟩)
  have D1 := D0.lockF (o := .frz od (.dK kvs)) hf
  intro Dl hD
  refine ⟨fun i m H' => m = kvs.length - i ∧ i ≤ kvs.length ∧ ∃ acc F', Same (upd F a (.frz od (.dK kvs))) F' ∧ Led H' F' ((Dl, .lst acc) :: L) ∧ Inv i acc F' ∧ acc.length ≤ i, ⟨kvs.length, by omega, by omega, [], _, Same.refl _, D1.new hD, h0 _, Nat.le_refl _⟩, ?_⟩
  rintro i m H' ⟨rfl, hi, acc, F', s, D, I, ha⟩
  have hfa : F' a = some (.frz od (.dK kvs)) := s _ _ upd_same
  by_cases hlt : i < kvs.length
  · refine .inr ⟨⟨D.frz hfa, hlt⟩, fun H2 => i + 1 ≤ kvs.length ∧ ∃ acc F', Same (upd F a (.frz od (.dK kvs))) F' ∧ Led H2 F' ((Dl, .lst acc) :: L) ∧ Inv (i + 1) acc F' ∧ acc.length ≤ i + 1, fun H2 ⟨_, q⟩ => ⟨kvs.length - (i + 1), by omega, rfl, hlt, q⟩, fun x H2 y => ?_⟩
    obtain ⟨T, k, v, e, rfl, hT, rfl⟩ := y
    obtain ⟨F2, s2, hT2, -, D2⟩ := D.nf hT rfl
    exact turn od _ _ i acc F2 _ T Dl k v e (s2 _ _ hfa) (mono _ _ _ _ I s2) D2 hT2 ha
      (fun y F3 H4 s3 D3 I3 => ⟨acc, D3.get 0, lt_line (by omega), hlt, acc ++ [y], F3, s.trans (s2.trans s3), D3.set 0, I3, by simp; omega⟩)
  · have e : i = kvs.length := by omega
    subst e
    refine .inl ⟨⟨D.frz hfa, Nat.le_refl _⟩, D.frz hfa, ?_⟩
    exact done acc Dl (upd F' a (.dK kvs)) _ (same_lock hf s) (fin od acc F' _ I hfa fun b o nb e => by rw [upd_ne nb]; exact e) (D.lockF hfa) ha
end
/-- the hosts by their positions: no two ways -/
theorem ord_uniq : ∀ {l m : List (Str × Int)}, l.Perm m → l.Pairwise (fun x y => x.2 < y.2) → m.Pairwise (fun x y => x.2 < y.2) → l = m
  | [], m, p, _, _ => (List.Perm.eq_nil p.symm).symm
  | x :: l, [], p, _, _ => absurd p.length_eq (by simp)
  | x :: l, y :: m, p, hl, hm => by
    obtain ⟨x1, x2⟩ := List.pairwise_cons.mp hl
    obtain ⟨y1, y2⟩ := List.pairwise_cons.mp hm
    have e : x = y := by
      rcases List.mem_cons.mp (p.mem_iff.mp (List.mem_cons_self (a := x) (l := l))) with e | hx
      · exact e
      · rcases List.mem_cons.mp (p.mem_iff.mpr (List.mem_cons_self (a := y) (l := m))) with e | hy
        · exact e.symm
        · have := y1 _ hx
          have := x1 _ hy
          omega
    subst e
    rw [ord_uniq (List.Perm.cons_inv p) x2 y2]
def byPos (ks os : List (Str × Int)) : Prop := os.Perm ks ∧ os.Pairwise fun x y => x.2 < y.2
/-- an int and a text out of a tuple -/
def kOf (F : Hp) : V → Int × Str
  | .ref t => match F t with
    | some (.tup [.int i, .str z]) => (i, z)
    | _ => (0, "")
  | _ => (0, "")
theorem kOf_at {F : Hp} {t : Addr} {i : Int} {z : Str} (h : F t = some (.tup [.int i, .str z])) : kOf F (.ref t) = (i, z) := by
  show (match F t with | some (.tup [.int i, .str z]) => (i, z) | _ => (0, Str.ofString "")) = (i, z)
  rw [h]
def IsAt (F : Hp) (ts : List Addr) (ps : List (Str × Int)) : Prop := Paired (fun t (p : Str × Int) => F t = some (.tup [.int p.2, .str p.1])) ts ps
theorem kOf_map {F : Hp} : ∀ {ts : List Addr} {ps : List (Str × Int)}, IsAt F ts ps → (ts.map V.ref).map (fun x => ((kOf F x).2, (kOf F x).1)) = ps
  | _, _, .nil => rfl
  | _, _, .cons r t => by rw [List.map_cons, List.map_cons, kOf_at r, kOf_map t]
theorem kOf_mem {F : Hp} {ts : List Addr} {ps : List (Str × Int)} (h : IsAt F ts ps) : ∀ x ∈ ts.map V.ref, ∃ t, x = V.ref t ∧ F t = some (.tup [.int (kOf F x).1, .str (kOf F x).2]) ∧ ((kOf F x).2, (kOf F x).1) ∈ ps := fun x hx => by
  obtain ⟨t, ht, rfl⟩ := List.mem_map.mp hx
  obtain ⟨p, hp, e⟩ := paired_mem h t ht
  rw [kOf_at e]
  exact ⟨t, rfl, e, hp⟩
theorem pos_inj {ks : List (Str × Int)} (nd : (ks.map (·.2)).Nodup) {p q : Str × Int} (hp : p ∈ ks) (hq : q ∈ ks) (e : p.2 = q.2) : p = q := by
  induction ks with
  | nil => cases hp
  | cons x ks ih =>
    obtain ⟨n1, n2⟩ := List.nodup_cons.mp nd
    rcases List.mem_cons.mp hp with e1 | h1 <;> rcases List.mem_cons.mp hq with e2 | h2
    · rw [e1, e2]
    · subst e1; exact absurd (List.mem_map.mpr ⟨q, h2, e.symm⟩) n1
    · subst e2; exact absurd (List.mem_map.mpr ⟨p, h1, e⟩) n1
    · exact ih n2 h1 h2
theorem sorted_byPos {F : Hp} {ks : List (Str × Int)} {ts : List Addr} {ys : List V} (nd : (ks.map (·.2)).Nodup) (pt : IsAt F ts ks) (perm : ys.Perm (ts.map V.ref)) (srt : ys.Pairwise fun x y => (kOf F x).1 ≤ (kOf F y).1) :
    byPos ks (ys.map fun x => ((kOf F x).2, (kOf F x).1)) := by
  have pm : (ys.map fun x => ((kOf F x).2, (kOf F x).1)).Perm ks := by
    have := perm.map fun x => ((kOf F x).2, (kOf F x).1)
    rwa [kOf_map pt] at this
  refine ⟨pm, List.pairwise_map.mpr ?_⟩
  have n2 : (ys.map fun x => (kOf F x).1).Nodup := by
    have := (pm.map (·.2)).nodup_iff.mpr nd
    rw [List.map_map] at this
    exact this
  have n3 : ys.Pairwise fun x y => (kOf F x).1 ≠ (kOf F y).1 := List.pairwise_map.mp n2
  exact (srt.and n3).imp fun {x y} h => by
    have h1 := h.1
    have h2 := h.2
    show (kOf F x).1 < (kOf F y).1
    omega
end FL
namespace FL
open PySem PySem.Spec PyProof.Rows L2
section
variable {σ : L2.St} {H F : Hp} {L : List (Addr × HO)} {a : Addr} {kvs : List (Key × V)} {Q : VK} {g : TG} {tt : TT} {te tc : TE} {vs : List Nat}
/-- a comprehension over a dict's keys, the dict locked meanwhile -/
theorem lc_lockKeys (D0 : Led H F L) (hf : F a = some (.dK kvs)) (hn : kvs.length ≤ 100000) (Inv : Nat → List V → Hp → Prop) (h0 : ∀ F', Inv 0 [] F') (he : ∀ H1 R, R (.ref a) H1 → tc σ H1 R)
    (turn : ∀ (od : Obj) (Kp : V → Hp → Prop) (Sk : Hp → Prop) i acc F' H' Dl k v, kvs[i]? = some (k, v) → Same (upd F a (.frz od (.dK kvs))) F' → Inv i acc F' → Led H' F' ((Dl, .lst acc) :: L) → acc.length ≤ i →
      (∀ y F2 H4, Same F' F2 → Led H4 F2 ((Dl, .lst acc) :: L) → Inv (i + 1) (acc ++ [y]) F2 → Kp y H4) → (∀ F2 H3, Same F' F2 → Led H3 F2 ((Dl, .lst acc) :: L) → Inv (i + 1) acc F2 → Sk H3) →
      g (kV k) (wipe σ vs) H' fun σ2 H2 => wipe σ2 vs = wipe σ vs ∧ tt σ2 H2 fun b H3 => if b = true then te σ2 H3 Kp else Sk H3)
    (fin : ∀ od acc F1 F2, Inv kvs.length acc F1 → F1 a = some (.frz od (.dK kvs)) → (∀ b o, b ≠ a → F1 b = some o → F2 b = some o) → Inv kvs.length acc F2)
    (done : ∀ acc Dl F' H', Same F F' → Inv kvs.length acc F' → Led H' F' ((Dl, .lst acc) :: L) → acc.length ≤ kvs.length → Q (.ref Dl) H') : tLockE (tLc (iKeys tc) g tt te vs) σ H Q := by
  refine ⟨a, .dK kvs, D0.frz hf, trivial, fun od => ?_⟩
  refine y_lc (he _ _ ⟨a, od, rfl, .inl ⟨kvs, upd_same, ?_⟩⟩)
  have D1 := D0.lockF (o := .frz od (.dK kvs)) hf
  intro Dl hD
  refine ⟨fun i m H' => m = kvs.length - i ∧ i ≤ kvs.length ∧ ∃ acc F', Same (upd F a (.frz od (.dK kvs))) F' ∧ Led H' F' ((Dl, .lst acc) :: L) ∧ Inv i acc F' ∧ acc.length ≤ i, ⟨kvs.length, by omega, by omega, [], _, Same.refl _, D1.new hD, h0 _, Nat.le_refl _⟩, ?_⟩
  rintro i m H' ⟨rfl, hi, acc, F', s, D, I, ha⟩
  have hfa : F' a = some (.frz od (.dK kvs)) := s _ _ upd_same
  by_cases hlt : i < kvs.length
  · refine .inr ⟨⟨D.frz hfa, hlt⟩, fun H2 => i + 1 ≤ kvs.length ∧ ∃ acc F', Same (upd F a (.frz od (.dK kvs))) F' ∧ Led H2 F' ((Dl, .lst acc) :: L) ∧ Inv (i + 1) acc F' ∧ acc.length ≤ i + 1, fun H2 ⟨_, q⟩ => ⟨kvs.length - (i + 1), by omega, rfl, hlt, q⟩, fun x H2 y => ?_⟩
    obtain ⟨rfl, k, v, e, rfl⟩ := y
    exact turn od _ _ i acc F' _ Dl k v e s I D ha
      (fun y F3 H4 s3 D3 I3 => ⟨acc, D3.get 0, lt_line (by omega), hlt, acc ++ [y], F3, s.trans s3, D3.set 0, I3, by simp; omega⟩)
      (fun F3 H3 s3 D3 I3 => ⟨hlt, acc, F3, s.trans s3, D3, I3, by omega⟩)
  · have e : i = kvs.length := by omega
    subst e
    refine .inl ⟨⟨D.frz hfa, Nat.le_refl _⟩, D.frz hfa, ?_⟩
    exact done acc Dl (upd F' a (.dK kvs)) _ (same_lock hf s) (fin od acc F' _ I hfa fun b o nb e => by rw [upd_ne nb]; exact e) (D.lockF hfa) ha
end
theorem lock_asg {t : TE} {σ : L2.St} {H : Hp} {D : Ends} {i : Nat} (h : tLockE t σ H fun v H' => D.nx (σ.set i (some v)) H') : tLock (tAsg t (gName i)) D σ H := h
theorem eqv_texts : ∀ xs ys : List Str, PyData.eqv (.list (dS xs)) (.list (dS ys)) = decide (xs = ys)
  | [], [] => rfl
  | [], _ :: _ => rfl
  | _ :: _, [] => rfl
  | x :: xs, y :: ys => by
    have ih := eqv_texts xs ys
    have e : PyData.eqv (.list (dS (x :: xs))) (.list (dS (y :: ys))) = ((x == y) && PyData.eqv (.list (dS xs)) (.list (dS ys))) := by
      first | rfl | (show PyData.eqvAll _ _ = _; simp only [dS, List.map_cons, PyData.eqvAll]; rfl) | simp [dS, PyData.eqv, PyData.eqvAll]
    rw [e, ih]
    by_cases h : x = y
    · subst h
      rw [beq_self_eq_true, Bool.true_and]
      exact decide_eq_decide.mpr ⟨fun q => by rw [q], fun q => by injection q⟩
    · rw [beq_false_of_ne h, Bool.false_and, decide_eq_false fun q => h (by injection q)]
theorem stAt_val {F : Hp} {ks : List (Str × Int)} {d : Addr} {sp : Str → Span} (h : StAt F ks d sp) (nd : (ks.map (·.1)).Nodup) : ∃ es : List (Str × V), F d = some (.dK (strK es)) ∧ es.length = ks.length ∧ ∀ z ∈ ks.map (·.1), ∃ v, valV (strK es) (.inr z) = some v ∧ SpanAt F v (sp z) := by
  obtain ⟨es, h1, h2, h3⟩ := h
  refine ⟨es, h1, by have := h2.length_eq; rwa [List.length_map, List.length_map] at this, fun z hz => ?_⟩
  obtain ⟨e, he, q⟩ := List.mem_map.mp (h2.mem_iff.mpr hz)
  have := h3 e he
  rw [q] at this
  exact ⟨e.2, valV_str (by rw [← q]; exact he) (h2.nodup_iff.mpr nd), this⟩
theorem SpanAt.up {F F' : Hp} {a : Addr} {kvs : List (Key × V)} {v : V} (ha : F a = some (.dK kvs)) (up : ∀ b o, b ≠ a → F b = some o → F' b = some o) : ∀ {s : Span}, SpanAt F v s → SpanAt F' v s
  | none, h => h
  | some (_, _), ⟨t, e, h⟩ => ⟨t, e, up t _ (fun z => by rw [z, ha] at h; cases h) h⟩
theorem SpanAt.noInt {F : Hp} {o : Int} : ∀ {s : Span}, ¬ SpanAt F (.int o) s
  | none, h => by cases (show V.int o = V.non from h)
  | some (_, _), ⟨t, e, h⟩ => by cases e
theorem flat_texts (n : Nat) (z : Str) : (List.replicate n [V.str z]).flatten = (List.replicate n z).map V.str := by
  induction n with
  | zero => rfl
  | succ n ih => rw [List.replicate_succ, List.flatten_cons, ih, List.replicate_succ, List.map_cons]; rfl
theorem all_same (z : Str) : ∀ kk : List Str, decide (kk = List.replicate kk.length z) = (kk.map fun k => decide (k = z)).all id
  | [] => rfl
  | k :: kk => by
    have ih := all_same z kk
    rw [List.map_cons, List.all_cons, ← ih, List.length_cons, List.replicate_succ]
    by_cases h : k = z
    · subst h
      rw [id, decide_eq_true rfl, Bool.true_and]
      exact decide_eq_decide.mpr ⟨fun q => by injection q, fun q => by rw [← q]⟩
    · rw [id, decide_eq_false h, Bool.false_and]
      exact decide_eq_false fun q => h (by injection q)
end FL
namespace FL
open PySem PySem.Spec PyProof.Rows L2
/-! ### sorted(e.values()) of a dict with fewer than 64 ints as values -/
def rSortVals : V → Hp → VK → Prop := fun x H Q => ∃ (d : Addr) (kvs : List (Key × V)) (ns : List Int), x = .ref d ∧ Rd H d (.dK kvs) ∧ kvs.map (·.2) = ns.map V.int ∧ ns.length < 64 ∧
  ∀ (ns' : List Int) (p : Addr), ns'.Perm ns → ns'.Pairwise (· ≤ ·) → H p = none → Q (.ref p) (upd H p (.lst (ns'.map V.int)))
def tSortVals (te : TE) : TE := fun σ H Q => te σ H fun x H1 => rSortVals x H1 Q
section
variable {X : Cx} {e : Expr} {te : TE} {p apos cpos pos : Pos}
theorem pe_sortValues (hcalm : X.calm = true) (he : PE X e te) (hg : Gl X "sorted") (hm : X.mg "sorted" = none) (hv : bootBuiltins "sorted" = some (.builtin "sorted"))
    (hbase : attributeBase e "values" X.env (eval e X.env) = eval e X.env := by rfl) (hline : (apos.endLine == cpos.line) = true := by rfl)
    (hs : starEach [.Call (.Attribute e "values" apos) [] [] cpos] X.env = (false, eval (.Call (.Attribute e "values" apos) [] [] cpos) X.env) :: starEach [] X.env := by rfl) :
    PE X (.Call (.Name "sorted" p) [.Call (.Attribute e "values" apos) [] [] cpos] [] pos) (tSortVals te) := by
  refine ⟨fun pins s σ H Q I hq => wpAny_Call_Name_kw (ld_blt I hg hm hv (PyProof.Rows.callWith_builtin1 ?_ hs rfl))⟩
  rw [hs]
  show wpAny (model X.prog X.w) X.A (spliced ((false, eval (Expr.Call (Expr.Attribute e "values" apos) [] [] cpos) X.env) :: backTo pos (starEach [] X.env))) _ X.xe s
  refine Calls.spliced_cons (wpAny_Call_method (args := []) (T := "dict") (id := "dict.values") hbase rfl hline F.plainAttrs_dict F.slot_dict_values F.type_dict_values
    (thn (he.run pins s σ H _ I hq) fun u s1 ⟨x, H1, I1, rx, d, kvs, ns, ex, hd, hns, h64, q⟩ => ?_))
  subst ex
  obtain rfl : u = Value.ref d := rx
  obtain ⟨hz, hs0, vs, kv, hdo⟩ : ObjOk X.prog X.w H1 s1.heap d (.dK kvs) := hd.elim (I1.hok d _) fun ⟨_, hq⟩ => (I1.hok d _ hq).2
  obtain ⟨ep, hat⟩ := hdo.dictAt
  have I2 : Inv X pins σ H1 { s1 with heap := s1.heap.push { cls := .type "dict_values", data := .fields #[.ref d] } } := I1.kept (t' := s1.toks) fun b ob w => Heap.get?_push_of_some _ w
  have lk : kvs.length = vs.length := Paired.length kv
  refine ⟨hdo.typeIs, hdo.mapOf.noDict, ?_⟩
  show wpAny (model X.prog X.w) X.A (callWith cpos (Value.builtin "dict.values") [Value.ref d] [] []) _ X.xe s1
  refine method_meetsIn F.slot_dict_values F.entry_dict_values rfl (PySem.evalArgs_none ⟨rfl, hdo.typeIs, F.args_dict_values_1 _, _, meets_dict_values (mixKind X.prog X.w) d hs0, ⟨vs, hdo⟩, Calls.spliced_nil ?_⟩)
  refine Calls.call_function_entry PyProof.Rows.kind_sorted PyProof.Rows.plain_sorted PyProof.Rows.entry_sorted (PyProof.Rows.args_sorted1 _) ?_
  unfold Builtin.«sorted»
  refine wpAny_bind (m := checkCount "sorted" 1 1 _) (wpAny_pure ?_)
  refine wpAny_bind (PySem.W.kdu_collect (A := X.A.in1) (PySem.W.kdl_values (knd := mixKind X.prog X.w) (kvs := vs) (ep := ep)) (I1.ok.hd hcalm) ⟨⟨_, Heap.get?_push_size _ rfl, rfl, rfl⟩, hat.push _⟩ (by omega) fun h' tk acc hk hacc => ?_)
  have ev : acc.toList = vs.map (·.2) := PySem.W.kdl_vals_eq acc.toList (by rw [Array.length_toList]; exact hacc.1) fun j v e => hacc.2 j v (by rw [← Array.getElem?_toList]; exact e)
  have hvv : Vals (kvs.map (·.2)) acc.toList := by rw [ev]; exact kv_snd kv
  rw [hns] at hvv
  have hI := hvv.ints
  have hal : acc.toList.length = ns.length := by rw [← hvv.length, List.length_map]
  have I3 : Inv X pins σ H1 { s1 with heap := h', toks := tk } := I2.kept hk
  refine wpAny_bind (wpAny_newList ?_ (by rw [hal, sizeLine_eq]; omega))
  have hoL : (h'.push (seqObj "list" acc.toList.toArray 0)).get? h'.objs.size = some (seqObj "list" acc.toList.toArray 0) := Heap.get?_push_size _ rfl
  show wpAny _ _ _ _ _ { s1 with heap := h'.push (seqObj "list" acc.toList.toArray 0), toks := tk }
  refine wpAny_bind (wpAny_holding (wpAny_call_entry PyProof.Rows.slot_list_sort ⟨_, hoL, rfl⟩ PyProof.Rows.entry_list_sort
    (PyProof.Rows.list_sort_tree hoL hI (by rw [hal]; exact h64) fun out ns' a1 a2 a3 => ⟨_, rfl, ?_⟩) (PyProof.Rows.args_list_sort _)))
  obtain ⟨ep', he'⟩ := PyProof.Rows.sortedHeap_at (vs := acc.toList) (out := out) hoL
  have hlen : (ns'.map V.int).length ≤ sizeLine := by rw [List.length_map, a2.length_eq]; exact lt_line (by omega) |> Nat.le_of_lt
  refine wpAny_pure ⟨_, rfl, .ref h'.objs.size, upd H1 h'.objs.size (.lst (ns'.map V.int)), I3.laid (t' := tk) (fun b u e => ?_) (Nat.le_refl _)
    (show ObjOk X.prog X.w _ _ _ (.lst (ns'.map V.int)) from ⟨hlen, out.toList, ep', vals_of_ints a1, by rw [Array.toArray_toList]; exact he'⟩), rfl, q ns' _ a2 a3 (I3.hok.fresh (Nat.le_refl _))⟩
  have hb : b < h'.objs.size := Heap.lt_size e
  rw [PyProof.Rows.sortedHeap_old (Nat.ne_of_lt hb) (by rw [size_push']; exact Nat.lt_succ_of_lt hb)]
  exact Heap.get?_push_of_some _ e
end
end FL
namespace FL
open PySem PySem.Spec PyProof.Rows L2
/-! ### who lacks: two ways to say it -/
theorem low_up {l : Option Int} {x z : Int} (h : lowOk l x = true) (e : x ≤ z) : lowOk l z = true := by
  cases l with
  | none => rfl
  | some i => exact decide_eq_true (Int.le_trans (of_decide_eq_true h) e)
theorem high_down {l : Option Int} {y z : Int} (h : highOk l y = true) (e : z ≤ y) : highOk l z = true := by
  cases l with
  | none => rfl
  | some i => exact decide_eq_true (Int.le_trans e (of_decide_eq_true h))
theorem span_mid {s : Span} {x y z : Int} (h1 : inSpan s x = true) (h2 : inSpan s y = true) (e1 : x ≤ z) (e2 : z ≤ y) : inSpan s z = true := by
  match s with
  | none => cases h1
  | some (l, h) =>
    obtain ⟨a1, _⟩ := Bool.and_eq_true_iff.mp (show (lowOk l x && highOk h x) = true from h1)
    obtain ⟨_, b2⟩ := Bool.and_eq_true_iff.mp (show (lowOk l y && highOk h y) = true from h2)
    exact Bool.and_eq_true_iff.mpr ⟨low_up a1 e1, high_down b2 e2⟩
theorem span_own {ks : List (Str × Int)} {o : Int} {s : Span} (ok : spanOk ks o s) (h : s ≠ none) : inSpan s o = true := by
  match s with
  | none => exact absurd rfl h
  | some (l, hi) =>
    obtain ⟨k1, k2⟩ := ok
    refine Bool.and_eq_true_iff.mpr ⟨?_, ?_⟩
    · cases l with
      | none => rfl
      | some i => exact decide_eq_true (k1 i rfl).2
    · cases hi with
      | none => rfl
      | some i => exact decide_eq_true (k2 i rfl).2
theorem pos_head {os : List (Str × Int)} {a : Str × Int} (h : os[0]? = some a) (pw : os.Pairwise fun x y => x.2 < y.2) : ∀ p ∈ os, a.2 ≤ p.2 := by
  match os, h with
  | x :: os, h =>
    have e : x = a := Option.some.inj h
    subst e
    intro p hp
    rcases List.mem_cons.mp hp with e | hp
    · rw [e]; exact Int.le_refl _
    · exact Int.le_of_lt ((List.pairwise_cons.mp pw).1 p hp)
theorem pos_last {oi : List (Str × Int)} {b : Str × Int} (pw : (oi ++ [b]).Pairwise fun x y => x.2 < y.2) : ∀ p ∈ oi ++ [b], p.2 ≤ b.2 := by
  intro p hp
  rcases List.mem_append.mp hp with hp | hp
  · exact Int.le_of_lt ((List.pairwise_append.mp pw).2.2 p hp b List.mem_cons_self)
  · rw [List.mem_singleton.mp hp]; exact Int.le_refl _
def lackN (sp : Str → Span) (os : List (Str × Int)) (lo hi : Int) : List Str := (os.filter fun p => !(inSpan (sp p.1) lo && inSpan (sp p.1) hi)).map (·.1)
/-- the hosts that lack, os by positions -/
def lackO (sp : Str → Span) (os : List (Str × Int)) : List Str := if os.length = 1 then [] else lackN sp os ((os.head?.map (·.2)).getD 0) ((os.getLast?.map (·.2)).getD 0)
def dueAt (sp : Str → Span) (ks : List (Str × Int)) (p : Str × Int) : Bool := !((ks.filter fun q => !decide (q.1 = p.1)).all fun q => inSpan (sp p.1) q.2)
def dueO (sp : Str → Span) (ks os : List (Str × Int)) : List Str := (os.filter (dueAt sp ks)).map (·.1)
theorem name_inj {ks : List (Str × Int)} (nd : (ks.map (·.1)).Nodup) {p q : Str × Int} (hp : p ∈ ks) (hq : q ∈ ks) (e : p.1 = q.1) : p = q := by
  have h1 := posOf_eq nd hp
  have h2 := posOf_eq nd hq
  rw [e] at h1
  exact Prod.ext e (h1.symm.trans h2)
theorem lack_due {ks os : List (Str × Int)} {sp : Str → Span} (hk : LineOk ks) (bp : byPos ks os) (ok : ∀ p ∈ ks, spanOk ks p.2 (sp p.1)) : lackO sp os = dueO sp ks os := by
  have lo := bp.1.length_eq
  have l1 := hk.len1
  unfold lackO
  by_cases h1 : os.length = 1
  · rw [if_pos h1]
    match os, h1, bp with
    | [p], _, bp =>
      have e : ks = [p] := (List.perm_singleton.mp bp.1.symm)
      unfold dueO dueAt
      rw [e]
      simp
  rw [if_neg h1]
  obtain ⟨o1, h0⟩ : ∃ z, os[0]? = some z := ⟨_, List.getElem?_eq_getElem (by omega)⟩
  obtain ⟨oi, ol, eos⟩ : ∃ yi yl, os = yi ++ [yl] := ⟨_, _, (List.dropLast_concat_getLast (l := os) (by intro e; rw [e] at lo; simp at lo; omega)).symm⟩
  rw [show (os.head?.map (·.2)).getD 0 = o1.2 from by rw [List.head?_eq_getElem?, h0]; rfl, show (os.getLast?.map (·.2)).getD 0 = ol.2 from by rw [eos]; simp]
  have m0 : o1 ∈ ks := bp.1.mem_iff.mp (List.mem_of_getElem? h0)
  have ml : ol ∈ ks := bp.1.mem_iff.mp (by rw [eos]; simp)
  have le0 : ∀ q ∈ ks, o1.2 ≤ q.2 := fun q hq => pos_head h0 bp.2 q (bp.1.mem_iff.mpr hq)
  have leL : ∀ q ∈ ks, q.2 ≤ ol.2 := fun q hq => by
    have pw := bp.2
    have hq2 := bp.1.mem_iff.mpr hq
    rw [eos] at pw hq2
    exact pos_last pw q hq2
  have key : ∀ p ∈ os, (!(inSpan (sp p.1) o1.2 && inSpan (sp p.1) ol.2)) = dueAt sp ks p := fun p hp => by
    have pk := bp.1.mem_iff.mp hp
    unfold dueAt
    congr 1
    cases hc : (ks.filter fun q => !decide (q.1 = p.1)).all fun q => inSpan (sp p.1) q.2 with
    | true =>
      have all := List.all_eq_true.mp hc
      have other : ∃ q ∈ ks, q.1 ≠ p.1 := by
        by_cases e : o1.1 = p.1
        · refine ⟨ol, ml, fun e2 => ?_⟩
          have e3 := name_inj hk.ndn m0 ml (e.trans e2.symm)
          have pw := bp.2
          rw [eos] at pw h0
          cases oi with
          | nil => rw [eos] at h1; exact h1 rfl
          | cons x xs =>
            have ex : x = o1 := Option.some.inj h0
            have := (List.pairwise_append.mp pw).2.2 x List.mem_cons_self ol List.mem_cons_self
            rw [ex, e3] at this
            exact absurd this (Int.lt_irrefl _)
        · exact ⟨o1, m0, e⟩
      obtain ⟨q, hq, nq⟩ := other
      have inq := all q (List.mem_filter.mpr ⟨hq, by simp [nq]⟩)
      have nn : sp p.1 ≠ none := fun e => by rw [e] at inq; cases inq
      have own := span_own (ok p pk) nn
      have every : ∀ q ∈ ks, inSpan (sp p.1) q.2 = true := fun q hq => by
        by_cases e : q.1 = p.1
        · rw [name_inj hk.ndn hq pk e]; exact own
        · exact all q (List.mem_filter.mpr ⟨hq, by simp [e]⟩)
      rw [every o1 m0, every ol ml]; rfl
    | false =>
      cases hb : inSpan (sp p.1) o1.2 && inSpan (sp p.1) ol.2 with
      | false => rfl
      | true =>
        obtain ⟨b1, b2⟩ := Bool.and_eq_true_iff.mp hb
        obtain ⟨q, hq, nq⟩ := List.all_eq_false.mp hc
        have qk := (List.mem_filter.mp hq).1
        exact absurd (span_mid b1 b2 (le0 q qk) (leL q qk)) nq
  unfold lackN dueO
  rw [List.filter_congr key]
end FL
namespace FL
open PySem PySem.Spec PyProof.Rows L2
def rReprB : List V → Hp → VK → Prop := fun xs H Q => ∃ b : Bool, xs = [.bl b] ∧ Q (.str (if b then "True" else "False")) H
theorem call_reprB {X : Cx} : CallR X (.builtin "repr") rReprB := by
  intro pins s σ H xs us Q I r h
  obtain ⟨b, rfl, q⟩ := h
  obtain ⟨u, rfl, rb⟩ := vals1 r
  cases rb
  exact PySem.P.repr_of_bool ⟨.str _, H, I.tok _, ⟨_, rfl⟩, q⟩
theorem pos_of {ks : List (Str × Int)} (hk : LineOk ks) {i : Int} (h : i ∈ ks.map (·.2)) : -(10 ^ 39) < i ∧ i < 10 ^ 39 := by
  obtain ⟨p, hp, e⟩ := List.mem_map.mp h
  have b := hk.ps p hp
  rw [← e]
  have c : (10 : Int) ^ 30 < 10 ^ 39 := by decide
  omega
theorem oV_dx {F : Hp} {ks : List (Str × Int)} (hk : LineOk ks) : ∀ {o : Option Int}, (∀ i, o = some i → i ∈ ks.map (·.2)) → Dx F (oV o) 130 0
  | none, _ => xO.more (Nat.zero_le _) (Nat.le_refl _)
  | some i, h => Dx.int (pos_of hk (h i rfl)).1 (pos_of hk (h i rfl)).2
theorem span_dx {F : Hp} {ks : List (Str × Int)} (hk : LineOk ks) {o : Int} {v : V} : ∀ {s : Span}, spanOk ks o s → SpanAt F v s → Dx F v 262 1
  | none, _, e => by rw [show v = V.non from e]; exact xO.more (Nat.zero_le _) (Nat.le_refl _)
  | some (l, h), ⟨k1, k2⟩, ⟨t, e, ht⟩ => by
    rw [e]
    exact (Dx.tup ht (.cons (oV_dx hk fun i e => (k1 i e).1) (.cons (oV_dx hk fun i e => (k2 i e).1) .nil))).more (by decide) (Nat.le_refl _)
theorem es_kv {F : Hp} : ∀ (es : List (Str × V)), (∀ e ∈ es, nmStr e.1 = true ∧ Dx F e.2 262 1) → ∃ ds, DtKv F (strK es) ds ∧ DOkV ds (es.length * 272) 1
  | [], _ => ⟨[], .nil, DOkV.nil⟩
  | e :: es, h => by
    obtain ⟨ds, q1, q2⟩ := es_kv es fun x hx => h x (List.mem_cons_of_mem _ hx)
    obtain ⟨h1, d, h2, h3⟩ := h e List.mem_cons_self
    refine ⟨(.str e.1, d) :: ds, .cons (k := .inr e.1) h2 q1, ?_⟩
    have := DOkV.cons ((DOk.nm h1).more (Nat.le_refl _) (Nat.zero_le 1)) h3 q2
    exact ⟨this.ls, this.sh, Nat.le_trans this.wt (by rw [List.length_cons, Nat.succ_mul]; omega), this.dp⟩
theorem Dx.state {F : Hp} {ks : List (Str × Int)} {d : Addr} {sp : Str → Span} (hk : LineOk ks) (h : StAt F ks d sp) (ok : ∀ p ∈ ks, spanOk ks p.2 (sp p.1)) : Dx F (.ref d) 10880 2 := by
  obtain ⟨es, h1, h2, h3⟩ := h
  have l2 := hk.len2
  have le : es.length ≤ 40 := by have := h2.length_eq; rw [List.length_map, List.length_map] at this; omega
  obtain ⟨ds, q1, q2⟩ := es_kv (F := F) es fun e he => by
    obtain ⟨p, hp, q⟩ := List.mem_map.mp (h2.mem_iff.mp (List.mem_map.mpr ⟨e, he, rfl⟩))
    have o := ok p hp
    rw [q] at o
    exact ⟨by rw [← q]; exact hk.nm p hp, span_dx hk o (h3 e he)⟩
  exact ⟨_, .dct h1 q1, (DOk.dict q2).more (by omega) (Nat.le_refl _)⟩
theorem due_nm {ks os : List (Str × Int)} {sp : Str → Span} (hk : LineOk ks) (bp : byPos ks os) : ∀ z ∈ dueO sp ks os, nmStr z = true := fun z hz => by
  obtain ⟨p, hp, e⟩ := List.mem_map.mp hz
  rw [← e]
  exact hk.nm p (bp.1.mem_iff.mp (List.mem_filter.mp hp).1)
theorem due_len {ks os : List (Str × Int)} {sp : Str → Span} (hk : LineOk ks) (bp : byPos ks os) : (dueO sp ks os).length ≤ 40 := by
  unfold dueO
  rw [List.length_map]
  have h1 := bp.1.length_eq
  have h2 := hk.len2
  exact Nat.le_trans (List.length_filter_le _ _) (by omega)
theorem byPos_uniq {ks os os' : List (Str × Int)} (h : byPos ks os) (h' : byPos ks os') : os' = os := ord_uniq (h'.1.trans h.1.symm) h'.2 h.2
theorem exA3 : LineOk [("a", 3)] := ⟨by decide, by decide, by decide, by decide, by decide, by decide⟩
theorem exAB : LineOk [("a", 0), ("b", 1)] := ⟨by decide, by decide, by decide, by decide, by decide, by decide⟩
def spAB (z : Str) : Span := if z = "a" then some (some 0, some 1) else none
theorem okAB : ∀ p ∈ ([("a", 0), ("b", 1)] : List (Str × Int)), spanOk [("a", 0), ("b", 1)] p.2 (spAB p.1) :=
  alC (by
    show spanOk _ 0 (spAB "a")
    rw [show spAB "a" = some (some 0, some 1) from by decide]
    exact ⟨fun i e => by cases e; decide, fun i e => by cases e; decide⟩) (alC (by
    show spanOk _ 1 (spAB "b")
    rw [show spAB "b" = none from by decide]
    trivial) alN)
theorem byAB : byPos [("a", 0), ("b", 1)] [("a", 0), ("b", 1)] := ⟨List.Perm.refl _, by decide⟩
theorem lackAB : lackO spAB [("a", 0), ("b", 1)] = [Str.ofString "b"] := by decide +kernel
end FL
namespace FD.k55
open PySem PySem.Spec PyProof.Rows L2 FL FD
def top (i : Nat) : Stmt := PySem.Challenge.pw_floodline_k55_whole_quiet_networks.main.body.getD i (.Pass ⟨0, 0, 0, 0⟩)
abbrev s_is_integer : Stmt := top 11
abbrev nn_is_integer : List Str := ["value"]
theorem sc_is_integer : FnScope nn_is_integer ["value"] (defScope s_is_integer) := ⟨rfl, rfl, rfl, by decide +kernel, rfl, by decide +kernel, by decide +kernel⟩
abbrev s_is_name : Stmt := top 13
abbrev nn_is_name : List Str := ["value", "letter"]
theorem sc_is_name : FnScope nn_is_name ["value"] (defScope s_is_name) := ⟨rfl, rfl, rfl, by decide +kernel, rfl, by decide +kernel, by decide +kernel⟩
abbrev s_is_list : Stmt := top 14
abbrev nn_is_list : List Str := ["value"]
theorem sc_is_list : FnScope nn_is_list ["value"] (defScope s_is_list) := ⟨rfl, rfl, rfl, by decide +kernel, rfl, by decide +kernel, by decide +kernel⟩
abbrev s_is_pair : Stmt := top 15
abbrev nn_is_pair : List Str := ["value"]
theorem sc_is_pair : FnScope nn_is_pair ["value"] (defScope s_is_pair) := ⟨rfl, rfl, rfl, by decide +kernel, rfl, by decide +kernel, by decide +kernel⟩
abbrev s_contains : Stmt := top 17
abbrev nn_contains : List Str := ["interval", "position", "low", "high"]
theorem sc_contains : FnScope nn_contains ["interval", "position"] (defScope s_contains) := ⟨rfl, rfl, rfl, by decide +kernel, rfl, by decide +kernel, by decide +kernel⟩
abbrev s_joined : Stmt := top 19
abbrev nn_joined : List Str := ["interval", "other", "low", "high"]
theorem sc_joined : FnScope nn_joined ["interval", "other"] (defScope s_joined) := ⟨rfl, rfl, rfl, by decide +kernel, rfl, by decide +kernel, by decide +kernel⟩
abbrev s_has_hosts_of : Stmt := top 29
abbrev nn_has_hosts_of : List Str := ["line", "value", "host"]
theorem sc_has_hosts_of : FnScope nn_has_hosts_of ["line", "value"] (defScope s_has_hosts_of) := ⟨rfl, rfl, rfl, by decide +kernel, rfl, by decide +kernel, by decide +kernel⟩
abbrev s_is_host : Stmt := top 32
abbrev nn_is_host : List Str := ["line", "value"]
theorem sc_is_host : FnScope nn_is_host ["line", "value"] (defScope s_is_host) := ⟨rfl, rfl, rfl, by decide +kernel, rfl, by decide +kernel, by decide +kernel⟩
abbrev s_silent_state : Stmt := top 42
abbrev nn_silent_state : List Str := ["line", "host"]
theorem sc_silent_state : FnScope nn_silent_state ["line"] (defScope s_silent_state) := ⟨rfl, rfl, rfl, by decide +kernel, rfl, by decide +kernel, by decide +kernel⟩
abbrev s_reach_of_kind : Stmt := top 44
abbrev nn_reach_of_kind : List Str := ["kind", "start", "end"]
theorem sc_reach_of_kind : FnScope nn_reach_of_kind ["kind", "start", "end"] (defScope s_reach_of_kind) := ⟨rfl, rfl, rfl, by decide +kernel, rfl, by decide +kernel, by decide +kernel⟩
abbrev s_inner_plan : Stmt := top 54
abbrev nn_inner_plan : List Str := ["state", "to_ends", "silent", "mute", "host", "frame"]
theorem sc_inner_plan : FnScope nn_inner_plan ["state", "to_ends"] (defScope s_inner_plan) := ⟨rfl, rfl, rfl, by decide +kernel, rfl, by decide +kernel, by decide +kernel⟩
abbrev s_Network_known : Stmt := inClass (top 57) 5
abbrev nn_Network_known : List Str := ["self"]
theorem sc_Network_known : FnScope nn_Network_known ["self"] (defScope s_Network_known) := ⟨rfl, rfl, rfl, by decide +kernel, rfl, by decide +kernel, by decide +kernel⟩
abbrev s_Network__begin_change : Stmt := inClass (top 57) 11
abbrev nn_Network__begin_change : List Str := ["self"]
theorem sc_Network__begin_change : FnScope nn_Network__begin_change ["self"] (defScope s_Network__begin_change) := ⟨rfl, rfl, rfl, by decide +kernel, rfl, by decide +kernel, by decide +kernel⟩
abbrev s__law_spring : Stmt := top 59
abbrev nn__law_spring : List Str := ["script", "digits", "seed", "cell"]
theorem sc__law_spring : FnScope nn__law_spring ["script"] (defScope s__law_spring) := ⟨rfl, rfl, rfl, by decide +kernel, rfl, by decide +kernel, by decide +kernel⟩
abbrev s__law_draw : Stmt := top 60
abbrev nn__law_draw : List Str := ["spring", "many", "found", "mix"]
theorem sc__law_draw : FnScope nn__law_draw ["spring", "many"] (defScope s__law_draw) := ⟨rfl, rfl, rfl, by decide +kernel, rfl, by decide +kernel, by decide +kernel⟩
abbrev s__law_mirrored : Stmt := top 65
abbrev nn__law_mirrored : List Str := ["line", "state", "found", "host", "low", "high", "place"]
theorem sc__law_mirrored : FnScope nn__law_mirrored ["line", "state"] (defScope s__law_mirrored) := ⟨rfl, rfl, rfl, by decide +kernel, rfl, by decide +kernel, by decide +kernel⟩
abbrev s_is_position : Stmt := top 12
abbrev nn_is_position : List Str := ["value"]
theorem sc_is_position : FnScope nn_is_position ["value"] (defScope s_is_position) := ⟨rfl, rfl, rfl, by decide +kernel, rfl, by decide +kernel, by decide +kernel⟩
abbrev s_covers : Stmt := top 18
abbrev nn_covers : List Str := ["interval", "first", "last"]
theorem sc_covers : FnScope nn_covers ["interval", "first", "last"] (defScope s_covers) := ⟨rfl, rfl, rfl, by decide +kernel, rfl, by decide +kernel, by decide +kernel⟩
abbrev s_is_end : Stmt := top 31
abbrev nn_is_end : List Str := ["line", "value"]
theorem sc_is_end : FnScope nn_is_end ["line", "value"] (defScope s_is_end) := ⟨rfl, rfl, rfl, by decide +kernel, rfl, by decide +kernel, by decide +kernel⟩
abbrev s_is_frame : Stmt := top 33
abbrev nn_is_frame : List Str := ["line", "value", "sender", "target"]
theorem sc_is_frame : FnScope nn_is_frame ["line", "value"] (defScope s_is_frame) := ⟨rfl, rfl, rfl, by decide +kernel, rfl, by decide +kernel, by decide +kernel⟩
abbrev s_check_hosts : Stmt := top 37
abbrev nn_check_hosts : List Str := ["line", "sender", "target"]
theorem sc_check_hosts : FnScope nn_check_hosts ["line", "sender", "target"] (defScope s_check_hosts) := ⟨rfl, rfl, rfl, by decide +kernel, rfl, by decide +kernel, by decide +kernel⟩
abbrev s_kind_in : Stmt := top 43
abbrev nn_kind_in : List Str := ["line", "state", "sender", "target"]
theorem sc_kind_in : FnScope nn_kind_in ["line", "state", "sender", "target"] (defScope s_kind_in) := ⟨rfl, rfl, rfl, by decide +kernel, rfl, by decide +kernel, by decide +kernel⟩
abbrev s_frames_to_ends : Stmt := top 55
abbrev nn_frames_to_ends : List Str := ["line", "state", "first", "last", "host", "end"]
theorem sc_frames_to_ends : FnScope nn_frames_to_ends ["line", "state", "first", "last", "host"] (defScope s_frames_to_ends) := ⟨rfl, rfl, rfl, by decide +kernel, rfl, by decide +kernel, by decide +kernel⟩
abbrev s__law_names : Stmt := top 61
abbrev nn__law_names : List Str := ["spring", "many", "pool", "turn"]
theorem sc__law_names : FnScope nn__law_names ["spring", "many"] (defScope s__law_names) := ⟨rfl, rfl, rfl, by decide +kernel, rfl, by decide +kernel, by decide +kernel⟩
abbrev s__law_frames : Stmt := top 63
abbrev nn__law_frames : List Str := ["spring", "line", "many", "hosts", "found", "few", "turn", "one", "other"]
theorem sc__law_frames : FnScope nn__law_frames ["spring", "line", "many"] (defScope s__law_frames) := ⟨rfl, rfl, rfl, by decide +kernel, rfl, by decide +kernel, by decide +kernel⟩
abbrev s__law_state : Stmt := top 64
abbrev nn__law_state : List Str := ["spring", "line", "way", "found", "places", "host", "left", "right", "kind", "place"]
theorem sc__law_state : FnScope nn__law_state ["spring", "line"] (defScope s__law_state) := ⟨rfl, rfl, rfl, by decide +kernel, rfl, by decide +kernel, by decide +kernel⟩
abbrev s_is_line : Stmt := top 23
abbrev nn_is_line : List Str := ["value", "host", "position"]
theorem sc_is_line : FnScope nn_is_line ["value"] (defScope s_is_line) := ⟨rfl, rfl, rfl, by decide +kernel, rfl, by decide +kernel, by decide +kernel⟩
abbrev s_is_known_interval : Stmt := top 30
abbrev nn_is_known_interval : List Str := ["line", "host", "value", "low", "high", "own", "low_fits", "high_fits"]
theorem sc_is_known_interval : FnScope nn_is_known_interval ["line", "host", "value"] (defScope s_is_known_interval) := ⟨rfl, rfl, rfl, by decide +kernel, rfl, by decide +kernel, by decide +kernel⟩
abbrev s_send_one : Stmt := top 45
abbrev nn_send_one : List Str := ["line", "known", "sender", "target", "kind", "reach"]
theorem sc_send_one : FnScope nn_send_one ["line", "known", "sender", "target"] (defScope s_send_one) := ⟨rfl, rfl, rfl, by decide +kernel, rfl, by decide +kernel, by decide +kernel⟩
abbrev s__law_line : Stmt := top 62
abbrev nn__law_line : List Str := ["spring", "many", "way", "step", "place", "pairs", "found", "name"]
theorem sc__law_line : FnScope nn__law_line ["spring", "many"] (defScope s__law_line) := ⟨rfl, rfl, rfl, by decide +kernel, rfl, by decide +kernel, by decide +kernel⟩
abbrev s_check_line : Stmt := top 34
abbrev nn_check_line : List Str := ["line"]
theorem sc_check_line : FnScope nn_check_line ["line"] (defScope s_check_line) := ⟨rfl, rfl, rfl, by decide +kernel, rfl, by decide +kernel, by decide +kernel⟩
abbrev s_send_each : Stmt := top 46
abbrev nn_send_each : List Str := ["line", "known", "frames", "sent", "sender", "target"]
theorem sc_send_each : FnScope nn_send_each ["line", "known", "frames"] (defScope s_send_each) := ⟨rfl, rfl, rfl, by decide +kernel, rfl, by decide +kernel, by decide +kernel⟩
abbrev s_Network__pass_on : Stmt := inClass (top 57) 12
abbrev nn_Network__pass_on : List Str := ["self", "sender", "target", "known", "kind", "_"]
theorem sc_Network__pass_on : FnScope nn_Network__pass_on ["self", "sender", "target"] (defScope s_Network__pass_on) := ⟨rfl, rfl, rfl, by decide +kernel, rfl, by decide +kernel, by decide +kernel⟩
abbrev s_is_state : Stmt := top 24
abbrev nn_is_state : List Str := ["line", "value", "host"]
theorem sc_is_state : FnScope nn_is_state ["line", "value"] (defScope s_is_state) := ⟨rfl, rfl, rfl, by decide +kernel, rfl, by decide +kernel, by decide +kernel⟩
abbrev s_is_frames : Stmt := top 25
abbrev nn_is_frames : List Str := ["line", "value", "item"]
theorem sc_is_frames : FnScope nn_is_frames ["line", "value"] (defScope s_is_frames) := ⟨rfl, rfl, rfl, by decide +kernel, rfl, by decide +kernel, by decide +kernel⟩
abbrev s_in_order : Stmt := top 26
abbrev nn_in_order : List Str := ["line", "places", "place", "host", "position"]
theorem sc_in_order : FnScope nn_in_order ["line"] (defScope s_in_order) := ⟨rfl, rfl, rfl, by decide +kernel, rfl, by decide +kernel, by decide +kernel⟩
abbrev s_Network___init__ : Stmt := inClass (top 57) 0
abbrev nn_Network___init__ : List Str := ["self", "line", "host"]
theorem sc_Network___init__ : FnScope nn_Network___init__ ["self", "line"] (defScope s_Network___init__) := ⟨rfl, rfl, rfl, by decide +kernel, rfl, by decide +kernel, by decide +kernel⟩
abbrev s_Network_send : Stmt := inClass (top 57) 1
abbrev nn_Network_send : List Str := ["self", "sender", "target"]
theorem sc_Network_send : FnScope nn_Network_send ["self", "sender", "target"] (defScope s_Network_send) := ⟨rfl, rfl, rfl, by decide +kernel, rfl, by decide +kernel, by decide +kernel⟩
abbrev s_check_state : Stmt := top 35
abbrev nn_check_state : List Str := ["line", "state"]
theorem sc_check_state : FnScope nn_check_state ["line", "state"] (defScope s_check_state) := ⟨rfl, rfl, rfl, by decide +kernel, rfl, by decide +kernel, by decide +kernel⟩
abbrev s_check_frames : Stmt := top 36
abbrev nn_check_frames : List Str := ["line", "frames"]
theorem sc_check_frames : FnScope nn_check_frames ["line", "frames"] (defScope s_check_frames) := ⟨rfl, rfl, rfl, by decide +kernel, rfl, by decide +kernel, by decide +kernel⟩
abbrev s_lacking : Stmt := top 27
abbrev nn_lacking : List Str := ["line", "state", "hosts", "first", "last", "host"]
theorem sc_lacking : FnScope nn_lacking ["line", "state"] (defScope s_lacking) := ⟨rfl, rfl, rfl, by decide +kernel, rfl, by decide +kernel, by decide +kernel⟩
abbrev s_starting_state : Stmt := top 50
abbrev nn_starting_state : List Str := ["line", "start"]
theorem sc_starting_state : FnScope nn_starting_state ["line", "start"] (defScope s_starting_state) := ⟨rfl, rfl, rfl, by decide +kernel, rfl, by decide +kernel, by decide +kernel⟩
abbrev s_is_quiet : Stmt := top 28
abbrev nn_is_quiet : List Str := ["line", "state"]
theorem sc_is_quiet : FnScope nn_is_quiet ["line", "state"] (defScope s_is_quiet) := ⟨rfl, rfl, rfl, by decide +kernel, rfl, by decide +kernel, by decide +kernel⟩
abbrev s_kinds_of : Stmt := top 48
abbrev nn_kinds_of : List Str := ["line", "frames", "start", "sent", "kind", "_"]
theorem sc_kinds_of : FnScope nn_kinds_of ["line", "frames", "start"] (defScope s_kinds_of) := ⟨rfl, rfl, rfl, by decide +kernel, rfl, by decide +kernel, by decide +kernel⟩
abbrev s_known_after : Stmt := top 49
abbrev nn_known_after : List Str := ["line", "frames", "start", "known", "host"]
theorem sc_known_after : FnScope nn_known_after ["line", "frames", "start"] (defScope s_known_after) := ⟨rfl, rfl, rfl, by decide +kernel, rfl, by decide +kernel, by decide +kernel⟩
abbrev s_quiet_plan : Stmt := top 53
abbrev nn_quiet_plan : List Str := ["line", "state", "needy", "hosts", "first", "last", "inner", "plan", "host"]
theorem sc_quiet_plan : FnScope nn_quiet_plan ["line", "state"] (defScope s_quiet_plan) := ⟨rfl, rfl, rfl, by decide +kernel, rfl, by decide +kernel, by decide +kernel⟩
abbrev s_fewest_frames : Stmt := top 52
abbrev nn_fewest_frames : List Str := ["line", "state"]
theorem sc_fewest_frames : FnScope nn_fewest_frames ["line", "state"] (defScope s_fewest_frames) := ⟨rfl, rfl, rfl, by decide +kernel, rfl, by decide +kernel, by decide +kernel⟩
abbrev s__law_network_right : Stmt := top 67
abbrev nn__law_network_right : List Str := ["spring", "line", "frames", "network", "sender", "target", "plan", "more"]
theorem sc__law_network_right : FnScope nn__law_network_right ["spring", "line", "frames"] (defScope s__law_network_right) := ⟨rfl, rfl, rfl, by decide +kernel, rfl, by decide +kernel, by decide +kernel⟩
abbrev s__law_plan_right : Stmt := top 66
abbrev nn__law_plan_right : List Str := ["spring", "line", "state", "plan", "many", "here", "index", "frame", "other", "every", "mirror"]
theorem sc__law_plan_right : FnScope nn__law_plan_right ["spring", "line", "state"] (defScope s__law_plan_right) := ⟨rfl, rfl, rfl, by decide +kernel, rfl, by decide +kernel, by decide +kernel⟩
abbrev s_law : Stmt := top 68
abbrev nn_law : List Str := ["script", "spring", "turn", "line", "frames", "state"]
theorem sc_law : FnScope nn_law ["script"] (defScope s_law) := ⟨rfl, rfl, rfl, by decide +kernel, rfl, by decide +kernel, by decide +kernel⟩
def fs_is_integer : Fs := (sRet (fAndV (fIsi "int" (fVar 0)) (fNotV (fIsi "bool" (fVar 0)))))
def sem_is_integer : List Dv → Option Dv := semP 0 fs_is_integer
def fs_is_name : Fs := (sSeq (sIf (tstOr (tstNot (tstB (fIsi "str" (fVar 0)))) (tstNot (tstB (fChain oLe oLe (fC (.int 1)) (fCB bLen (aCons (fVar 0) aNil)) (fC (.int (8))))))) (sRet (fC (.bl false))) sNext) (sRet (fCB bAll (aCons (fZ (oLc (itS (fVar 0)) (bName 1) tstYes (fChain oLe oLe (fC (.str "a")) (fVar 1) (fC (.str "z"))) [1])) aNil))))
def sem_is_name : List Dv → Option Dv := semP 1 fs_is_name
def fs_is_list : Fs := (sRet (fTyEq "list" (fVar 0)))
def sem_is_list : List Dv → Option Dv := semP 0 fs_is_list
def fs_is_pair : Fs := (sRet (fAndV (fTyEq "tuple" (fVar 0)) (fOp oEqX (fCB bLen (aCons (fVar 0) aNil)) (fC (.int 2)))))
def sem_is_pair : List Dv → Option Dv := semP 0 fs_is_pair
def fs_contains : Fs := (sSeq (sIf (tstB (fOp oIs (fVar 0) (fC .non))) (sRet (fC (.bl false))) sNext) (sSeq (sAsg (fVar 0) (bTup 2 (bsCons (bName 2) (bsCons (bName 3) bsNil)))) (sRet (fAndV (fOrV (fOp oIs (fVar 2) (fC .non)) (fOp oLe (fVar 2) (fVar 1))) (fOrV (fOp oIs (fVar 3) (fC .non)) (fOp oLe (fVar 1) (fVar 3)))))))
def sem_contains : List Dv → Option Dv := semP 2 fs_contains
def fs_joined : Fs := (sSeq (sIf (tstB (fOp oIs (fVar 0) (fC .non))) (sRet (fVar 1)) sNext) (sSeq (sAsg (fC .non) (bName 2)) (sSeq (sIf (tstAnd (tstB (fOp oIsNot (fOp oIx (fVar 0) (fC (.int 0))) (fC .non))) (tstB (fOp oIsNot (fOp oIx (fVar 1) (fC (.int 0))) (fC .non)))) (sAsg (fCB bMin2 (aCons (fOp oIx (fVar 0) (fC (.int 0))) (aCons (fOp oIx (fVar 1) (fC (.int 0))) aNil))) (bName 2)) sNext) (sSeq (sAsg (fC .non) (bName 3)) (sSeq (sIf (tstAnd (tstB (fOp oIsNot (fOp oIx (fVar 0) (fC (.int 1))) (fC .non))) (tstB (fOp oIsNot (fOp oIx (fVar 1) (fC (.int 1))) (fC .non)))) (sAsg (fCB bMax2 (aCons (fOp oIx (fVar 0) (fC (.int 1))) (aCons (fOp oIx (fVar 1) (fC (.int 1))) aNil))) (bName 3)) sNext) (sRet (fTup (aCons (fVar 2) (aCons (fVar 3) aNil)))))))))
def sem_joined : List Dv → Option Dv := semP 2 fs_joined
def fs_has_hosts_of : Fs := (sSeq (sIf (tstOr (tstNot (tstB (fIsi "dict" (fVar 1)))) (tstB (fOp oNeX (fCB bLen (aCons (fVar 1) aNil)) (fCB bLen (aCons (fVar 0) aNil))))) (sRet (fC (.bl false))) sNext) (sRet (fCB bAll (aCons (fZ (oLc (itD .keys 0) (bName 2) tstYes (fDIn (fVar 2) (fVar 1) false) [2])) aNil))))
def sem_has_hosts_of : List Dv → Option Dv := semP 1 fs_has_hosts_of
def fs_is_host : Fs := (sRet (fAndV (fIsi "str" (fVar 1)) (fDIn (fVar 1) (fVar 0) false)))
def sem_is_host : List Dv → Option Dv := semP 0 fs_is_host
def fs_silent_state : Fs := (sRetO (oDc (itD .keys 0) (bName 1) tstYes (fVar 1) (fC .non) [1]))
def sem_silent_state : List Dv → Option Dv := semO 1 fs_silent_state
def fs_reach_of_kind : Fs := (sSeq (sIf (tstB (fOp oEqX (fVar 0) (fC (.str "all")))) (sRet (fTup (aCons (fC .non) (aCons (fC .non) aNil)))) sNext) (sSeq (sIf (tstB (fOp oEqX (fVar 0) (fC (.str "direct")))) (sRet (fTup (aCons (fCB bMin2 (aCons (fVar 1) (aCons (fVar 2) aNil))) (aCons (fCB bMax2 (aCons (fVar 1) (aCons (fVar 2) aNil))) aNil)))) sNext) (sSeq (sIf (tstB (fOp oLt (fVar 1) (fVar 2))) (sRet (fTup (aCons (fC .non) (aCons (fVar 2) aNil)))) sNext) (sRet (fTup (aCons (fVar 2) (aCons (fC .non) aNil)))))))
def sem_reach_of_kind : List Dv → Option Dv := semP 0 fs_reach_of_kind
def fs_inner_plan : Fs := (sSeq (sAsg (fZ (oCB bSortB (aCons (fZ (oLc (itD .keys 1) (bName 4) (tstB (fOp oIs (fDGet (fVar 0) (fVar 4)) (fC .non))) (fTup (aCons (fCB bLen (aCons (fDGet (fVar 1) (fVar 4)) aNil)) (aCons (fVar 4) aNil))) [4])) aNil))) (bName 2)) (sSeq (sIf (tstNot (tstTru (fVar 2))) (sRetO (oLc2 (itD .keys 1) (bName 4) tstYes (itL (fDGet (fVar 1) (fVar 4))) (bName 5) tstYes (fVar 5) [4, 5] [5])) sNext) (sSeq (sAsg (fOp oIx (fOp oIx (fVar 2) (fC (.int 0))) (fC (.int 1))) (bName 3)) (sRetO (oOp oCat (fZ (oLc (itD .keys 1) (bName 4) (tstB (fOp oNeX (fVar 4) (fVar 3))) (fTup (aCons (fVar 4) (aCons (fVar 3) aNil))) [4])) (fDGet (fVar 1) (fVar 3)))))))
def sem_inner_plan : List Dv → Option Dv := semO 4 fs_inner_plan
def fs_Network_known : Fs := (sRetO (oCB bDict (aCons (fFld 0 "Network" "_known") aNil)))
def sem_Network_known : List Dv → Option (Dv × List Dv) := semU [(.i (.io "Network" (.fc "_line" .fr (.fc "_known" .fr (.fc "_sent" .fl (.fc "_changes" .fl .nl))))) (.io "Network" (.fc "_line" .fr (.fc "_known" .fr (.fc "_sent" .fl (.fc "_changes" .fl .nl))))))] .fl 0 fs_Network_known
def fs_Network__begin_change : Fs := (sDrop (fAppF 0 "Network" "_changes" (eTup (eaCons (eFldCB bLen 0 "Network" "_sent") (eaCons (eFld 0 "Network" "_known") eaNil)))))
def sem_Network__begin_change : List Dv → Option (Dv × List Dv) := semU [(.i (.io "Network" (.fc "_line" .fr (.fc "_known" .fr (.fc "_sent" .fl (.fc "_changes" .fl .nl))))) (.io "Network" (.fc "_line" .fr (.fc "_known" .fr (.fc "_sent" .fl (.fc "_changes" .fl .nl))))))] .fr 0 fs_Network__begin_change
def fs__law_spring : Fs := (sSeq (sAsg (fTup (aCons (fC (.int 0)) (aCons (fC (.int 90247)) aNil))) (bTup 2 (bsCons (bName 1) (bsCons (bName 2) bsNil)))) (sSeq (sFor (itL (fZ (oSl (fVar 0) pNo (pAt (fC (.int 63)))))) (bName 3) (sSeq (sIf (tstB (fOp oGe (fCB bAbs (aCons (fVar 3) aNil)) (fOp oPow (fC (.int 10)) (fC (.int 18))))) (sAsg (fOp oAdd (fOp oMul (fVar 1) (fOp oPow (fC (.int 10)) (fC (.int 60)))) (fOp oMod (fCB bAbs (aCons (fVar 3) aNil)) (fOp oPow (fC (.int 10)) (fC (.int 60))))) (bName 1)) sNext) (sAsg (fOp oMod (fOp oAdd (fOp oAdd (fOp oMul (fVar 2) (fC (.int 69069))) (fOp oMod (fVar 3) (fC (.int 2305843009213693921)))) (fC (.int 13))) (fC (.int 2305843009213693951))) (bName 2)))) (sRetO (oLst (aCons (fVar 1) (aCons (fVar 2) (aCons (fC (.int 0)) aNil)))))))
def sem__law_spring : List Dv → Option Dv := semO 3 fs__law_spring
def fs__law_draw : Fs := (sSeq (sIf (tstB (fOp oGt (fOp oIx (fVar 0) (fC (.int 0))) (fC (.int 0)))) (sSeq (sAsg (fOp oMod (fOp oIx (fVar 0) (fC (.int 0))) (fVar 1)) (bName 2)) (sSeq (sSetL 0 (fC (.int 0)) (fOp oFdv (fOp oIx (fVar 0) (fC (.int 0))) (fVar 1))) (sRet (fVar 2)))) sNext) (sSeq (sSetL 0 (fC (.int 2)) (fOp oAdd (fOp oIx (fVar 0) (fC (.int 2))) (fC (.int 1)))) (sSeq (sAsg (fOp oMod (fOp oMul (fOp oIx (fVar 0) (fC (.int 1))) (fOp oIx (fVar 0) (fC (.int 1)))) (fC (.int 2305843009213693951))) (bName 3)) (sSeq (sSetL 0 (fC (.int 1)) (fOp oMod (fOp oAdd (fOp oAdd (fVar 3) (fOp oMul (fOp oMul (fC (.int 6151)) (fOp oIx (fVar 0) (fC (.int 2)))) (fOp oIx (fVar 0) (fC (.int 1))))) (fC (.int 103049))) (fC (.int 2305843009213693951)))) (sRet (fOp oMod (fOp oFdv (fOp oIx (fVar 0) (fC (.int 1))) (fC (.int 65539))) (fVar 1)))))))
def sem__law_draw : Dv → List Dv → Option (Dv × Dv) := semM 0 2 fs__law_draw
def fs__law_mirrored : Fs := (sSeq (sAsgO 2 oDNew) (sSeq (sFor (itD .keys 1) (bName 3) (sSeq (sPut 2 (fVar 3) (fDGet (fVar 1) (fVar 3))) (sIf (tstB (fOp oIsNot (fDGet (fVar 1) (fVar 3)) (fC .non))) (sSeq (sAsg (fDGet (fVar 1) (fVar 3)) (bTup 2 (bsCons (bName 4) (bsCons (bName 5) bsNil)))) (sPut 2 (fVar 3) (fTup (aCons (fIfE (tstB (fOp oIs (fVar 5) (fC .non))) (fC .non) (fOp oSub (fC (.int 0)) (fVar 5))) (aCons (fIfE (tstB (fOp oIs (fVar 4) (fC .non))) (fC .non) (fOp oSub (fC (.int 0)) (fVar 4))) aNil))))) sNext))) (sFrz 2 (sRet (fTup (aCons (fZ (oCB bDict (aCons (fZ (oLc (itD .items 0) (bTup 2 (bsCons (bName 3) (bsCons (bName 6) bsNil))) tstYes (fTup (aCons (fVar 3) (aCons (fOp oSub (fC (.int 0)) (fVar 6)) aNil))) [3, 6])) aNil))) (aCons (fVar 2) aNil)))))))
def sem__law_mirrored : List Dv → Option Dv := semP 5 fs__law_mirrored
def fs_is_position : Fs := (sRet (fAndV (fCallP sem_is_integer (ckLen 1 (aCons (fVar 0) aNil))) (fChain oLe oLe (fNeg (fC (.int (1000000000000000000000000000000)))) (fVar 0) (fC (.int (1000000000000000000000000000000))))))
def sem_is_position : List Dv → Option Dv := semP 0 fs_is_position
def fs_covers : Fs := (sRet (fAndV (fCallP sem_contains (ckLen 2 (aCons (fVar 0) (aCons (fVar 1) aNil)))) (fCallP sem_contains (ckLen 2 (aCons (fVar 0) (aCons (fVar 2) aNil))))))
def sem_covers : List Dv → Option Dv := semP 0 fs_covers
def fs_is_end : Fs := (sRet (fAndV (fCallP sem_is_integer (ckLen 1 (aCons (fVar 1) aNil))) (fOp oInF (fVar 1) (fZ (oLV (fVar 0))))))
def sem_is_end : List Dv → Option Dv := semP 0 fs_is_end
def fs_is_frame : Fs := (sSeq (sIf (tstNot (tstB (fCallP sem_is_pair (ckLen 1 (aCons (fVar 1) aNil))))) (sRet (fC (.bl false))) sNext) (sSeq (sAsg (fVar 1) (bTup 2 (bsCons (bName 2) (bsCons (bName 3) bsNil)))) (sRet (fAndV (fCallP sem_is_host (ckLen 2 (aCons (fVar 0) (aCons (fVar 2) aNil)))) (fAndV (fCallP sem_is_host (ckLen 2 (aCons (fVar 0) (aCons (fVar 3) aNil)))) (fOp oNeX (fVar 2) (fVar 3)))))))
def sem_is_frame : List Dv → Option Dv := semP 2 fs_is_frame
def fs_check_hosts : Fs := (sSeq (sIf (tstNot (tstB (fCallP sem_is_host (ckLen 2 (aCons (fVar 0) (aCons (fVar 1) aNil)))))) sNever sNext) (sIf (tstOr (tstNot (tstB (fCallP sem_is_host (ckLen 2 (aCons (fVar 0) (aCons (fVar 2) aNil)))))) (tstB (fOp oEqX (fVar 2) (fVar 1)))) sNever sNext))
def sem_check_hosts : List Dv → Option Dv := semP 0 fs_check_hosts
def fs_kind_in : Fs := (sSeq (sIf (tstB (fOp oIs (fDGet (fVar 1) (fVar 3)) (fC .non))) (sRet (fC (.str "all"))) sNext) (sSeq (sIf (tstB (fCallP sem_contains (ckLen 2 (aCons (fDGet (fVar 1) (fVar 3)) (aCons (fDGet (fVar 0) (fVar 2)) aNil))))) (sRet (fC (.str "direct"))) sNext) (sRet (fC (.str "flood")))))
def sem_kind_in : List Dv → Option Dv := semP 0 fs_kind_in
def fs_frames_to_ends : Fs := (sSeq (sIf (tstB (fCallP sem_contains (ckLen 2 (aCons (fDGet (fVar 1) (fVar 4)) (aCons (fDGet (fVar 0) (fVar 2)) aNil))))) (sRet (fZ (oLst (aCons (fTup (aCons (fVar 4) (aCons (fVar 3) aNil))) aNil)))) sNext) (sSeq (sIf (tstB (fCallP sem_contains (ckLen 2 (aCons (fDGet (fVar 1) (fVar 4)) (aCons (fDGet (fVar 0) (fVar 3)) aNil))))) (sRet (fZ (oLst (aCons (fTup (aCons (fVar 4) (aCons (fVar 2) aNil))) aNil)))) sNext) (sSeq (sFor (itT (fTup (aCons (fVar 2) (aCons (fVar 3) aNil)))) (bName 5) (sIf (tstNot (tstB (fCallP sem_contains (ckLen 2 (aCons (fDGet (fVar 1) (fVar 5)) (aCons (fDGet (fVar 0) (fVar 4)) aNil)))))) (sRet (fZ (oLst (aCons (fTup (aCons (fVar 4) (aCons (fVar 5) aNil))) aNil)))) sNext)) (sRet (fZ (oLst (aCons (fTup (aCons (fVar 4) (aCons (fVar 2) aNil))) (aCons (fTup (aCons (fVar 4) (aCons (fVar 3) aNil))) aNil))))))))
def sem_frames_to_ends : List Dv → Option Dv := semP 1 fs_frames_to_ends
def fs__law_names : Fs := (sSeq (sAsgO 2 (oOp oCat (fZ (oCB bList (aCons (fC (.str "abcdefghijklmnopqrstuvwxyz")) aNil))) (fZ (oLst (aCons (fC (.str "aa")) (aCons (fC (.str "ab")) (aCons (fC (.str "ba")) (aCons (fC (.str "zz")) (aCons (fC (.str "zzzzzzzz")) (aCons (fC (.str "all")) (aCons (fC (.str "flood")) (aCons (fC (.str "direct")) aNil)))))))))))) (sSeq (sAsgO 2 (oOp oCat (fVar 2) (fZ (oLst (aCons (fC (.str "silent")) (aCons (fC (.str "ring")) (aCons (fC (.str "send")) (aCons (fC (.str "undo")) (aCons (fC (.str "host")) (aCons (fC (.str "unknown")) aNil)))))))))) (sRet (fZ (oLc (itR1 (aCons (fVar 1) aNil)) (bName 3) tstYes (fOwnL 2 (fPopAt 2 (fCallM 2 0 sem__law_draw (aCons (fVar 0) (aCons (fCB bLen (aCons (fVar 2) aNil)) aNil))))) [3])))))
def sem__law_names : Dv → List Dv → Option (Dv × Dv) := semM 0 2 fs__law_names
def fs__law_frames : Fs := (sSeq (sParO 3 4 (oaConsE (fZ (oCB bSort (aCons (fVar 1) aNil))) (oaConsO (oLst aNil) oaNil))) (sSeq (sAsg (fOp oAdd (fC (.int 1)) (fCallM 2 0 sem__law_draw (aCons (fVar 0) (aCons (fCB bLen (aCons (fVar 3) aNil)) aNil)))) (bName 5)) (sSeq (sFor (itR1 (aCons (fOp oMul (fVar 2) (fCB bInt1 (aCons (fOp oGt (fCB bLen (aCons (fVar 3) aNil)) (fC (.int 1))) aNil))) aNil)) (bName 6) (sSeq (sAsg (fCallM 2 0 sem__law_draw (aCons (fVar 0) (aCons (fOp oIx (fZ (oLst (aCons (fCB bLen (aCons (fVar 3) aNil)) (aCons (fVar 5) aNil)))) (fCallM 2 0 sem__law_draw (aCons (fVar 0) (aCons (fC (.int 2)) aNil)))) aNil))) (bName 7)) (sSeq (sAsg (fOp oMod (fOp oAdd (fOp oAdd (fVar 7) (fC (.int 1))) (fCallM 2 0 sem__law_draw (aCons (fVar 0) (aCons (fOp oSub (fCB bLen (aCons (fVar 3) aNil)) (fC (.int 1))) aNil)))) (fCB bLen (aCons (fVar 3) aNil))) (bName 8)) (sDrop (fOwnL 4 (fApp 4 (fTup (aCons (fOp oIx (fVar 3) (fVar 7)) (aCons (fOp oIx (fVar 3) (fVar 8)) aNil))))))))) (sRetA 4))))
def sem__law_frames : List Dv → Option (Dv × List Dv) := semU [(.i .fl .fl), .f, .f] .fl 6 fs__law_frames
def fs__law_state : Fs := (sSeq (sPar3O 2 3 4 (oaConsE (fCallM 2 0 sem__law_draw (aCons (fVar 0) (aCons (fC (.int 4)) aNil))) (oaConsO oDNew (oaConsE (fZ (oSV (fVar 1))) oaNil)))) (sSeq (sFor (itL (fZ (oCB bSort (aCons (fVar 1) aNil)))) (bName 5) (sSeq (sAsg (fZ (oOp oCat (fZ (oLc (itL (fVar 4)) (bName 9) (tstB (fOp oLe (fVar 9) (fDGet (fVar 1) (fVar 5)))) (fVar 9) [9])) (fZ (oLst (aCons (fC .non) aNil))))) (bName 6)) (sSeq (sAsg (fZ (oOp oCat (fZ (oLst (aCons (fC .non) aNil))) (fZ (oLc (itL (fVar 4)) (bName 9) (tstB (fOp oGe (fVar 9) (fDGet (fVar 1) (fVar 5)))) (fVar 9) [9])))) (bName 7)) (sSeq (sAsg (fCallM 2 0 sem__law_draw (aCons (fVar 0) (aCons (fOp oIx (fZ (oLst (aCons (fC (.int 3)) (aCons (fC (.int 4)) (aCons (fC (.int 6)) (aCons (fC (.int 9)) aNil)))))) (fVar 2)) aNil))) (bName 8)) (sIf (tstB (fOp oEqX (fVar 8) (fC (.int 0)))) (sPut 3 (fVar 5) (fC .non)) (sIf (tstAnd (tstB (fOp oEqX (fVar 8) (fC (.int 1)))) (tstB (fOp oGt (fVar 2) (fC (.int 0))))) (sPut 3 (fVar 5) (fTup (aCons (fC .non) (aCons (fC .non) aNil)))) (sIf (tstAnd (tstB (fOp oEqX (fVar 8) (fC (.int 2)))) (tstB (fOp oGt (fVar 2) (fC (.int 1))))) (sPut 3 (fVar 5) (fTup (aCons (fDGet (fVar 1) (fVar 5)) (aCons (fDGet (fVar 1) (fVar 5)) aNil)))) (sPut 3 (fVar 5) (fTup (aCons (fOp oIx (fVar 6) (fCallM 2 0 sem__law_draw (aCons (fVar 0) (aCons (fCB bLen (aCons (fVar 6) aNil)) aNil)))) (aCons (fOp oIx (fVar 7) (fCallM 2 0 sem__law_draw (aCons (fVar 0) (aCons (fCB bLen (aCons (fVar 7) aNil)) aNil)))) aNil))))))))))) (sRetA 3)))
def sem__law_state : List Dv → Option (Dv × List Dv) := semU [(.i .fl .fl), .f] .fl 8 fs__law_state
def fs_is_line : Fs := (sSeq (sIf (tstOr (tstNot (tstB (fIsi "dict" (fVar 0)))) (tstNot (tstB (fChain oLe oLe (fC (.int 1)) (fCB bLen (aCons (fVar 0) aNil)) (fC (.int (40))))))) (sRet (fC (.bl false))) sNext) (sSeq (sFor (itD .items 0) (bTup 2 (bsCons (bName 1) (bsCons (bName 2) bsNil))) (sIf (tstOr (tstNot (tstB (fCallP sem_is_name (ckLen 1 (aCons (fVar 1) aNil))))) (tstNot (tstB (fCallP sem_is_position (ckLen 1 (aCons (fVar 2) aNil)))))) (sRet (fC (.bl false))) sNext)) (sRet (fOp oEqX (fLenSet (fZ (oLV (fVar 0)))) (fCB bLen (aCons (fVar 0) aNil))))))
def sem_is_line : List Dv → Option Dv := semP 2 fs_is_line
def fs_is_known_interval : Fs := (sSeq (sIf (tstB (fOp oIs (fVar 2) (fC .non))) (sRet (fC (.bl true))) sNext) (sSeq (sIf (tstNot (tstB (fCallP sem_is_pair (ckLen 1 (aCons (fVar 2) aNil))))) (sRet (fC (.bl false))) sNext) (sSeq (sAsg (fVar 2) (bTup 2 (bsCons (bName 3) (bsCons (bName 4) bsNil)))) (sSeq (sAsg (fDGet (fVar 0) (fVar 1)) (bName 5)) (sSeq (sAsg (fOrV (fOp oIs (fVar 3) (fC .non)) (fAndV (fCallP sem_is_end (ckLen 2 (aCons (fVar 0) (aCons (fVar 3) aNil)))) (fOp oLe (fVar 3) (fVar 5)))) (bName 6)) (sSeq (sAsg (fOrV (fOp oIs (fVar 4) (fC .non)) (fAndV (fCallP sem_is_end (ckLen 2 (aCons (fVar 0) (aCons (fVar 4) aNil)))) (fOp oGe (fVar 4) (fVar 5)))) (bName 7)) (sRet (fAndV (fVar 6) (fVar 7)))))))))
def sem_is_known_interval : List Dv → Option Dv := semP 5 fs_is_known_interval
def fs_send_one : Fs := (sSeq (sAsg (fCallB 4 1 sem_kind_in (aCons (fVar 0) (aCons (fVar 1) (aCons (fVar 2) (aCons (fVar 3) aNil))))) (bName 4)) (sSeq (sAsg (fCallP sem_reach_of_kind (ckLen 3 (aCons (fVar 4) (aCons (fDGet (fVar 0) (fVar 2)) (aCons (fDGet (fVar 0) (fVar 3)) aNil))))) (bName 5)) (sSeq (sPut 1 (fVar 2) (fCallP sem_joined (ckLen 2 (aCons (fDGet (fVar 1) (fVar 2)) (aCons (fVar 5) aNil))))) (sRet (fTup (aCons (fVar 4) (aCons (fVar 5) aNil)))))))
def sem_send_one : Dv → List Dv → Option (Dv × Dv) := semM 1 2 fs_send_one
def fs__law_line : Fs := (sSeq (sAsg (fCallM 2 0 sem__law_draw (aCons (fVar 0) (aCons (fC (.int 4)) aNil))) (bName 2)) (sSeq (sPar 3 4 (aCons (fOp oIx (fZ (oLst (aCons (fC (.int 1)) (aCons (fC (.int 4)) (aCons (fOp oPow (fC (.int 10)) (fC (.int 28))) (aCons (fOp oMul (fC (.int 5)) (fOp oPow (fC (.int 10)) (fC (.int 28)))) aNil)))))) (fVar 2)) (aCons (fOp oIx (fZ (oLst (aCons (fNeg (fC (.int 2))) (aCons (fNeg (fC (.int 9))) (aCons (fNeg (fOp oPow (fC (.int 10)) (fC (.int 29)))) (aCons (fNeg (fOp oPow (fC (.int 10)) (fC (.int 30)))) aNil)))))) (fVar 2)) aNil))) (sSeq (sParO 5 6 (oaConsO (oLst aNil) (oaConsO (oLst aNil) oaNil))) (sSeq (sFor (itL (fCallM 2 0 sem__law_names (aCons (fVar 0) (aCons (fVar 1) aNil)))) (bName 7) (sSeq (sDrop (fOwnL 5 (fApp 5 (fTup (aCons (fVar 7) (aCons (fVar 4) aNil)))))) (sAsg (fOp oAdd (fOp oAdd (fVar 4) (fC (.int 1))) (fCallM 2 0 sem__law_draw (aCons (fVar 0) (aCons (fVar 3) aNil)))) (bName 4)))) (sSeq (wLoop (tstB (fOp oNeX (fVar 5) (fZ (oLst aNil)))) (sDrop (fOwnL 6 (fApp 6 (fOwnL 5 (fPopAt 5 (fCallM 2 0 sem__law_draw (aCons (fVar 0) (aCons (fCB bLen (aCons (fVar 5) aNil)) aNil)))))))) 100000) (sRetO (oCB bDict (aCons (fVar 6) aNil))))))))
def sem__law_line : List Dv → Option (Dv × List Dv) := semU [(.i .fl .fl), .f] .fl 6 fs__law_line
def fs_check_line : Fs := (sIf (tstNot (tstB (fCallP sem_is_line (ckLen 1 (aCons (fVar 0) aNil))))) sNever sNext)
def sem_check_line : List Dv → Option Dv := semP 0 fs_check_line
def fs_send_each : Fs := (sSeq (sAsgO 3 (oLst aNil)) (sSeq (sFor (itL (fVar 2)) (bTup 2 (bsCons (bName 4) (bsCons (bName 5) bsNil))) (sDrop (fOwnL 3 (fApp 3 (fCallM 4 1 sem_send_one (aCons (fVar 0) (aCons (fVar 1) (aCons (fVar 4) (aCons (fVar 5) aNil))))))))) (sRet (fVar 3))))
def sem_send_each : Dv → List Dv → Option (Dv × Dv) := semM 1 3 fs_send_each
def fs_Network__pass_on : Fs := (sSeq (sAsgO 3 (oPrp 0 "Network" [(.i (.io "Network" (.fc "_line" .fr (.fc "_known" .fr (.fc "_sent" .fl (.fc "_changes" .fl .nl))))) (.io "Network" (.fc "_line" .fr (.fc "_known" .fr (.fc "_sent" .fl (.fc "_changes" .fl .nl))))))] sem_Network_known)) (sSeq (sAsg (fCallM 4 1 sem_send_one (aCons (fFld 0 "Network" "_line") (aCons (fVar 3) (aCons (fVar 1) (aCons (fVar 2) aNil))))) (bTup 2 (bsCons (bName 4) (bsCons (bName 5) bsNil)))) (sSeq (sFrz 3 (sSetF 0 "Network" "_known" .fr (oDv (fVar 3)))) (sSeq (sDrop (fAppF 0 "Network" "_sent" (eTup (eaCons (eVar 1) (eaCons (eVar 2) eaNil))))) (sRet (fVar 4))))))
def sem_Network__pass_on : List Dv → Option (Dv × List Dv) := semU [(.i (.io "Network" (.fc "_line" .fr (.fc "_known" .fr (.fc "_sent" .fl (.fc "_changes" .fl .nl))))) (.io "Network" (.fc "_line" .fr (.fc "_known" .fr (.fc "_sent" .fl (.fc "_changes" .fl .nl)))))), .f, .f] .fr 3 fs_Network__pass_on
def fs_is_state : Fs := (sSeq (sDrop (fCallP sem_check_line (ckLen 1 (aCons (fVar 0) aNil)))) (sSeq (sIf (tstNot (tstB (fCallP sem_has_hosts_of (ckLen 2 (aCons (fVar 0) (aCons (fVar 1) aNil)))))) (sRet (fC (.bl false))) sNext) (sRet (fCB bAll (aCons (fZ (oLc (itD .keys 0) (bName 2) tstYes (fCallP sem_is_known_interval (ckLen 3 (aCons (fVar 0) (aCons (fVar 2) (aCons (fDGet (fVar 1) (fVar 2)) aNil))))) [2])) aNil)))))
def sem_is_state : List Dv → Option Dv := semP 1 fs_is_state
def fs_is_frames : Fs := (sSeq (sDrop (fCallP sem_check_line (ckLen 1 (aCons (fVar 0) aNil)))) (sSeq (sIf (tstOr (tstNot (tstB (fCallP sem_is_list (ckLen 1 (aCons (fVar 1) aNil))))) (tstB (fOp oGt (fCB bLen (aCons (fVar 1) aNil)) (fC (.int (300)))))) (sRet (fC (.bl false))) sNext) (sRet (fCB bAll (aCons (fZ (oLc (itL (fVar 1)) (bName 2) tstYes (fCallP sem_is_frame (ckLen 2 (aCons (fVar 0) (aCons (fVar 2) aNil)))) [2])) aNil)))))
def sem_is_frames : List Dv → Option Dv := semP 1 fs_is_frames
def fs_in_order : Fs := (sSeq (sDrop (fCallP sem_check_line (ckLen 1 (aCons (fVar 0) aNil)))) (sSeq (sAsg (fZ (oCB bSortP (aCons (fZ (oLc (itD .items 0) (bTup 2 (bsCons (bName 3) (bsCons (bName 4) bsNil))) tstYes (fTup (aCons (fVar 4) (aCons (fVar 3) aNil))) [3, 4])) aNil))) (bName 1)) (sRet (fZ (oLc (itL (fVar 1)) (bName 2) tstYes (fOp oIx (fVar 2) (fC (.int 1))) [2])))))
def sem_in_order : List Dv → Option Dv := semP 4 fs_in_order
def fs_Network___init__ : Fs := (sSeq (sDrop (fCallP sem_check_line (ckLen 1 (aCons (fVar 1) aNil)))) (sSeq (sSetF 0 "Network" "_line" .fr (oDv (fZ (oDc (itL (fZ (oCB bSort (aCons (fVar 1) aNil)))) (bName 2) tstYes (fVar 2) (fDGet (fVar 1) (fVar 2)) [2])))) (sSeq (sSetF 0 "Network" "_known" .fr (oDv (fZ (oCall sem_silent_state (ckLen 1 (aCons (fFld 0 "Network" "_line") aNil)))))) (sSeq (sSetF 0 "Network" "_sent" .fl (oLst aNil)) (sSetF 0 "Network" "_changes" .fl (oLst aNil))))))
def sem_Network___init__ : List Dv → Option (Dv × List Dv) := semU [(.i (.io "Network" .nl) (.io "Network" (.fc "_line" .fr (.fc "_known" .fr (.fc "_sent" .fl (.fc "_changes" .fl .nl)))))), .f] .fr 1 fs_Network___init__
def fs_Network_send : Fs := (sSeq (sDrop (fCallP sem_check_hosts (ckLen 3 (aCons (fFld 0 "Network" "_line") (aCons (fVar 1) (aCons (fVar 2) aNil)))))) (sSeq (sDrop (fZ (oMeth 0 "Network" "_begin_change" [(.i (.io "Network" (.fc "_line" .fr (.fc "_known" .fr (.fc "_sent" .fl (.fc "_changes" .fl .nl))))) (.io "Network" (.fc "_line" .fr (.fc "_known" .fr (.fc "_sent" .fl (.fc "_changes" .fl .nl))))))] sem_Network__begin_change uaNil))) (sRet (fZ (oMeth 0 "Network" "_pass_on" [(.i (.io "Network" (.fc "_line" .fr (.fc "_known" .fr (.fc "_sent" .fl (.fc "_changes" .fl .nl))))) (.io "Network" (.fc "_line" .fr (.fc "_known" .fr (.fc "_sent" .fl (.fc "_changes" .fl .nl)))))), .f, .f] sem_Network__pass_on (uaE (fVar 1) (uaE (fVar 2) uaNil)))))))
def sem_Network_send : List Dv → Option (Dv × List Dv) := semU [(.i (.io "Network" (.fc "_line" .fr (.fc "_known" .fr (.fc "_sent" .fl (.fc "_changes" .fl .nl))))) (.io "Network" (.fc "_line" .fr (.fc "_known" .fr (.fc "_sent" .fl (.fc "_changes" .fl .nl)))))), .f, .f] .fr 0 fs_Network_send
def fs_check_state : Fs := (sIf (tstNot (tstB (fCallP sem_is_state (ckLen 2 (aCons (fVar 0) (aCons (fVar 1) aNil)))))) sNever sNext)
def sem_check_state : List Dv → Option Dv := semP 0 fs_check_state
def fs_check_frames : Fs := (sIf (tstNot (tstB (fCallP sem_is_frames (ckLen 2 (aCons (fVar 0) (aCons (fVar 1) aNil)))))) sNever sNext)
def sem_check_frames : List Dv → Option Dv := semP 0 fs_check_frames
def fs_lacking : Fs := (sSeq (sDrop (fCallP sem_check_state (ckLen 2 (aCons (fVar 0) (aCons (fVar 1) aNil))))) (sSeq (sAsg (fCallP sem_in_order (ckLen 1 (aCons (fVar 0) aNil))) (bName 2)) (sSeq (sIf (tstB (fOp oEqX (fCB bLen (aCons (fVar 2) aNil)) (fC (.int 1)))) (sRetO (oLst aNil)) sNext) (sSeq (sAsg (fDGet (fVar 0) (fOp oIx (fVar 2) (fC (.int 0)))) (bName 3)) (sSeq (sAsg (fDGet (fVar 0) (fOp oIx (fVar 2) (fNeg (fC (.int 1))))) (bName 4)) (sRetO (oLc (itL (fVar 2)) (bName 5) (tstNot (tstB (fCallP sem_covers (ckLen 3 (aCons (fDGet (fVar 1) (fVar 5)) (aCons (fVar 3) (aCons (fVar 4) aNil))))))) (fVar 5) [5])))))))
def sem_lacking : List Dv → Option Dv := semO 4 fs_lacking
def fs_starting_state : Fs := (sSeq (sIf (tstB (fOp oIs (fVar 1) (fC .non))) (sRetO (oCall sem_silent_state (ckLen 1 (aCons (fVar 0) aNil)))) sNext) (sSeq (sDrop (fCallP sem_check_state (ckLen 2 (aCons (fVar 0) (aCons (fVar 1) aNil))))) (sRetO (oCB bDict (aCons (fVar 1) aNil)))))
def sem_starting_state : List Dv → Option Dv := semO 0 fs_starting_state
def fs_is_quiet : Fs := (sRet (fOp oEqX (fCB bLen (aCons (fZ (oCall sem_lacking (ckLen 2 (aCons (fVar 0) (aCons (fVar 1) aNil))))) aNil)) (fC (.int 0))))
def sem_is_quiet : List Dv → Option Dv := semP 0 fs_is_quiet
def fs_kinds_of : Fs := (sSeq (sDrop (fCallP sem_check_frames (ckLen 2 (aCons (fVar 0) (aCons (fVar 1) aNil))))) (sSeq (sAsg (fCallMO 3 1 sem_send_each (oaConsE (fVar 0) (oaConsO (oCall sem_starting_state (ckLen 2 (aCons (fVar 0) (aCons (fVar 2) aNil)))) (oaConsE (fVar 1) oaNil)))) (bName 3)) (sRetO (oLc (itL (fVar 3)) (bTup 2 (bsCons (bName 4) (bsCons (bName 5) bsNil))) tstYes (fVar 4) [4, 5]))))
def sem_kinds_of : List Dv → Option Dv := semO 3 fs_kinds_of
def fs_known_after : Fs := (sSeq (sDrop (fCallP sem_check_frames (ckLen 2 (aCons (fVar 0) (aCons (fVar 1) aNil))))) (sSeq (sAsgO 3 (oCall sem_starting_state (ckLen 2 (aCons (fVar 0) (aCons (fVar 2) aNil))))) (sSeq (sDrop (fCallM 3 1 sem_send_each (aCons (fVar 0) (aCons (fVar 3) (aCons (fVar 1) aNil))))) (sFrz 3 (sRetO (oDc (itL (fZ (oCB bSort (aCons (fVar 3) aNil)))) (bName 4) tstYes (fVar 4) (fDGet (fVar 3) (fVar 4)) [4]))))))
def sem_known_after : List Dv → Option Dv := semO 2 fs_known_after
def fs_quiet_plan : Fs := (sSeq (sAsg (fZ (oCall sem_lacking (ckLen 2 (aCons (fVar 0) (aCons (fVar 1) aNil))))) (bName 2)) (sSeq (sAsg (fCallP sem_in_order (ckLen 1 (aCons (fVar 0) aNil))) (bName 3)) (sSeq (sAsg (fOp oIx (fVar 3) (fC (.int 0))) (bName 4)) (sSeq (sAsg (fOp oIx (fVar 3) (fNeg (fC (.int 1)))) (bName 5)) (sSeq (sAsg (fZ (oLc (itL (fVar 2)) (bName 8) (tstB (fOp oNotInF (fVar 8) (fTup (aCons (fVar 4) (aCons (fVar 5) aNil))))) (fVar 8) [8])) (bName 6)) (sSeq (sAsgO 7 (oCall sem_inner_plan (ckLen 2 (aCons (fVar 1) (aCons (fZ (oDc (itL (fVar 6)) (bName 8) tstYes (fVar 8) (fCallP sem_frames_to_ends (ckLen 5 (aCons (fVar 0) (aCons (fVar 1) (aCons (fVar 4) (aCons (fVar 5) (aCons (fVar 8) aNil))))))) [8])) aNil))))) (sSeq (sIf (tstB (fOp oInF (fVar 4) (fVar 2))) (sDrop (fOwnL 7 (fApp 7 (fTup (aCons (fVar 4) (aCons (fVar 5) aNil)))))) sNext) (sSeq (sIf (tstB (fOp oInF (fVar 5) (fVar 2))) (sDrop (fOwnL 7 (fApp 7 (fTup (aCons (fVar 5) (aCons (fVar 4) aNil)))))) sNext) (sRetA 7)))))))))
def sem_quiet_plan : List Dv → Option Dv := semO 7 fs_quiet_plan
def fs_fewest_frames : Fs := (sRet (fCB bLen (aCons (fZ (oCall sem_quiet_plan (ckLen 2 (aCons (fVar 0) (aCons (fVar 1) aNil))))) aNil)))
def sem_fewest_frames : List Dv → Option Dv := semP 0 fs_fewest_frames
def fs__law_network_right : Fs := (sSeq (sAsgN 3 (.io "Network" (.fc "_line" .fr (.fc "_known" .fr (.fc "_sent" .fl (.fc "_changes" .fl .nl))))) (oMake 1 sem_Network___init__ (aCons (fVar 1) aNil))) (sSeq (sFor (itL (fVar 2)) (bTup 2 (bsCons (bName 4) (bsCons (bName 5) bsNil))) (sDrop (fZ (oMeth 3 "Network" "send" [(.i (.io "Network" (.fc "_line" .fr (.fc "_known" .fr (.fc "_sent" .fl (.fc "_changes" .fl .nl))))) (.io "Network" (.fc "_line" .fr (.fc "_known" .fr (.fc "_sent" .fl (.fc "_changes" .fl .nl)))))), .f, .f] sem_Network_send (uaE (fVar 4) (uaE (fVar 5) uaNil)))))) (sSeq (sAsg (fZ (oCall sem_quiet_plan (ckLen 2 (aCons (fVar 1) (aCons (fZ (oPrp 3 "Network" [(.i (.io "Network" (.fc "_line" .fr (.fc "_known" .fr (.fc "_sent" .fl (.fc "_changes" .fl .nl))))) (.io "Network" (.fc "_line" .fr (.fc "_known" .fr (.fc "_sent" .fl (.fc "_changes" .fl .nl))))))] sem_Network_known)) aNil))))) (bName 6)) (sSeq (sFor (itL (fVar 6)) (bTup 2 (bsCons (bName 4) (bsCons (bName 5) bsNil))) (sDrop (fZ (oMeth 3 "Network" "send" [(.i (.io "Network" (.fc "_line" .fr (.fc "_known" .fr (.fc "_sent" .fl (.fc "_changes" .fl .nl))))) (.io "Network" (.fc "_line" .fr (.fc "_known" .fr (.fc "_sent" .fl (.fc "_changes" .fl .nl)))))), .f, .f] sem_Network_send (uaE (fVar 4) (uaE (fVar 5) uaNil)))))) (sSeq (sIf (tstOr (tstNot (tstB (fCallP sem_is_quiet (ckLen 2 (aCons (fVar 1) (aCons (fZ (oPrp 3 "Network" [(.i (.io "Network" (.fc "_line" .fr (.fc "_known" .fr (.fc "_sent" .fl (.fc "_changes" .fl .nl))))) (.io "Network" (.fc "_line" .fr (.fc "_known" .fr (.fc "_sent" .fl (.fc "_changes" .fl .nl))))))] sem_Network_known)) aNil)))))) (tstB (fOp oNeX (fZ (oPrp 3 "Network" [(.i (.io "Network" (.fc "_line" .fr (.fc "_known" .fr (.fc "_sent" .fl (.fc "_changes" .fl .nl))))) (.io "Network" (.fc "_line" .fr (.fc "_known" .fr (.fc "_sent" .fl (.fc "_changes" .fl .nl))))))] sem_Network_known)) (fZ (oCall sem_known_after (ckLen 3 (aMore [.non] (aCons (fVar 1) (aCons (fZ (oOp oCat (fVar 2) (fVar 6))) aNil))))))))) (sRet (fC (.bl false))) sNext) (sSeq (sAsg (fZ (oCallU [(.i .fl .fl), .f, .f] sem__law_frames (uaE (fVar 0) (uaE (fVar 1) (uaE (fC (.int 5)) uaNil))))) (bName 7)) (sRet (fOp oEqX (fZ (oLc (itL (fVar 7)) (bTup 2 (bsCons (bName 4) (bsCons (bName 5) bsNil))) tstYes (fZ (oMeth 3 "Network" "send" [(.i (.io "Network" (.fc "_line" .fr (.fc "_known" .fr (.fc "_sent" .fl (.fc "_changes" .fl .nl))))) (.io "Network" (.fc "_line" .fr (.fc "_known" .fr (.fc "_sent" .fl (.fc "_changes" .fl .nl)))))), .f, .f] sem_Network_send (uaE (fVar 4) (uaE (fVar 5) uaNil)))) [4, 5])) (fZ (oOp oRep (fZ (oLst (aCons (fC (.str "direct")) aNil))) (fCB bLen (aCons (fVar 7) aNil))))))))))))
def sem__law_network_right : Dv → List Dv → Option (Dv × Dv) := semM 0 5 fs__law_network_right
def fs__law_plan_right : Fs := (sSeq (sPar 3 4 (aCons (fZ (oCall sem_quiet_plan (ckLen 2 (aCons (fVar 1) (aCons (fVar 2) aNil))))) (aCons (fCallP sem_fewest_frames (ckLen 2 (aCons (fVar 1) (aCons (fVar 2) aNil)))) aNil))) (sSeq (sIf (tstOr (tstB (fOp oNeX (fCB bLen (aCons (fVar 3) aNil)) (fVar 4))) (tstOr (tstB (fOp oNeX (fOp oEqX (fVar 4) (fC (.int 0))) (fCallP sem_is_quiet (ckLen 2 (aCons (fVar 1) (aCons (fVar 2) aNil)))))) (tstB (fOp oNeX (fOp oEqX (fVar 4) (fC (.int 0))) (fOp oEqX (fZ (oCall sem_lacking (ckLen 2 (aCons (fVar 1) (aCons (fVar 2) aNil))))) (fZ (oLst aNil))))))) (sRet (fC (.bl false))) sNext) (sSeq (sAsg (fVar 2) (bName 5)) (sSeq (sFor (itE (aCons (fVar 3) aNil)) (bTup 2 (bsCons (bName 6) (bsCons (bName 7) bsNil))) (sSeq (sFor (itL (fZ (oCallU [(.i .fl .fl), .f, .f] sem__law_frames (uaE (fVar 0) (uaE (fVar 1) (uaE (fCB bInt1 (aCons (fOp oEqX (fOp oMod (fVar 6) (fC (.int 4))) (fC (.int 0))) aNil)) uaNil)))))) (bName 8) (sIf (tstB (fOp oLt (fCallP sem_fewest_frames (ckLen 2 (aCons (fVar 1) (aCons (fZ (oCall sem_known_after (ckLen 3 (aAppN 2 1 (aCons (fVar 1) (aCons (fZ (oLst (aCons (fVar 8) aNil))) aNil)) (aCons (fVar 5) aNil))))) aNil)))) (fOp oSub (fOp oSub (fVar 4) (fVar 6)) (fC (.int 1))))) (sRet (fC (.bl false))) sNext)) (sSeq (sAsg (fZ (oCall sem_known_after (ckLen 3 (aAppN 2 1 (aCons (fVar 1) (aCons (fZ (oLst (aCons (fVar 7) aNil))) aNil)) (aCons (fVar 5) aNil))))) (bName 5)) (sIf (tstB (fOp oNeX (fCallP sem_fewest_frames (ckLen 2 (aCons (fVar 1) (aCons (fVar 5) aNil)))) (fOp oSub (fOp oSub (fVar 4) (fVar 6)) (fC (.int 1))))) (sRet (fC (.bl false))) sNext)))) (sSeq (sAsg (fZ (oOp oCat (fVar 3) (fZ (oCallU [(.i .fl .fl), .f, .f] sem__law_frames (uaE (fVar 0) (uaE (fVar 1) (uaE (fC (.int 20)) uaNil))))))) (bName 9)) (sSeq (sIf (tstOr (tstNot (tstB (fCallP sem_is_quiet (ckLen 2 (aCons (fVar 1) (aCons (fVar 5) aNil)))))) (tstB (fOp oNeX (fZ (oCall sem_kinds_of (ckLen 3 (aAppN 2 1 (aCons (fVar 1) (aCons (fVar 9) aNil)) (aCons (fVar 5) aNil))))) (fZ (oOp oRep (fZ (oLst (aCons (fC (.str "direct")) aNil))) (fCB bLen (aCons (fVar 9) aNil))))))) (sRet (fC (.bl false))) sNext) (sSeq (sAsg (fCallP sem__law_mirrored (ckLen 2 (aCons (fVar 1) (aCons (fVar 2) aNil)))) (bTup 2 (bsCons (bName 10) (bsCons (bName 8) bsNil)))) (sRet (fOp oEqX (fCallP sem_fewest_frames (ckLen 2 (aCons (fVar 10) (aCons (fVar 8) aNil)))) (fVar 4))))))))))
def sem__law_plan_right : Dv → List Dv → Option (Dv × Dv) := semM 0 8 fs__law_plan_right
def fs_law : Fs := (sSeq (sAsgO 1 (oCall sem__law_spring (ckLen 1 (aCons (fVar 0) aNil)))) (sSeq (sFor (itR1 (aCons (fOp oAdd (fC (.int 3)) (fCB bMin2 (aCons (fC (.int 5)) (aCons (fCB bLen (aCons (fVar 0) aNil)) aNil)))) aNil)) (bName 2) (sSeq (sAsg (fZ (oCallU [(.i .fl .fl), .f] sem__law_line (uaE (fVar 1) (uaE (fOp oIx (fZ (oLst (aCons (fOp oAdd (fC (.int 1)) (fCallM 2 0 sem__law_draw (aCons (fVar 1) (aCons (fC (.int 6)) aNil)))) (aCons (fOp oAdd (fC (.int 1)) (fCallM 2 0 sem__law_draw (aCons (fVar 1) (aCons (fC (.int 40)) aNil)))) aNil)))) (fOp oMod (fVar 2) (fC (.int 2)))) uaNil)))) (bName 3)) (sSeq (sAsg (fZ (oCallU [(.i .fl .fl), .f, .f] sem__law_frames (uaE (fVar 1) (uaE (fVar 3) (uaE (fCallM 2 0 sem__law_draw (aCons (fVar 1) (aCons (fC (.int 81)) aNil))) uaNil))))) (bName 4)) (sSeq (sFor (itL (fZ (oLst (aCons (fZ (oCallU [(.i .fl .fl), .f] sem__law_state (uaE (fVar 1) (uaE (fVar 3) uaNil)))) (aCons (fZ (oCall sem_known_after (ckLen 3 (aMore [.non] (aCons (fVar 3) (aCons (fVar 4) aNil)))))) aNil))))) (bName 5) (sIf (tstNot (tstB (fCallM 3 0 sem__law_plan_right (aCons (fVar 1) (aCons (fVar 3) (aCons (fVar 5) aNil)))))) (sRet (fC (.bl false))) sNext)) (sIf (tstNot (tstB (fCallM 3 0 sem__law_network_right (aCons (fVar 1) (aCons (fVar 3) (aCons (fVar 4) aNil)))))) (sRet (fC (.bl false))) sNext))))) (sRet (fC (.bl true)))))
def sem_law : List Dv → Option Dv := semP 5 fs_law
local macro_rules | `(tactic| walk_at "fd") => `(tactic| simp only [semP, semO, semM, env0, envM, semU, envU, slS, resU, outU, getS, oCallU, uaNil, uaE, uaL, uaN, takeU, backU, sAsgN, sRetT, oMov, sFrzN, setUv, sTupU, sParU, shsU, oTupU, setSh, sUnpN, oAtN, oDv, fBest, bAbs, oSV, sSeq, sIf, sRet, sRetO, sRetA, sRetN, sNext, sNever, sDrop, sAsg, sAsgO, sFrz, sPar, sPar3, sParO, sPar3O, sTupO, setOv, oaNil, oaConsE, oaConsO, sAug, sPut, sSetL, sFor, sBreak, sCont,
  bName, bTup, bsCons, bsNil, tstB, tstNot, tstAnd, tstOr, tstYes, tstTru, got, Rv.get, fVar, fC, fOp, oOp, fZ, aNil, aCons, fTup, oLst, rvData, fAndV, fOrV, fNotV, fIfE, fChain, fIsi, noT, tyN, fTyEq, fCB, oCB, getAll, fDGet, fDGet1, fBor, oBor, getOw, maskE, mkSl, frzS, flatO, two, getD, keyOf, fDIn, oSl, pNo, pAt, cutA, fNeg,
  oAdd, oCat, oSub, oLt, oLe, oGt, oGe, oIs, oIsNot, isNon, oIx, eq_ii, ne_ii, eq_ss, ne_ss, at0, at1, at2, at3, ix40, ix42, ix43, ix30, ix31, ix32, bLen, bMin2, bMax2, bInt1, fCallP, oCall, ckLen, fCallM, fCallMO, fCallB, fEither, flatD, ovData, fOwnL, ownL, ownD, fApp, fExt, fPop0, fPopAt, fDPop, itL, itT, itS, itD, itR1, itE, itZ, oDNew, oDisp, psNil, psCons, aMore, aAppN, oLV, oLstR2, oLstR1, oItems, oSortItems, oRev,
  List.length_cons, List.length_nil, List.getElem?_cons_zero, List.getElem?_cons_succ, List.set_cons_zero, List.set_cons_succ, List.map_cons, List.map_nil, List.replicate, List.append_nil, List.nil_append, List.cons_append, List.take_zero, List.drop_zero, List.take_succ_cons, List.drop_succ_cons, List.eraseIdx_zero, List.tail_cons, List.eraseIdx_cons_succ, List.eraseIdx_cons_zero, List.take_nil, List.drop_nil, wipeD,
  and_self, Bool.not_true, Bool.not_false, if_true, if_false, ite_true, ite_false, decide_true, decide_false, Nat.reduceAdd, Nat.reduceSub, Nat.reduceLT, Nat.reduceLeDiff, Bool.false_eq_true, Bool.true_eq_false, reduceCtorEq, beq_self_eq_true, eq_self, Bool.false_xor, Bool.true_xor, Option.isSome_some, Option.isSome_none, isT_0, isT_1, isT_2, isT_3, isT_4, isT_5, isT_6, isT_7, isT_8, isT_9, isT_10, isT_11, isT_12, isT_13, isT_14, isT_15, isT_16, isT_17, isT_18, isT_19, isT_20, isT_21, isT_22, isT_23, isT_24, isT_25, isT_26, isT_27, isT_28, isT_29, isT_30, isT_31, isT_32, isT_33, isT_34, isT_35, isT_36, isT_37, isT_38, isT_39, isT_40, isT_41, tyE_0, tyE_1, tyE_2, tyE_3, tyE_4, tyE_5, tyE_6, tyE_7, tyE_8, tyE_9, tyE_10, tyE_11, tyE_12, tyE_13, tyE_14, tyE_15, tyE_16, tyE_17, tyE_18, tyE_19, tyE_20, tyE_21, tyE_22, tyE_23, tyE_24, tyE_25, tyE_26, tyE_27, tyE_28, tyE_29, tyE_30, tyE_31, tyE_32, tyE_33, tyE_34, tyE_35, tyE_36, tyE_37, tyE_38, tyE_39, tyE_40, tyE_41, tyE_42, tyE_43, tyE_44, tyE_45, tyE_46, tyE_47, tyE_48, Bool.and_true, Bool.true_and, Bool.and_false, Bool.false_and, Bool.or_true, Bool.true_or, Bool.or_false, Bool.false_or])
local macro_rules | `(tactic| walk_at "fdh") => `(tactic| simp only [*, semP, semO, semM, env0, envM, semU, envU, slS, resU, outU, getS, oCallU, uaNil, uaE, uaL, uaN, takeU, backU, sAsgN, sRetT, oMov, sFrzN, setUv, sTupU, sParU, shsU, oTupU, setSh, sUnpN, oAtN, oDv, fBest, bAbs, oSV, sSeq, sIf, sRet, sRetO, sRetA, sRetN, sNext, sNever, sDrop, sAsg, sAsgO, sFrz, sPar, sPar3, sParO, sPar3O, sTupO, setOv, oaNil, oaConsE, oaConsO, sAug, sPut, sSetL, sFor, sBreak, sCont,
  bName, bTup, bsCons, bsNil, tstB, tstNot, tstAnd, tstOr, tstYes, tstTru, got, Rv.get, fVar, fC, fOp, oOp, fZ, aNil, aCons, fTup, oLst, rvData, fAndV, fOrV, fNotV, fIfE, fChain, fIsi, noT, tyN, fTyEq, fCB, oCB, getAll, fDGet, fDGet1, fBor, oBor, getOw, maskE, mkSl, frzS, flatO, two, getD, keyOf, fDIn, oSl, pNo, pAt, cutA, fNeg,
  oAdd, oCat, oSub, oLt, oLe, oGt, oGe, oIs, oIsNot, isNon, oIx, eq_ii, ne_ii, eq_ss, ne_ss, at0, at1, at2, at3, ix40, ix42, ix43, ix30, ix31, ix32, bLen, bMin2, bMax2, bInt1, fCallP, oCall, ckLen, fCallM, fCallMO, fCallB, fEither, flatD, ovData, fOwnL, ownL, ownD, fApp, fExt, fPop0, fPopAt, fDPop, itL, itT, itS, itD, itR1, itE, itZ, oDNew, oDisp, psNil, psCons, aMore, aAppN, oLV, oLstR2, oLstR1, oItems, oSortItems, oRev,
  List.length_cons, List.length_nil, List.getElem?_cons_zero, List.getElem?_cons_succ, List.set_cons_zero, List.set_cons_succ, List.map_cons, List.map_nil, List.replicate, List.append_nil, List.nil_append, List.cons_append, List.take_zero, List.drop_zero, List.take_succ_cons, List.drop_succ_cons, List.eraseIdx_zero, List.tail_cons, List.eraseIdx_cons_succ, List.eraseIdx_cons_zero, List.take_nil, List.drop_nil, wipeD,
  and_self, Bool.not_true, Bool.not_false, if_true, if_false, ite_true, ite_false, decide_true, decide_false, Nat.reduceAdd, Nat.reduceSub, Nat.reduceLT, Nat.reduceLeDiff, Bool.false_eq_true, Bool.true_eq_false, reduceCtorEq, beq_self_eq_true, eq_self, Bool.false_xor, Bool.true_xor, Option.isSome_some, Option.isSome_none, isT_0, isT_1, isT_2, isT_3, isT_4, isT_5, isT_6, isT_7, isT_8, isT_9, isT_10, isT_11, isT_12, isT_13, isT_14, isT_15, isT_16, isT_17, isT_18, isT_19, isT_20, isT_21, isT_22, isT_23, isT_24, isT_25, isT_26, isT_27, isT_28, isT_29, isT_30, isT_31, isT_32, isT_33, isT_34, isT_35, isT_36, isT_37, isT_38, isT_39, isT_40, isT_41, tyE_0, tyE_1, tyE_2, tyE_3, tyE_4, tyE_5, tyE_6, tyE_7, tyE_8, tyE_9, tyE_10, tyE_11, tyE_12, tyE_13, tyE_14, tyE_15, tyE_16, tyE_17, tyE_18, tyE_19, tyE_20, tyE_21, tyE_22, tyE_23, tyE_24, tyE_25, tyE_26, tyE_27, tyE_28, tyE_29, tyE_30, tyE_31, tyE_32, tyE_33, tyE_34, tyE_35, tyE_36, tyE_37, tyE_38, tyE_39, tyE_40, tyE_41, tyE_42, tyE_43, tyE_44, tyE_45, tyE_46, tyE_47, tyE_48, Bool.and_true, Bool.true_and, Bool.and_false, Bool.false_and, Bool.or_true, Bool.true_or, Bool.or_false, Bool.false_or])

theorem l_is_integer (i : Int) : sem_is_integer [.int i] = some (.bl true) := by
  unfold sem_is_integer fs_is_integer
  walk_at "fd"
theorem l_is_name {z : Str} (h : nmStr z = true) : sem_is_name [.str z] = some (.bl true) := by
  obtain ⟨h1, h2⟩ := nm_len h
  unfold sem_is_name fs_is_name
  walk_at "fd"
  have q1 : z.length ≤ 1000000 := by omega
  have q2 : (1 : Int) ≤ (z.length : Int) := by omega
  have q3 : (z.length : Int) ≤ 8 := by omega
  walk_at "fdh"
  rw [oLc_all (fun _ => .bl true) (δ1 := [Sl.sh (.str z), .no]) (ds := signD z) rfl (by unfold signD; rw [List.length_map, Array.length_toList]; show z.length ≤ _; omega)]
  · simp only [getAll, Rv.get]
    rw [bAll_true]
  · intro d hd
    obtain ⟨c, hc, rfl⟩ := List.mem_map.mp hd
    unfold nmStr at h
    rw [Bool.and_eq_true] at h
    have hcc := of_decide_eq_true ((List.all_eq_true.mp h.2) c hc)
    refine ⟨[Sl.sh (.str z), .sh (.str ⟨#[c]⟩)], rfl, ?_, rfl⟩
    have e1 : ltS ⟨#[c]⟩ (Str.ofString "a") = false := by
      show decide ([c] < [97]) = false
      refine decide_eq_false fun q => ?_
      rcases List.lex_lt.mp q |> fun _ => (List.cons_lt_cons_iff.mp q) with q | ⟨_, q⟩
      · omega
      · exact List.not_lt_nil _ q
    have e2 : ltS (Str.ofString "z") ⟨#[c]⟩ = false := by
      show decide ([122] < [c]) = false
      refine decide_eq_false fun q => ?_
      rcases List.cons_lt_cons_iff.mp q with q | ⟨_, q⟩
      · omega
      · exact List.not_lt_nil _ q
    walk_at "fdh"
theorem l_is_list (ds : List Dv) : sem_is_list [.lst ds] = some (.bl true) := by
  unfold sem_is_list fs_is_list
  walk_at "fd"
theorem l_is_pair (a b : Dv) : sem_is_pair [.tup [a, b]] = some (.bl true) := by
  unfold sem_is_pair fs_is_pair
  walk_at "fd"
  rfl
theorem l_contains (s : Span) (p : Int) : sem_contains [encS s, .int p] = some (.bl (inSpan s p)) := by
  unfold sem_contains fs_contains
  rcases s with _ | ⟨_ | l, _ | h⟩
  · simp only [encS]; walk_at "fd"; rfl
  · simp only [encS, encO]; walk_at "fd"; rfl
  · simp only [encS, encO]
    by_cases q : p ≤ h <;> walk_at "fdh" <;> simp [inSpan, lowOk, highOk, q]
  · simp only [encS, encO]
    by_cases q : l ≤ p <;> walk_at "fdh" <;> simp [inSpan, lowOk, highOk, q]
  · simp only [encS, encO]
    by_cases q : l ≤ p <;> by_cases r : p ≤ h <;> walk_at "fdh" <;> simp [inSpan, lowOk, highOk, q, r]
theorem l_joined (s : Span) (r : Option Int × Option Int) : sem_joined [encS s, encS (some r)] = some (encS (some (joinS s r))) := by
  unfold sem_joined fs_joined
  rcases s with _ | ⟨_ | l, _ | h⟩ <;> rcases r with ⟨_ | l', _ | h'⟩ <;> simp only [encS, encO] <;> walk_at "fd" <;> rfl
theorem l_has_hosts_of {ks : List (Str × Int)} {es : List (Str × Span)} (hk : LineOk ks) (h : StOk ks es) : sem_has_hosts_of [.dct (kvL ks), .dct (kvS es)] = some (.bl true) := by
  unfold sem_has_hosts_of fs_has_hosts_of
  have l2 := hk.len2
  walk_at "fd"
  rw [len_kvL, len_kvS, h.len]
  walk_at "fd"
  rw [oLc_all (fun _ => .bl true) (δ1 := [Sl.sh (.dct (kvL ks)), .sh (.dct (kvS es)), .no]) (ds := Way.ds .keys (kvL ks)) rfl (by show (List.map _ _).length ≤ _; rw [List.length_map, len_kvL]; omega)]
  · simp only [getAll, Rv.get]
    rw [bAll_true]
  · intro d hd
    obtain ⟨x, hx, rfl⟩ := List.mem_map.mp hd
    obtain ⟨p, hp, rfl⟩ := List.mem_map.mp hx
    have e := (spOf_look hk h (z := p.1) (List.mem_map.mpr ⟨p, hp, rfl⟩)).1
    refine ⟨[Sl.sh (.dct (kvL ks)), .sh (.dct (kvS es)), .sh (.str p.1)], rfl, ?_, rfl⟩
    walk_at "fdh"
theorem l_is_host {ks : List (Str × Int)} (hk : LineOk ks) {z : Str} (h : z ∈ ks.map (·.1)) : sem_is_host [.dct (kvL ks), .str z] = some (.bl true) := by
  unfold sem_is_host fs_is_host
  have e := lookK_line (posOf_in h) hk.ndn
  walk_at "fdh"
theorem l_silent_state {ks : List (Str × Int)} (hk : LineOk ks) : sem_silent_state [.dct (kvL ks)] = some (.dct (kvS (silE ks))) := by
  have l2 := hk.len2
  unfold sem_silent_state fs_silent_state
  walk_at "fd"
  rw [oDc_all (δ1 := [Sl.sh (.dct (kvL ks)), .no]) (ds := Way.ds .keys (kvL ks)) (fun d => d) (fun d => (keyOf d).getD (.inl 0)) (fun _ => .non) rfl (by show (List.map _ _).length ≤ _; rw [List.length_map, len_kvL]; omega)]
  · simp only [Way.ds, List.map_map, kvL, kvS, silE]
    rfl
  · intro d hd
    obtain ⟨x, hx, rfl⟩ := List.mem_map.mp hd
    obtain ⟨p, hp, rfl⟩ := List.mem_map.mp hx
    exact ⟨[Sl.sh (.dct (kvL ks)), .sh (.str p.1)], rfl, rfl, rfl, rfl, rfl⟩
  · simp only [Way.ds, List.map_map, kvL]
    have : (fun p : Str × Int => (Sum.inr p.1 : Key)) = Sum.inr ∘ (·.1) := rfl
    show (ks.map fun p => (Sum.inr p.1 : Key)).Nodup
    rw [this, ← List.map_map]
    exact List.Pairwise.map _ (fun a b h e => h (Sum.inr.inj e)) hk.ndn
theorem l_reach_of_kind (s : Span) (b t : Int) : sem_reach_of_kind [.str (kindS s b), .int b, .int t] = some (encS (some (reachS s b t))) := by
  unfold sem_reach_of_kind fs_reach_of_kind
  have n1 : ¬ (Str.ofString "direct") = Str.ofString "all" := by decide
  have n2 : ¬ (Str.ofString "flood") = Str.ofString "all" := by decide
  have n3 : ¬ (Str.ofString "flood") = Str.ofString "direct" := by decide
  rcases s with _ | s
  · simp only [kindS, reachS, encS, encO]
    walk_at "fd"
  · simp only [kindS, reachS]
    by_cases q : inSpan (some s) b = true
    · rw [if_pos q, if_pos q]
      simp only [encS, encO]
      walk_at "fdh"
    · rw [if_neg q, if_neg q]
      by_cases r : b < t
      · rw [if_pos r]
        simp only [encS, encO]
        walk_at "fdh"
      · rw [if_neg r]
        simp only [encS, encO]
        walk_at "fdh"
theorem l_inner_plan {ks : List (Str × Int)} {es : List (Str × Span)} {I : List Str} (hk : LineOk ks) (h : StOk ks es) (hI : ∀ z ∈ I, z ∈ ks.map (·.1)) (lI : I.length ≤ 40) :
    sem_inner_plan [.dct (kvS es), .dct (I.map fun z => (.inr z, .lst ((fteE ks es z).map encF)))] = some (.lst ((innerPlan ks es I).map encF)) := by
  obtain ⟨T, hT⟩ : ∃ T, (I.map fun z => ((.inr z : Key), Dv.lst ((fteE ks es z).map encF))) = T := ⟨_, rfl⟩
  have lT : T.length = I.length := by rw [← hT, List.length_map]
  have keys : Way.ds .keys T = I.map Dv.str := by
    rw [← hT]
    show (I.map (fun z => ((.inr z : Key), Dv.lst ((fteE ks es z).map encF)))).map (fun p => keyD p.1) = _
    rw [List.map_map]; rfl
  have look : ∀ z ∈ I, lookK T (.inr z) = some (.lst ((fteE ks es z).map encF)) := fun z hz => by rw [← hT]; exact lookK_map (g := fun z => Dv.lst ((fteE ks es z).map encF)) hz
  rw [hT]
  unfold sem_inner_plan fs_inner_plan
  walk_at "fd"
  rw [oLc_pure (fb := bName 4) (fun d => match d with | .str z => decide (spOf es z = none) | _ => false) (fun d => match d with | .str z => encI (((fteE ks es z).length : Int), z) | _ => .non) (δ1 := [Sl.sh (.dct (kvS es)), .sh (.dct T), .no, .no, .no, .no]) (ds := I.map Dv.str) (by rw [← keys]; rfl) (by rw [List.length_map]; omega) (fun d hd => by
    obtain ⟨z, hz, rfl⟩ := List.mem_map.mp hd
    have s1 := (spOf_look hk h (hI z hz)).1
    have s2 := look z hz
    have hlen : ((fteE ks es z).map encF).length = (fteE ks es z).length := List.length_map ..
    refine ⟨_, rfl, ?_, fun _ => ?_, rfl⟩
    · show _ = some (decide (spOf es z = none), _)
      generalize spOf es z = s at *
      clear s2 hlen
      rcases s with _ | ⟨l, u⟩
      · simp only [encS] at s1
        walk_at "fdh"
      · simp only [encS] at s1
        walk_at "fdh"
    · unfold encI
      clear s1
      walk_at "fdh")]
  have hff : ((I.map Dv.str).filter (fun d => match d with | .str z => decide (spOf es z = none) | _ => false)).map (fun d => match d with | .str z => encI (((fteE ks es z).length : Int), z) | _ => .non) = ((I.filter fun z => decide (spOf es z = none)).map fun z => (((fteE ks es z).length : Int), z)).map encI := by
    rw [List.filter_map, List.map_map, List.map_map]; rfl
  rw [hff]
  have eS : bSortB [.lst (((I.filter fun z => decide (spOf es z = none)).map fun z => (((fteE ks es z).length : Int), z)).map encI)] = some (.lst ((silR ks es I).map encI)) := by
    unfold bSortB
    simp only [pairsIS_map]; rfl
  unfold innerPlan
  cases hS : silR ks es I with
  | nil =>
    rw [hS] at eS
    simp only [List.map_nil] at eS
    walk_at "fdh"
    simp only [tru, List.isEmpty_nil, Bool.not_true]
    walk_at "fd"
    rw [oLc2_pure (fb := bName 4) (fb1 := bName 5) (by decide) (fun d => match d with | .str z => (fteE ks es z).map encF | _ => []) (fun _ e => e) (δ1 := [Sl.sh (.dct (kvS es)), .sh (.dct T), .sh (.lst []), .no, .no, .no]) (ds := I.map Dv.str) (by rw [← keys]; rfl) (by rw [List.length_map]; omega) (fun d hd => by
      obtain ⟨z, hz, rfl⟩ := List.mem_map.mp hd
      have s2 := look z hz
      refine ⟨[Sl.sh (.dct (kvS es)), .sh (.dct T), .sh (.lst []), .no, .sh (.str z), .no], [Sl.sh (.dct (kvS es)), .sh (.dct T), .sh (.lst []), .no, .sh (.str z), .no], rfl, ?_, by rw [List.length_map]; have := fteE_le ks es z; omega, fun e he => ⟨_, rfl, rfl, rfl⟩, rfl⟩
      walk_at "fdh")]
    simp only
    rw [List.flatMap_map, List.map_flatMap]
    simp only [List.map_id']
  | cons p rest =>
    obtain ⟨pI, ps, pl⟩ := silR_mem (ks := ks) (es := es) (I := I) (p := p) (by rw [hS]; exact List.mem_cons_self)
    rw [hS] at eS
    have x0 : atI ((p :: rest).map encI) 0 = some (encI p) := at_nat (k := 0) rfl
    have x1 : atI [Dv.int p.1, Dv.str p.2] 1 = some (.str p.2) := at1 ..
    have s2 := look p.2 pI
    have nm : (((p :: rest).map encI).isEmpty) = false := rfl
    obtain ⟨Z, hZ⟩ : ∃ Z, (p :: rest).map encI = Z := ⟨_, rfl⟩
    rw [hZ] at eS x0 nm
    unfold encI at x0
    walk_at "fdh"
    simp only [tru, nm]
    walk_at "fdh"
    rw [oLc_pure (fb := bName 4) (fun d => match d with | .str z => !decide (z = p.2) | _ => false) (fun d => match d with | .str z => encF (z, p.2) | _ => .non) (δ1 := [Sl.sh (.dct (kvS es)), .sh (.dct T), .sh (.lst Z), .sh (.str p.2), .no, .no]) (ds := I.map Dv.str) (by rw [← keys]; rfl) (by rw [List.length_map]; omega) (fun d hd => by
      obtain ⟨z, hz, rfl⟩ := List.mem_map.mp hd
      refine ⟨_, rfl, ?_, fun _ => ?_, rfl⟩
      · walk_at "fdh"
      · unfold encF
        walk_at "fdh")]
    have hff2 : ((I.map Dv.str).filter (fun d => match d with | .str z => !decide (z = p.2) | _ => false)).map (fun d => match d with | .str z => encF (z, p.2) | _ => .non) = ((I.filter fun z => !decide (z = p.2)).map fun z => (z, p.2)).map encF := by
      rw [List.filter_map, List.map_map, List.map_map]; rfl
    rw [hff2]
    have q : ((((I.filter fun z => !decide (z = p.2)).map fun z => (z, p.2)).map encF).length + ((fteE ks es p.2).map encF).length ≤ 1000000) := by
      rw [List.length_map, List.length_map, List.length_map]
      have := List.length_filter_le (fun z => !decide (z = p.2)) I
      have := fteE_le ks es p.2
      omega
    rw [List.map_append]
    clear hff2 hff eS keys look hT
    walk_at "fdh"
/-- a network's fields -/
def netD (l k : Dv) (s c : List Dv) : List (Key × Dv) := [(.inr "_line", l), (.inr "_known", k), (.inr "_sent", .lst s), (.inr "_changes", .lst c)]
def FSn : Sh := .fc "_line" .fr (.fc "_known" .fr (.fc "_sent" .fl (.fc "_changes" .fl .nl)))
theorem fLine {t : Option Nat} {l k : Dv} {s c : List Dv} {δ : Env} {i : Nat} (h : δ[i]? = some (.on t (.io "Network" FSn) (.dct (netD l k s c)))) : fFld i "Network" "_line" δ = some (.dv l, δ) := by
  unfold fFld ioSlot
  rw [h]
  rfl
theorem fKnown {t : Option Nat} {l k : Dv} {s c : List Dv} {δ : Env} {i : Nat} (h : δ[i]? = some (.on t (.io "Network" FSn) (.dct (netD l k s c)))) : fFld i "Network" "_known" δ = some (.dv k, δ) := by
  unfold fFld ioSlot
  rw [h]
  rfl
theorem seq_nx {f g : Fs} {δ δ1 : Env} (h : f δ = some (.nx, δ1)) : sSeq f g δ = g δ1 := by
  unfold sSeq
  rw [h]
theorem semU_of {ps : List Pk} {r : Sh} {m : Nat} {fs : Fs} {ds : List Dv} {c : Ctl} {δ' : Env} {d : Dv} {os : List Dv} (h : fs (envU ps 0 ds ++ List.replicate m .no) = some (c, δ')) (h1 : resU r c = some d) (h2 : outU ps 0 δ' = some os) : semU ps r m fs ds = some (d, os) := by
  unfold semU
  rw [h]
  simp only [h1, h2]
theorem l_Network_known {l : Dv} {ds : List (Key × Dv)} {s c : List Dv} : sem_Network_known [.dct (netD l (.dct ds) s c)] = some (.dct ds, [.dct (netD l (.dct ds) s c)]) := rfl
theorem l_Network__begin_change {l k : Dv} {s c : List Dv} (hc : c.length < 1000000) : sem_Network__begin_change [.dct (netD l k s c)] = some (.non, [.dct (netD l k s (c ++ [.tup [.int (s.length : Nat), k]]))]) := by
  have e2 : fs_Network__begin_change [Sl.on (some 0) (.io "Network" FSn) (.dct (netD l k s c))] = some (.nx, [Sl.on (some 0) (.io "Network" FSn) (.dct (netD l k s (c ++ [.tup [.int (s.length : Nat), k]])))]) := by
    unfold fs_Network__begin_change sDrop fAppF
    have e3 : eTup (eaCons (eFldCB bLen 0 "Network" "_sent") (eaCons (eFld 0 "Network" "_known") eaNil)) [Sl.on (some 0) (.io "Network" FSn) (.dct (netD l k s c))] = some (.tup [.int (s.length : Nat), k]) := rfl
    have e4 : ioSlot 0 "Network" [Sl.on (some 0) (.io "Network" FSn) (.dct (netD l k s c))] = some (some 0, FSn, netD l k s c) := rfl
    have e5 : fldS FSn "_changes" = some .fl := rfl
    have e6 : lookK (netD l k s c) (.inr "_changes") = some (.lst c) := rfl
    rw [e3]
    simp only [e4, e5, e6, if_true, if_pos hc]
    rfl
  exact semU_of e2 rfl rfl
theorem l__law_spring {ns : List Int} (hl : ns.length ≤ 63) : ∃ G, sem__law_spring [.scr ns] = some (encG G) ∧ SgOk G ∧ G.n = 0 := by
  have cut : cutD (ns.map Dv.int) none (some 63) = ns.map Dv.int := by
    rw [show (63 : Int) = ((63 : Nat) : Int) from rfl, cutD_take, List.take_of_length_le (by rw [List.length_map]; exact hl)]
  have q18 := p18
  have q60 : oPow (.int 10) (.int 60) = some (.int (10 ^ 60)) := (oPow_ok (by decide)).trans (congrArg (fun i => some (Dv.int i)) (by decide +kernel))
  unfold sem__law_spring fs__law_spring
  walk_at "fdh"
  generalize hL : fLoop _ _ _ _ = X
  obtain ⟨δ', rfl, D, s, v3, rfl, d0, d1, s0, s1⟩ : ∃ δ', X = some (.nx, δ') ∧ ∃ D s v3, δ' = [Sl.sh (.scr ns), .sh (.int D), .sh (.int s), v3] ∧ 0 ≤ D ∧ D < ((10 : Int) ^ 60) ^ (ns.map Dv.int).length ∧ 0 ≤ s ∧ s < 2305843009213693951 := by
    rw [← hL]
    refine fLoop_inv (fun i δ => ∃ D s v3, δ = [Sl.sh (.scr ns), .sh (.int D), .sh (.int s), v3] ∧ 0 ≤ D ∧ D < ((10 : Int) ^ 60) ^ i ∧ 0 ≤ s ∧ s < 2305843009213693951) ⟨0, 90247, _, rfl, by decide, by decide, by decide, by decide⟩ ?_
    rintro i d δ hd ⟨D, s, v3, rfl, d0, d1, s0, s1⟩
    have hi : i < ns.length := by
      have := (List.getElem?_eq_some_iff.mp hd).1
      rwa [List.length_map] at this
    obtain ⟨c, hc, rfl⟩ := List.mem_map.mp (List.mem_of_getElem? hd)
    have m1 : oMul (.int D) (.int (10 ^ 60)) = some (.int (D * 10 ^ 60)) := oMul_big (Nat.lt_trans (log_BIG (digits_lt (Nat.le_trans (Nat.le_of_lt hi) hl) d0 d1)) (by decide)) (small_log (by decide) (by decide))
    have m2 : oMul (.int s) (.int 69069) = some (.int (s * 69069)) := oMul_big (small_log s0 (Int.lt_trans s1 (by decide))) (small_log (by decide) (by decide))
    have o1 : oMod (.int c) (.int 2305843009213693921) = some (.int (c % 2305843009213693921)) := oMod_ok (by decide)
    have o2 : oMod (.int (s * 69069 + c % 2305843009213693921 + 13)) (.int 2305843009213693951) = some (.int ((s * 69069 + c % 2305843009213693921 + 13) % 2305843009213693951)) := oMod_ok (by decide)
    have b0 : 0 ≤ (s * 69069 + c % 2305843009213693921 + 13) % 2305843009213693951 := Int.emod_nonneg _ (by decide)
    have b1 : (s * 69069 + c % 2305843009213693921 + 13) % 2305843009213693951 < 2305843009213693951 := Int.emod_lt_of_pos _ (by decide)
    generalize eS : (s * 69069 + c % 2305843009213693921 + 13) % 2305843009213693951 = S at *
    have o3 : oMod (.int (if c < 0 then -c else c)) (.int (10 ^ 60)) = some (.int ((if c < 0 then -c else c) % 10 ^ 60)) := oMod_ok (by decide)
    have hB := spring_digits (c := if c < 0 then -c else c) d0 d1
    have dB := spring_grow d1
    obtain ⟨A, hA⟩ : ∃ A, (if c < 0 then -c else c) = A := ⟨_, rfl⟩
    rw [hA] at hB o3
    generalize (10 : Int) ^ 60 = T at *
    generalize T ^ (i + 1) = P at *
    by_cases hc18 : 1000000000000000000 ≤ A
    · refine ⟨[Sl.sh (.scr ns), .sh (.int D), .sh (.int s), .sh (.int c)], [Sl.sh (.scr ns), .sh (.int (D * T + A % T)), .sh (.int S), .sh (.int c)], rfl, ?_, _, _, _, rfl, hB.1, hB.2, b0, b1⟩
      clear hB dB d1 d0 hL
      walk_at "fdh"
    · refine ⟨[Sl.sh (.scr ns), .sh (.int D), .sh (.int s), .sh (.int c)], [Sl.sh (.scr ns), .sh (.int D), .sh (.int S), .sh (.int c)], rfl, ?_, _, _, _, rfl, d0, dB, b0, b1⟩
      clear hB dB d1 d0 hL
      walk_at "fdh"
  refine ⟨⟨D, s, 0⟩, ?_, ⟨d0, digits_lt (by rw [List.length_map]; exact hl) d0 d1, s0, s1⟩, rfl⟩
  clear hL d1
  walk_at "fdh"
  rfl
theorem l__law_draw {G : Sg} {m : Int} (ok : SgOk G) (hm : 0 < m) (hm2 : m < 2 ^ 100) (hn : G.n < 1000000000) :
    ∃ d G', sem__law_draw (encG G) [.int m] = some (.int d, encG G') ∧ 0 ≤ d ∧ d < m ∧ SgOk G' ∧ G'.n ≤ G.n + 1 := by
  obtain ⟨digits, seed, n⟩ := G
  have d0 := ok.d0
  have dl := ok.dl
  have s0 := ok.s0
  have s1 := ok.s1
  dsimp only at d0 dl s0 s1 hn
  have hm3 : m < 2 ^ 250 := Int.lt_trans hm2 (by decide)
  by_cases h : digits > 0
  · have f1 : oFdv (.int digits) (.int m) = some (.int (digits / m)) := oFdv_ok hm hm3
    have f2 : oMod (.int digits) (.int m) = some (.int (digits % m)) := oMod_ok hm
    have hd : 0 ≤ digits / m ∧ digits / m ≤ digits := ⟨Int.ediv_nonneg d0 (by omega), Int.ediv_le_self _ d0⟩
    refine ⟨digits % m, ⟨digits / m, seed, n⟩, ?_, Int.emod_nonneg _ (by omega), Int.emod_lt_of_pos _ hm, ⟨hd.1, ?_, s0, s1⟩, by show n ≤ n + 1; omega⟩
    · unfold sem__law_draw fs__law_draw encG
      walk_at "fdh"
    · show (digits / m).natAbs < BIG
      omega
  · have sb : seed.natAbs.log2 < 20000 := small_log s0 (Int.lt_trans s1 (by decide))
    have m1 : oMul (.int seed) (.int seed) = some (.int (seed * seed)) := oMul_big sb sb
    have o1 : oMod (.int (seed * seed)) (.int 2305843009213693951) = some (.int (seed * seed % 2305843009213693951)) := oMod_ok (by decide)
    have nb : (((n : Int) + 1)).natAbs.log2 < 20000 := small_log (by omega) (Int.lt_trans (show (n : Int) + 1 < 1000000001 by omega) (by decide))
    have m2 : oMul (.int 6151) (.int ((n : Int) + 1)) = some (.int (6151 * ((n : Int) + 1))) := oMul_big (small_log (by decide) (by decide)) nb
    have m3 : oMul (.int (6151 * ((n : Int) + 1))) (.int seed) = some (.int (6151 * ((n : Int) + 1) * seed)) := oMul_big (small_log (by omega) (Int.lt_trans (show 6151 * ((n : Int) + 1) < 6151 * 1000000001 by omega) (by decide))) sb
    generalize eT : seed * seed % 2305843009213693951 + 6151 * ((n : Int) + 1) * seed + 103049 = T
    have o2 : oMod (.int T) (.int 2305843009213693951) = some (.int (T % 2305843009213693951)) := oMod_ok (by decide)
    have b0 : 0 ≤ T % 2305843009213693951 := Int.emod_nonneg _ (by decide)
    have b1 : T % 2305843009213693951 < 2305843009213693951 := Int.emod_lt_of_pos _ (by decide)
    generalize T % 2305843009213693951 = S at o2 b0 b1
    have f1 : oFdv (.int S) (.int 65539) = some (.int (S / 65539)) := oFdv_ok (by decide) (by decide)
    have f2 : oMod (.int (S / 65539)) (.int m) = some (.int ((S / 65539) % m)) := oMod_ok hm
    refine ⟨(S / 65539) % m, ⟨digits, S, n + 1⟩, ?_, Int.emod_nonneg _ (by omega), Int.emod_lt_of_pos _ hm, ⟨d0, dl, b0, b1⟩, Nat.le_refl _⟩
    unfold sem__law_draw fs__law_draw encG
    clear ok dl
    walk_at "fdh"
    rfl
theorem putD_last {A : List (Key × Dv)} {k : Key} {x y : Dv} (h : k ∉ A.map (·.1)) : putD (A ++ [(k, x)]) k y = A ++ [(k, y)] := by
  unfold putD
  rw [if_pos (by rw [List.any_append]; simp)]
  rw [List.map_append]
  congr 1
  · refine (List.map_congr_left fun p hp => ?_).trans (List.map_id' A)
    rw [if_neg (fun e => h (List.mem_map.mpr ⟨p, hp, e⟩))]
  · simp
theorem l__law_mirrored {ks : List (Str × Int)} {es : List (Str × Span)} (hk : LineOk ks) (h : StOk ks es) : sem__law_mirrored [.dct (kvL ks), .dct (kvS es)] = some (.tup [.dct (kvL (mirL ks)), .dct (kvS (mirE es))]) := by
  unfold sem__law_mirrored fs__law_mirrored
  have nd := h.nd hk
  have le := h.len
  have l2 := hk.len2
  have hK : Way.keys.ds (kvS es) = es.map fun q => .str q.1 := by
    show ((kvS es).map fun p => keyD p.1) = _
    unfold kvS
    rw [List.map_map]; rfl
  obtain ⟨δ', eL, hI⟩ := fLoop_inv2 (fb := bName 3) (fs := (sSeq (sPut 2 (fVar 3) (fDGet (fVar 1) (fVar 3))) (sIf (tstB (fOp oIsNot (fDGet (fVar 1) (fVar 3)) (fC .non))) (sSeq (sAsg (fDGet (fVar 1) (fVar 3)) (bTup 2 (bsCons (bName 4) (bsCons (bName 5) bsNil)))) (sPut 2 (fVar 3) (fTup (aCons (fIfE (tstB (fOp oIs (fVar 5) (fC .non))) (fC .non) (fOp oSub (fC (.int 0)) (fVar 5))) (aCons (fIfE (tstB (fOp oIs (fVar 4) (fC .non))) (fC .non) (fOp oSub (fC (.int 0)) (fVar 4))) aNil))))) sNext))) (ds := es.map fun q => .str q.1)
    (δ := [Sl.sh (.dct (kvL ks)), .sh (.dct (kvS es)), .ow none (.dct []), .no, .no, .no, .no])
    (fun i δ => ∃ v3 v4 v5, δ = [Sl.sh (.dct (kvL ks)), .sh (.dct (kvS es)), .ow none (.dct (kvS (mirE (es.take i)))), v3, v4, v5, .no]) ⟨_, _, _, rfl⟩ (by
    rintro i d δ hd ⟨v3, v4, v5, rfl⟩
    rw [List.getElem?_map] at hd
    obtain ⟨q, hq, rfl⟩ := Option.map_eq_some_iff.mp hd
    have hi : i < es.length := (List.getElem?_eq_some_iff.mp hq).1
    have et := take_snoc hq
    have hl := lookK_st (List.mem_of_getElem? hq) nd
    have hn : (Sum.inr q.1 : Key) ∉ (kvS (mirE (es.take i))).map (·.1) := fun w => by
      obtain ⟨x, hx, e⟩ := List.mem_map.mp w
      obtain ⟨y, hy, rfl⟩ := List.mem_map.mp hx
      obtain ⟨z, hz, rfl⟩ := List.mem_map.mp hy
      have nd2 : ((es.take (i + 1)).map (·.1)).Nodup := nd.sublist ((List.take_sublist _ _).map _)
      rw [et, List.map_append, List.nodup_append] at nd2
      exact nd2.2.2 _ (List.mem_map.mpr ⟨z, hz, rfl⟩) q.1 (by simp) (Sum.inr.inj e)
    have put1 := putD_new (d := encS q.2) hn
    have put2 : ∀ y, putD (kvS (mirE (es.take i)) ++ [(Sum.inr q.1, encS q.2)]) (Sum.inr q.1) y = kvS (mirE (es.take i)) ++ [(Sum.inr q.1, y)] := fun y => putD_last hn
    have lk : (kvS (mirE (es.take i))).length < 1000000 := by unfold kvS mirE; rw [List.length_map, List.length_map, List.length_take]; omega
    have lk2 : (kvS (mirE (es.take i)) ++ [(Sum.inr q.1, encS q.2)]).length < 1000000 := by
      rw [List.length_append, List.length_singleton]
      unfold kvS mirE; rw [List.length_map, List.length_map, List.length_take]; omega
    have eT : kvS (mirE (es.take (i + 1))) = kvS (mirE (es.take i)) ++ [(Sum.inr q.1, encS (mirS q.2))] := by
      rw [et]; unfold kvS mirE; rw [List.map_append, List.map_append]; rfl
    refine ⟨_, rfl, ?_⟩
    rw [eT]
    generalize kvS (mirE (es.take i)) = A at put1 put2 lk lk2 ⊢
    cases u : q.2 with
    | none =>
      rw [u] at hl put1 put2 lk2
      have e0 : encS none = .non := rfl
      have e1 : encS (mirS none) = .non := rfl
      rw [e0] at hl put1
      rw [e1]
      generalize kvS es = SE at hl ⊢
      refine ⟨[Sl.sh (.dct (kvL ks)), .sh (.dct SE), .ow none (.dct (A ++ [(Sum.inr q.1, .non)])), .sh (.str q.1), v4, v5, .no], ?_, _, _, _, rfl⟩
      clear put2 lk2 hK hd hq et hn eT nd le e0 e1
      walk_at "fdh"
    | some w =>
      obtain ⟨l, r⟩ := w
      rw [u] at hl put1 put2 lk2
      generalize kvS es = SE at hl ⊢
      have e0 : encS (some (l, r)) = .tup [encO l, encO r] := rfl
      have e1 : encS (mirS (some (l, r))) = .tup [encO (mirO r), encO (mirO l)] := rfl
      rw [e0] at hl put1 put2 lk2
      rw [e1]
      refine ⟨[Sl.sh (.dct (kvL ks)), .sh (.dct SE), .ow none (.dct (A ++ [(Sum.inr q.1, .tup [encO (mirO r), encO (mirO l)])])), .sh (.str q.1), .sh (encO l), .sh (encO r), .no], ?_, _, _, _, rfl⟩
      clear hK hd hq et hn eT nd le e0 e1
      cases l <;> cases r <;> simp only [encO, mirO] at hl put1 put2 lk2 ⊢ <;> walk_at "fdh")
  rw [List.length_map] at hI
  obtain ⟨v3, v4, v5, rfl⟩ := hI
  rw [List.take_length] at eL
  have e3 := oLc_all (fi := itD .items 0) (fb := bTup 2 (bsCons (bName 3) (bsCons (bName 6) bsNil))) (fe := fTup (aCons (fVar 3) (aCons (fOp oSub (fC (.int 0)) (fVar 6)) aNil))) (vs := [3, 6]) (δ := [Sl.sh (.dct (kvL ks)), .sh (.dct (kvS es)), .sh (.dct (kvS (mirE es))), v3, v4, v5, .no]) (δ1 := [Sl.sh (.dct (kvL ks)), .sh (.dct (kvS es)), .sh (.dct (kvS (mirE es))), v3, v4, v5, .no]) (ds := ks.map fun p => .tup [.str p.1, .int p.2])
    (fun d => match d with | .tup [a, .int n] => .tup [a, .int (0 - n)] | _ => .non) (by
      unfold itD
      simp only [List.getElem?_cons_zero]
      unfold Way.ds kvL
      simp only [List.map_map]
      rfl) (by rw [List.length_map]; omega) (fun d hd => by
      obtain ⟨p, hp, rfl⟩ := List.mem_map.mp hd
      exact ⟨[Sl.sh (.dct (kvL ks)), .sh (.dct (kvS es)), .sh (.dct (kvS (mirE es))), .sh (.str p.1), v4, v5, .sh (.int p.2)], rfl, rfl, rfl⟩)
  have e4 := bDict_line (mirL_ok hk).ndn
  have e5 : (List.map (fun d => match d with | .tup [a, .int n] => Dv.tup [a, .int (0 - n)] | _ => .non) (ks.map fun p => Dv.tup [.str p.1, .int p.2])) = (mirL ks).map (fun p => Dv.tup [.str p.1, .int p.2]) := by
    unfold mirL
    rw [List.map_map, List.map_map]; rfl
  rw [e5] at e3
  unfold sFor
  generalize kvS (mirE es) = ME at eL e3 ⊢
  generalize oLc (itD .items 0) _ _ _ _ = f at e3 ⊢
  generalize (mirL ks).map _ = MM at e3 e4
  clear nd le e5
  walk_at "fdh"
theorem l_is_position {i : Int} (h0 : -(10 ^ 30) ≤ i) (h1 : i ≤ 10 ^ 30) : sem_is_position [.int i] = some (.bl true) := by
  unfold sem_is_position fs_is_position
  walk_at "fd"
  simp only [l_is_integer]
  walk_at "fd"
  have q0 : (-1000000000000000000000000000000 : Int) ≤ i := by omega
  have q1 : i ≤ 1000000000000000000000000000000 := by omega
  walk_at "fdh"
theorem l_covers (s : Span) (a b : Int) : sem_covers [encS s, .int a, .int b] = some (.bl (inSpan s a && inSpan s b)) := by
  unfold sem_covers fs_covers
  have e1 := l_contains s a
  have e2 := l_contains s b
  cases h : inSpan s a <;> rw [h] at e1 <;> walk_at "fdh"
theorem l_is_end {ks : List (Str × Int)} {i : Int} (h : i ∈ ks.map (·.2)) : sem_is_end [.dct (kvL ks), .int i] = some (.bl true) := by
  unfold sem_is_end fs_is_end
  have e := l_is_integer i
  have e2 := vals_line ks
  have e3 := flat_ints (ks.map (·.2))
  have e4 := any_ints h
  walk_at "fdh"
  simp only [oInF, inBF, flatD, e3, e4, Bool.and_self, if_true]
theorem l_is_frame {ks : List (Str × Int)} (hk : LineOk ks) {p : Str × Str} (h1 : p.1 ∈ ks.map (·.1)) (h2 : p.2 ∈ ks.map (·.1)) (ne : p.1 ≠ p.2) : sem_is_frame [.dct (kvL ks), encF p] = some (.bl true) := by
  unfold sem_is_frame fs_is_frame encF
  have e0 := l_is_pair (.str p.1) (.str p.2)
  have e1 := l_is_host hk h1
  have e2 := l_is_host hk h2
  walk_at "fdh"
theorem l_check_hosts {ks : List (Str × Int)} (hk : LineOk ks) {p : Str × Str} (h1 : p.1 ∈ ks.map (·.1)) (h2 : p.2 ∈ ks.map (·.1)) (ne : p.1 ≠ p.2) : sem_check_hosts [.dct (kvL ks), .str p.1, .str p.2] = some .non := by
  unfold sem_check_hosts fs_check_hosts
  have e1 := l_is_host hk h1
  have e2 := l_is_host hk h2
  have e3 : ¬ p.2 = p.1 := fun e => ne e.symm
  walk_at "fdh"
theorem l_kind_in {ks : List (Str × Int)} {es : List (Str × Span)} (hk : LineOk ks) (h : StOk ks es) {p : Str × Str} (h1 : p.1 ∈ ks.map (·.1)) (h2 : p.2 ∈ ks.map (·.1)) :
    sem_kind_in [.dct (kvL ks), .dct (kvS es), .str p.1, .str p.2] = some (.str (kindS (spOf es p.2) (posOf ks p.1))) := by
  unfold sem_kind_in fs_kind_in
  have e1 := lookK_line (posOf_in h1) hk.ndn
  have e2 := (spOf_look hk h h2).1
  have e3 := l_contains (spOf es p.2) (posOf ks p.1)
  generalize spOf es p.2 = s at e2 e3
  rcases s with _ | ⟨l, h'⟩
  · simp only [encS] at e2 e3
    walk_at "fdh"
    rfl
  · simp only [encS] at e2 e3
    cases q : inSpan (some (l, h')) (posOf ks p.1) with
    | true =>
      rw [q] at e3
      walk_at "fdh"
      simp only [kindS, q, if_true]
    | false =>
      rw [q] at e3
      walk_at "fdh"
      simp only [kindS, q]; rfl
theorem l_frames_to_ends {ks : List (Str × Int)} {es : List (Str × Span)} (hk : LineOk ks) (h : StOk ks es) {z : Str} (hz : z ∈ ks.map (·.1)) :
    sem_frames_to_ends [.dct (kvL ks), .dct (kvS es), .str (firstN ks), .str (lastN ks), .str z] = some (.lst ((fteE ks es z).map encF)) := by
  obtain ⟨a, b, E⟩ := ends2 hk
  have k1 := lookK_line (posOf_in E.am) hk.ndn
  have k2 := lookK_line (posOf_in E.bm) hk.ndn
  have k3 := lookK_line (posOf_in hz) hk.ndn
  have s1 := (spOf_look hk h E.am).1
  have s2 := (spOf_look hk h E.bm).1
  have s3 := (spOf_look hk h hz).1
  rw [E.ap] at k1
  rw [E.bp] at k2
  have c1 := l_contains (spOf es z) a.1
  have c2 := l_contains (spOf es z) b.1
  have c3 := l_contains (spOf es a.2) (posOf ks z)
  have c4 := l_contains (spOf es b.2) (posOf ks z)
  unfold sem_frames_to_ends fs_frames_to_ends fteE
  rw [E.fn, E.ln, E.ee]
  simp only
  clear E
  cases q1 : inSpan (spOf es z) a.1 with
  | true =>
    rw [q1] at c1
    walk_at "fdh"
    rfl
  | false =>
    cases q2 : inSpan (spOf es z) b.1 with
    | true =>
      rw [q1] at c1; rw [q2] at c2
      walk_at "fdh"
      rfl
    | false =>
      rw [q1] at c1; rw [q2] at c2
      cases q3 : inSpan (spOf es a.2) (posOf ks z) with
      | false =>
        rw [q3] at c3
        walk_at "fdh"
        simp only [fLoop]
        walk_at "fdh"
        rfl
      | true =>
        rw [q3] at c3
        cases q4 : inSpan (spOf es b.2) (posOf ks z) with
        | false =>
          rw [q4] at c4
          walk_at "fdh"
          simp only [fLoop]
          walk_at "fdh"
          rfl
        | true =>
          rw [q4] at c4
          walk_at "fdh"
          simp only [fLoop]
          walk_at "fdh"
          rfl
theorem l__law_names {G : Sg} {m : Int} (ok : SgOk G) (m0 : 0 ≤ m) (m1 : m ≤ 40) (hn : G.n < 999999000) :
    ∃ (As : List Str) (G' : Sg), sem__law_names (encG G) [.int m] = some (.lst (As.map Dv.str), encG G') ∧ As.Nodup ∧ (∀ z ∈ As, z ∈ POOLS) ∧ (As.length : Int) = m ∧ SgOk G' ∧ G'.n ≤ G.n + 40 := by
  have big : (2 : Int) ^ 100 > 1000 := by decide +kernel
  have qA := abc_list
  have qP := poolS_names
  have q1 : (poolA.map Dv.str).length + 8 ≤ 1000000 := by decide +kernel
  have q2 : (poolA.map Dv.str ++ [Dv.str (Str.ofString "aa"), Dv.str (Str.ofString "ab"), Dv.str (Str.ofString "ba"), Dv.str (Str.ofString "zz"), Dv.str (Str.ofString "zzzzzzzz"), Dv.str (Str.ofString "all"), Dv.str (Str.ofString "flood"), Dv.str (Str.ofString "direct")]).length + 6 ≤ 1000000 := by decide +kernel
  have r1 : m ≤ 1000000 := by omega
  have r2 : -1000000 ≤ m := by omega
  have rl := rng_len m.toNat
  unfold sem__law_names fs__law_names
  walk_at "fdh"
  obtain ⟨ys, δ', eL, G4, P, As, v3, rfl, ok4, n4, rfl, pn, la⟩ := oLc_inv (fi := itR1 (aCons (fVar 1) aNil)) (fb := bName 3) (vs := [3]) (δ := [Sl.ow (some 0) (encG G), .sh (.int m), .ow none (.lst (POOLS.map Dv.str)), .no])
    (δ1 := [Sl.ow (some 0) (encG G), .sh (.int m), .ow none (.lst (POOLS.map Dv.str)), .no])
    (ds := rngD 0 m.toNat) (fe := fOwnL 2 (fPopAt 2 (fCallM 2 0 sem__law_draw (aCons (fVar 0) (aCons (fCB bLen (aCons (fVar 2) aNil)) aNil)))))
    (fun (i : Nat) (ys : List Dv) (δ : Env) => ∃ (G4 : Sg) (P As : List Str) (v3 : Sl), δ = [Sl.ow (some 0) (encG G4), .sh (.int m), .ow none (.lst (P.map Dv.str)), v3] ∧ SgOk G4 ∧ G4.n ≤ G.n + i ∧ ys = As.map Dv.str ∧ (As ++ P).Perm POOLS ∧ As.length = i)
    (by walk_at "fdh") (by omega) ⟨G, _, [], _, rfl, ok, by omega, rfl, List.Perm.refl _, rfl⟩ (by
      rintro i d ys δ hd ⟨G4, P, As, v3, rfl, ok4, n4, rfl, pn, la⟩
      have hi : i < m.toNat := by
        have := (List.getElem?_eq_some_iff.mp hd).1
        rwa [rl] at this
      have ln : As.length + P.length = 40 := by rw [← pools_len, ← pn.length_eq, List.length_append]
      obtain ⟨d5, G7, e5, a5, b5, ok7, n7⟩ := l__law_draw ok4 (m := (P.length : Int)) (by omega) (by omega) (by omega)
      have hlp : (P.map Dv.str).length = P.length := List.length_map ..
      have hlq : P.length ≤ 1000000 := by omega
      obtain ⟨z, hz⟩ : ∃ z, P[d5.toNat]? = some z := ⟨_, List.getElem?_eq_getElem (by omega)⟩
      have hz2 : (P.map Dv.str)[d5.toNat]? = some (.str z) := by rw [List.getElem?_map, hz]; rfl
      have her := map_erase Dv.str P d5.toNat
      refine ⟨_, .str z, [Sl.ow (some 0) (encG G7), .sh (.int m), .ow none (.lst ((P.eraseIdx d5.toNat).map Dv.str)), .sh d], rfl, ?_, G7, P.eraseIdx d5.toNat, As ++ [z], .sh d, rfl, ok7, by omega, by rw [List.map_append]; rfl, ?_, by simp [la]⟩
      · clear qA qP q1 q2
        walk_at "fdh"
      · rw [List.append_assoc]
        exact (List.Perm.append_left As (erase_perm hz)).trans pn)
  rw [rl] at la n4
  rw [eL]
  have nd : As.Nodup := (List.nodup_append.mp (pn.nodup_iff.mpr pools_nd)).1
  refine ⟨As, G4, ?_, nd, fun z hz => pn.mem_iff.mp (List.mem_append_left _ hz), by omega, ok4, by omega⟩
  clear qA qP q1 q2 eL
  walk_at "fdh"
theorem l__law_frames {G : Sg} {ks : List (Str × Int)} {many : Int} (hk : LineOk ks) (ok : SgOk G) (m0 : 0 ≤ many) (m1 : many ≤ 300) (hn : G.n < 999990000) :
    ∃ (fs : List (Str × Str)) (G' : Sg), sem__law_frames [encG G, .dct (kvL ks), .int many] = some (encB fs, [encG G']) ∧ FrOk ks fs ∧ (fs.length : Int) ≤ many ∧ (1 < ks.length → (fs.length : Int) = many) ∧ SgOk G' ∧ G'.n ≤ G.n + 1000 := by
  have big : (2 : Int) ^ 100 > 1000 := by decide +kernel
  obtain ⟨N, hN⟩ : ∃ N, srt leS (ks.map (·.1)) = N := ⟨_, rfl⟩
  have hs := bSort_line hk
  have l1 := hk.len1
  have lN : ks.length = N.length := by rw [← hN, (srt_perm leS _).length_eq, List.length_map]
  have ln := srt_len_line hk
  have nd := srt_nd hk
  have hm : ∀ z ∈ N, z ∈ ks.map (·.1) := fun z hz => by rw [← hN] at hz; exact (srt_perm leS _).mem_iff.mp hz
  rw [hN] at hs ln nd
  have hlN : (N.map Dv.str).length = N.length := List.length_map ..
  have hlq : N.length ≤ 1000000 := by omega
  obtain ⟨w, G1, e1, a1, b1, ok1, n1⟩ := l__law_draw ok (m := (N.length : Int)) (by omega) (by omega) (by omega)
  generalize hc : (if decide (1 < (N.length : Int)) = true then (1 : Int) else 0) = c
  have hcb : c = 0 ∧ ¬ 1 < N.length ∨ c = 1 ∧ 1 < N.length := by
    by_cases h : (1 : Int) < (N.length : Int)
    · rw [if_pos (decide_eq_true h)] at hc; exact .inr ⟨hc.symm, by omega⟩
    · rw [if_neg (by simp only [decide_eq_true_eq]; exact h)] at hc; exact .inl ⟨hc.symm, by omega⟩
  have hmul : oMul (.int many) (.int c) = some (.int (many * c)) := oMul_ok (by omega) (by rcases hcb with ⟨h, _⟩ | ⟨h, _⟩ <;> omega)
  have hmc : many * c ≤ many ∧ 0 ≤ many * c ∧ (1 < ks.length → many * c = many) := by rcases hcb with ⟨h, h2⟩ | ⟨h, _⟩ <;> rw [h] <;> refine ⟨by omega, by omega, fun q => by omega⟩
  have r1 : many * c ≤ 1000000 := by omega
  have r2 : -1000000 ≤ many * c := by omega
  have rl := rng_len (many * c).toNat
  unfold sem__law_frames fs__law_frames
  walk_at "fdh"
  generalize hL : fLoop _ _ _ _ = X
  obtain ⟨δ', rfl, hI⟩ : ∃ δ', X = some (.nx, δ') ∧ (fun (i : Nat) (δ : Env) => ∃ (G' : Sg) (fs : List (Str × Str)) (v6 v7 v8 : Sl), δ = [Sl.ow (some 0) (encG G'), .sh (.dct (kvL ks)), .sh (.int many), .sh (.lst (N.map Dv.str)), .ow none (.lst (fs.map encF)), .sh (.int (1 + w)), v6, v7, v8] ∧
      SgOk G' ∧ G'.n ≤ G1.n + 3 * i ∧ fs.length = i ∧ ∀ p ∈ fs, p.1 ∈ ks.map (·.1) ∧ p.2 ∈ ks.map (·.1) ∧ p.1 ≠ p.2) (rngD 0 (many * c).toNat).length δ' := by
    rw [← hL]
    refine fLoop_inv2 (fun (i : Nat) (δ : Env) => ∃ (G' : Sg) (fs : List (Str × Str)) (v6 v7 v8 : Sl), δ = [Sl.ow (some 0) (encG G'), .sh (.dct (kvL ks)), .sh (.int many), .sh (.lst (N.map Dv.str)), .ow none (.lst (fs.map encF)), .sh (.int (1 + w)), v6, v7, v8] ∧
      SgOk G' ∧ G'.n ≤ G1.n + 3 * i ∧ fs.length = i ∧ ∀ p ∈ fs, p.1 ∈ ks.map (·.1) ∧ p.2 ∈ ks.map (·.1) ∧ p.1 ≠ p.2) ⟨G1, [], .no, .no, .no, rfl, ok1, by omega, rfl, by simp⟩ ?_
    rintro i d δ hd ⟨G2, fs, v6, v7, v8, rfl, ok2, n2, lf, hf⟩
    have hi : i < 300 ∧ 1 < N.length := by
      have := (List.getElem?_eq_some_iff.mp hd).1
      rw [rl] at this
      rcases hcb with ⟨h, h2⟩ | ⟨h, h2⟩
      · rw [h] at this; omega
      · exact ⟨by omega, h2⟩
    obtain ⟨hi, h2⟩ := hi
    refine ⟨_, rfl, ?_⟩
    obtain ⟨d3, G3, e3, a3, b3, ok3, n3⟩ := l__law_draw ok2 (m := 2) (by omega) (by omega) (by omega)
    obtain ⟨q, hq, hq1, hq2⟩ : ∃ q : Int, atI [Dv.int (N.length : Int), .int (1 + w)] d3 = some (.int q) ∧ 0 < q ∧ q ≤ N.length := by
      rcases (show d3 = 0 ∨ d3 = 1 by omega) with h | h
      · subst h; exact ⟨_, rfl, by omega, by omega⟩
      · subst h; exact ⟨_, rfl, by omega, by omega⟩
    obtain ⟨d4, G4, e4, a4, b4, ok4, n4⟩ := l__law_draw ok3 (m := q) hq1 (by omega) (by omega)
    obtain ⟨d5, G5, e5, a5, b5, ok5, n5⟩ := l__law_draw ok4 (m := (N.length : Int) - 1) (by omega) (by omega) (by omega)
    have o1 : oMod (.int (d4 + 1 + d5)) (.int (N.length : Int)) = some (.int ((d4 + 1 + d5) % (N.length : Int))) := oMod_ok (by omega)
    have t0 : 0 ≤ (d4 + 1 + d5) % (N.length : Int) := Int.emod_nonneg _ (by omega)
    have t1 : (d4 + 1 + d5) % (N.length : Int) < (N.length : Int) := Int.emod_lt_of_pos _ (by omega)
    have t2 : (d4 + 1 + d5) % (N.length : Int) ≠ d4 := by
      intro e
      by_cases h : d4 + 1 + d5 < (N.length : Int)
      · rw [Int.emod_eq_of_lt (by omega) h] at e; omega
      · have h1 : (d4 + 1 + d5 - (N.length : Int) + (N.length : Int)) % (N.length : Int) = (d4 + 1 + d5 - (N.length : Int)) % (N.length : Int) := Int.add_emod_right ..
        rw [show d4 + 1 + d5 - (N.length : Int) + (N.length : Int) = d4 + 1 + d5 by omega, Int.emod_eq_of_lt (a := d4 + 1 + d5 - (N.length : Int)) (by omega) (by omega)] at h1
        omega
    generalize (d4 + 1 + d5) % (N.length : Int) = t at *
    obtain ⟨j4, rfl⟩ := Int.eq_ofNat_of_zero_le a4
    obtain ⟨j, rfl⟩ := Int.eq_ofNat_of_zero_le t0
    obtain ⟨y, hy⟩ : ∃ z, N[j4]? = some z := ⟨_, List.getElem?_eq_getElem (by omega)⟩
    obtain ⟨z, hz⟩ : ∃ z, N[j]? = some z := ⟨_, List.getElem?_eq_getElem (by omega)⟩
    have hy2 : atI (N.map Dv.str) (j4 : Int) = some (.str y) := at_nat (by rw [List.getElem?_map, hy]; rfl)
    have hz2 : atI (N.map Dv.str) (j : Int) = some (.str z) := at_nat (by rw [List.getElem?_map, hz]; rfl)
    have hyz : y ≠ z := fun e => by
      subst e
      obtain ⟨q1, q2⟩ := List.getElem?_eq_some_iff.mp hy
      obtain ⟨q3, q4⟩ := List.getElem?_eq_some_iff.mp hz
      have := (List.getElem_inj nd (h₀ := q1) (h₁ := q3)).mp (q2.trans q4.symm)
      omega
    have hfl : (fs.map encF).length < 1000000 := by rw [List.length_map]; omega
    refine ⟨_, ?_, G5, fs ++ [(y, z)], .sh d, .sh (.int (j4 : Int)), .sh (.int (j : Int)), rfl, ok5, by omega, by simp [lf], fun p hp => ?_⟩
    · have he : encF (y, z) = .tup [.str y, .str z] := rfl
      rw [List.map_append, List.map_cons, List.map_nil, he]
      clear hL hf lf hs hmul hc hN
      walk_at "fdh"
    · rcases List.mem_append.mp hp with h | h
      · exact hf p h
      · rw [List.mem_singleton.mp h]
        exact ⟨hm y (List.mem_of_getElem? hy), hm z (List.mem_of_getElem? hz), hyz⟩
  rw [rl] at hI
  obtain ⟨G', fs, v6, v7, v8, rfl, ok', n', lf, hf⟩ := hI
  refine ⟨fs, G', ?_, ⟨by omega, hf⟩, by omega, fun q => by have := hmc.2.2 (by omega); omega, ok', by omega⟩
  clear hL
  unfold encB
  walk_at "fdh"
theorem l__law_state {G : Sg} {ks : List (Str × Int)} (hk : LineOk ks) (ok : SgOk G) (hn : G.n < 999990000) :
    ∃ (es : List (Str × Span)) (G' : Sg), sem__law_state [encG G, .dct (kvL ks)] = some (.dct (kvS es), [encG G']) ∧ StOk ks es ∧ es.map (·.1) = srt leS (ks.map (·.1)) ∧ SgOk G' ∧ G'.n ≤ G.n + 200 := by
  have big : (2 : Int) ^ 100 > 1000 := by decide +kernel
  obtain ⟨N, hN⟩ : ∃ N, srt leS (ks.map (·.1)) = N := ⟨_, rfl⟩
  have hs := bSort_line hk
  have ln := srt_len_line hk
  have nd := srt_nd hk
  have pmN : N.Perm (ks.map (·.1)) := by rw [← hN]; exact srt_perm leS _
  have hm : ∀ z ∈ N, z ∈ ks.map (·.1) := fun z hz => pmN.mem_iff.mp hz
  rw [hN] at hs ln nd
  have l2 := hk.len2
  have hv := intsOf_vals ks
  have lv : (ks.map (·.2)).length < 64 := by rw [List.length_map]; omega
  obtain ⟨P, hP⟩ : ∃ P, srt leI (ks.map (·.2)) = P := ⟨_, rfl⟩
  have pmP : P.Perm (ks.map (·.2)) := by rw [← hP]; exact srt_perm leI _
  have lP : P.length ≤ 40 := by rw [pmP.length_eq, List.length_map]; exact l2
  obtain ⟨w, G1, e1, a1, b1, ok1, n1⟩ := l__law_draw ok (m := 4) (by omega) (by omega) (by omega)
  unfold sem__law_state fs__law_state
  walk_at "fdh"
  generalize hL : fLoop _ _ _ _ = X
  obtain ⟨δ', rfl, hI⟩ : ∃ δ', X = some (.nx, δ') ∧ (fun (i : Nat) (δ : Env) => ∃ (G' : Sg) (es : List (Str × Span)) (v5 v6 v7 v8 : Sl), δ = [Sl.ow (some 0) (encG G'), .sh (.dct (kvL ks)), .sh (.int w), .ow none (.dct (kvS es)), .sh (.lst (P.map Dv.int)), v5, v6, v7, v8, .no] ∧
      SgOk G' ∧ G'.n ≤ G1.n + 3 * i ∧ es.map (·.1) = N.take i ∧ ∀ p ∈ es, spanOk ks (posOf ks p.1) p.2) (N.map Dv.str).length δ' := by
    rw [← hL]
    refine fLoop_inv2 (fun (i : Nat) (δ : Env) => ∃ (G' : Sg) (es : List (Str × Span)) (v5 v6 v7 v8 : Sl), δ = [Sl.ow (some 0) (encG G'), .sh (.dct (kvL ks)), .sh (.int w), .ow none (.dct (kvS es)), .sh (.lst (P.map Dv.int)), v5, v6, v7, v8, .no] ∧
      SgOk G' ∧ G'.n ≤ G1.n + 3 * i ∧ es.map (·.1) = N.take i ∧ ∀ p ∈ es, spanOk ks (posOf ks p.1) p.2) ⟨G1, [], .no, .no, .no, .no, rfl, ok1, by omega, rfl, by simp⟩ ?_
    rintro i d δ hd ⟨G2, es, v5, v6, v7, v8, rfl, ok2, n2, ke, he⟩
    rw [List.getElem?_map] at hd
    obtain ⟨z, hz, rfl⟩ := Option.map_eq_some_iff.mp hd
    have hi : i < N.length := (List.getElem?_eq_some_iff.mp hz).1
    have zk := hm z (List.mem_of_getElem? hz)
    have hl : lookK (kvL ks) (.inr z) = some (.int (posOf ks z)) := lookK_line (posOf_in zk) hk.ndn
    have les : es.length = i := by
      have := congrArg List.length ke
      rw [List.length_map, List.length_take] at this; omega
    have lkv : (kvS es).length < 1000000 := by rw [len_kvS]; omega
    have zn : z ∉ es.map (·.1) := by
      rw [ke]
      intro q
      have h1 := take_snoc hz
      have h2 : (N.take (i + 1)).Nodup := nd.sublist (List.take_sublist _ _)
      rw [h1, List.nodup_append] at h2
      exact h2.2.2 z q z (List.mem_singleton.mpr rfl) rfl
    have hput : ∀ s : Span, putD (kvS es) (.inr z) (encS s) = kvS (es ++ [(z, s)]) := fun s => by
      rw [putD_new (by
        intro q
        obtain ⟨p, hp, e⟩ := List.mem_map.mp q
        obtain ⟨r, hr, rfl⟩ := List.mem_map.mp hp
        exact zn (List.mem_map.mpr ⟨r, hr, Sum.inr.inj e⟩))]
      unfold kvS
      rw [List.map_append]; rfl
    have fin : ∀ s : Span, spanOk ks (posOf ks z) s → (es ++ [(z, s)]).map (·.1) = N.take (i + 1) ∧ ∀ p ∈ es ++ [(z, s)], spanOk ks (posOf ks p.1) p.2 := fun s sp => by
      refine ⟨by rw [List.map_append, ke, take_snoc hz]; rfl, fun p hp => ?_⟩
      rcases List.mem_append.mp hp with h | h
      · exact he p h
      · rw [List.mem_singleton.mp h]; exact sp
    obtain ⟨A, hA⟩ : ∃ A, P.filter (fun n => decide (n ≤ posOf ks z)) = A := ⟨_, rfl⟩
    obtain ⟨B, hB⟩ : ∃ B, P.filter (fun n => decide (n ≥ posOf ks z)) = B := ⟨_, rfl⟩
    have lA : A.length ≤ 40 := by rw [← hA]; exact Nat.le_trans (List.length_filter_le _ _) lP
    have lB : B.length ≤ 40 := by rw [← hB]; exact Nat.le_trans (List.length_filter_le _ _) lP
    refine ⟨_, rfl, ?_⟩
    refine sSeq_ex (fun δ => δ = [Sl.ow (some 0) (encG G2), .sh (.dct (kvL ks)), .sh (.int w), .ow none (.dct (kvS es)), .sh (.lst (P.map Dv.int)), .sh (.str z), .sh (.lst (A.map Dv.int ++ [.non])), v7, v8, .no]) ?_ ?_
    · refine ⟨_, ?_, rfl⟩
      walk_at "fdh"
      rw [oLc_pure (fb := bName 9) (fun d => match d with | .int n => decide (n ≤ posOf ks z) | _ => false) (fun d => d) (ds := P.map Dv.int) rfl (by rw [List.length_map]; omega) (fun d hd => by
        obtain ⟨n, hn, rfl⟩ := List.mem_map.mp hd
        refine ⟨_, rfl, ?_, fun _ => ?_, rfl⟩
        · walk_at "fdh"
        · walk_at "fdh")]
      have hff : ((P.map Dv.int).filter (fun d => match d with | .int n => decide (n ≤ posOf ks z) | _ => false)).map (fun d => d) = A.map Dv.int := by
        rw [← hA, List.filter_map, List.map_id']; rfl
      rw [hff]
      have q : (A.map Dv.int).length + 1 ≤ 1000000 := by rw [List.length_map]; omega
      clear hA hB hff
      walk_at "fdh"
    rintro δ rfl
    refine sSeq_ex (fun δ => δ = [Sl.ow (some 0) (encG G2), .sh (.dct (kvL ks)), .sh (.int w), .ow none (.dct (kvS es)), .sh (.lst (P.map Dv.int)), .sh (.str z), .sh (.lst (A.map Dv.int ++ [.non])), .sh (.lst (.non :: B.map Dv.int)), v8, .no]) ?_ ?_
    · refine ⟨_, ?_, rfl⟩
      walk_at "fdh"
      rw [oLc_pure (fb := bName 9) (fun d => match d with | .int n => decide (n ≥ posOf ks z) | _ => false) (fun d => d) (ds := P.map Dv.int) rfl (by rw [List.length_map]; omega) (fun d hd => by
        obtain ⟨n, hn, rfl⟩ := List.mem_map.mp hd
        refine ⟨_, rfl, ?_, fun _ => ?_, rfl⟩
        · walk_at "fdh"
        · walk_at "fdh")]
      have hff : ((P.map Dv.int).filter (fun d => match d with | .int n => decide (n ≥ posOf ks z) | _ => false)).map (fun d => d) = B.map Dv.int := by
        rw [← hB, List.filter_map, List.map_id']; rfl
      rw [hff]
      have q : 1 + (B.map Dv.int).length ≤ 1000000 := by rw [List.length_map]; omega
      clear hA hB hff
      walk_at "fdh"
    rintro δ rfl
    have hw : w = 0 ∨ w = 1 ∨ w = 2 ∨ w = 3 := by omega
    obtain ⟨kd, hkd, hk0, hk9⟩ : ∃ kd : Int, atI [Dv.int 3, .int 4, .int 6, .int 9] w = some (.int kd) ∧ 0 < kd ∧ kd ≤ 9 := by
      rcases hw with rfl | rfl | rfl | rfl
      · exact ⟨3, rfl, by omega, by omega⟩
      · exact ⟨4, rfl, by omega, by omega⟩
      · exact ⟨6, rfl, by omega, by omega⟩
      · exact ⟨9, rfl, by omega, by omega⟩
    obtain ⟨d3, G3, e3, a3, b3, ok3, n3⟩ := l__law_draw ok2 (m := kd) hk0 (by omega) (by omega)
    refine sSeq_ex (fun δ => δ = [Sl.ow (some 0) (encG G3), .sh (.dct (kvL ks)), .sh (.int w), .ow none (.dct (kvS es)), .sh (.lst (P.map Dv.int)), .sh (.str z), .sh (.lst (A.map Dv.int ++ [.non])), .sh (.lst (.non :: B.map Dv.int)), .sh (.int d3), .no]) ?_ ?_
    · refine ⟨_, ?_, rfl⟩
      clear hA hB hw
      walk_at "fdh"
    rintro δ rfl
    obtain ⟨fl, hfl⟩ : ∃ x : Span → Sl, x = fun s => .ow none (.dct (kvS (es ++ [(z, s)]))) := ⟨_, rfl⟩
    have done : ∀ (s : Span) (G4 : Sg), SgOk G4 → G4.n ≤ G2.n + 3 → spanOk ks (posOf ks z) s → ∃ (G' : Sg) (es' : List (Str × Span)) (v5 v6 v7 v8 : Sl), [Sl.ow (some 0) (encG G4), .sh (.dct (kvL ks)), .sh (.int w), .ow none (.dct (kvS (es ++ [(z, s)]))), .sh (.lst (P.map Dv.int)), .sh (.str z), .sh (.lst (A.map Dv.int ++ [.non])), .sh (.lst (.non :: B.map Dv.int)), .sh (.int d3), .no] = [Sl.ow (some 0) (encG G'), .sh (.dct (kvL ks)), .sh (.int w), .ow none (.dct (kvS es')), .sh (.lst (P.map Dv.int)), v5, v6, v7, v8, .no] ∧
      SgOk G' ∧ G'.n ≤ G1.n + 3 * (i + 1) ∧ es'.map (·.1) = N.take (i + 1) ∧ ∀ p ∈ es', spanOk ks (posOf ks p.1) p.2 := fun s G4 ok4 n4 sp => ⟨G4, es ++ [(z, s)], _, _, _, _, rfl, ok4, by omega, (fin s sp).1, (fin s sp).2⟩
    clear hfl fl hL hs hN hP hw hkd e1 e3
    by_cases c0 : d3 = 0
    · refine ⟨_, ?_, done none G3 ok3 (by omega) True.intro⟩
      have hp := hput none
      simp only [encS] at hp
      have cb : decide (d3 = 0) = true := decide_eq_true c0
      clear done fin c0 hA hB ke he les hput
      walk_at "fdh"
    by_cases c1 : d3 = 1 ∧ 0 < w
    · refine ⟨_, ?_, done (some (none, none)) G3 ok3 (by omega) span_all⟩
      have hp := hput (some (none, none))
      simp only [encS, encO] at hp
      have cb : decide (d3 = 0) = false := decide_eq_false c0
      have cc : decide (d3 = 1) = true := decide_eq_true c1.1
      have cd : decide (0 < w) = true := decide_eq_true c1.2
      clear done fin c0 c1 hA hB ke he les hput
      walk_at "fdh"
    by_cases c2 : d3 = 2 ∧ 1 < w
    · refine ⟨_, ?_, done (some (some (posOf ks z), some (posOf ks z))) G3 ok3 (by omega) (span_own (pos_in zk))⟩
      have hp := hput (some (some (posOf ks z), some (posOf ks z)))
      simp only [encS, encO] at hp
      have cb : decide (d3 = 0) = false := decide_eq_false c0
      have cc : decide (d3 = 1) = false := decide_eq_false (by omega)
      have ce : decide (d3 = 2) = true := decide_eq_true c2.1
      have cd : decide (1 < w) = true := decide_eq_true c2.2
      clear done fin c0 c1 c2 hA hB ke he les hput
      walk_at "fdh"
    obtain ⟨j1, G4, e4, a4, b4, ok4, n4⟩ := l__law_draw ok3 (m := (A.length : Int) + 1) (by omega) (by omega) (by omega)
    obtain ⟨j2, G5, e5, a5, b5, ok5, n5⟩ := l__law_draw ok4 (m := (B.length : Int) + 1) (by omega) (by omega) (by omega)
    obtain ⟨o1, q1, m1⟩ := sideL (L := A) a4 b4
    obtain ⟨o2, q2, m2⟩ := sideR (L := B) a5 b5
    have sp : spanOk ks (posOf ks z) (some (o1, o2)) := by
      refine ⟨fun i e => ?_, fun i e => ?_⟩
      · have := m1 i e
        rw [← hA] at this
        obtain ⟨x1, x2⟩ := List.mem_filter.mp this
        exact ⟨pmP.mem_iff.mp x1, of_decide_eq_true x2⟩
      · have := m2 i e
        rw [← hB] at this
        obtain ⟨x1, x2⟩ := List.mem_filter.mp this
        exact ⟨pmP.mem_iff.mp x1, of_decide_eq_true x2⟩
    refine ⟨_, ?_, done (some (o1, o2)) G5 ok5 (by omega) sp⟩
    have hp := hput (some (o1, o2))
    simp only [encS] at hp
    have lA2 : (A.map Dv.int ++ [Dv.non]).length = A.length + 1 := by rw [List.length_append, List.length_map]; rfl
    have lB2 : (B.map Dv.int).length = B.length := List.length_map ..
    have t1 : ((A.length + 1 : Nat) : Int) = (A.length : Int) + 1 := rfl
    have t2 : ((B.length + 1 : Nat) : Int) = (B.length : Int) + 1 := rfl
    have cb : decide (d3 = 0) = false := decide_eq_false c0
    have lA3 : A.length + 1 ≤ 1000000 := by omega
    have lB3 : B.length + 1 ≤ 1000000 := by omega
    by_cases d1 : d3 = 1
    · have cc : decide (d3 = 1) = true := decide_eq_true d1
      have cd : decide (0 < w) = false := decide_eq_false (fun q => c1 ⟨d1, q⟩)
      have ce : decide (d3 = 2) = false := decide_eq_false (by omega)
      clear done fin c0 c1 c2 hA hB ke he les hput d1
      walk_at "fdh"
    · have cc : decide (d3 = 1) = false := decide_eq_false d1
      by_cases d2 : d3 = 2
      · have ce : decide (d3 = 2) = true := decide_eq_true d2
        have cd : decide (1 < w) = false := decide_eq_false (fun q => c2 ⟨d2, q⟩)
        clear done fin c0 c1 c2 hA hB ke he les hput d1 d2
        walk_at "fdh"
      · have ce : decide (d3 = 2) = false := decide_eq_false d2
        clear done fin c0 c1 c2 hA hB ke he les hput d1 d2
        walk_at "fdh"
  rw [List.length_map] at hI
  obtain ⟨G', es, v5, v6, v7, v8, rfl, ok', n', ke, he⟩ := hI
  rw [List.take_length] at ke
  refine ⟨es, G', ?_, ⟨by rw [ke]; exact pmN, he⟩, ke, ok', by omega⟩
  clear hL hs
  walk_at "fdh"
theorem l_is_line {ks : List (Str × Int)} (hk : LineOk ks) : sem_is_line [.dct (kvL ks)] = some (.bl true) := by
  have l1 := hk.len1
  have l2 := hk.len2
  unfold sem_is_line fs_is_line
  walk_at "fd"
  rw [len_kvL]
  have q2 : (1 : Int) ≤ (ks.length : Int) := by omega
  have q3 : (ks.length : Int) ≤ 40 := by omega
  walk_at "fdh"
  obtain ⟨δ', e1, rfl | ⟨v1, v2, rfl⟩⟩ := fLoop_inv (fb := bTup 2 (bsCons (bName 1) (bsCons (bName 2) bsNil))) (ds := Way.ds .items (kvL ks)) (δ := [Sl.sh (.dct (kvL ks)), .no, .no])
    (fs := sIf (tstOr (tstNot (tstB (fCallP sem_is_name (ckLen 1 (aCons (fVar 1) aNil))))) (tstNot (tstB (fCallP sem_is_position (ckLen 1 (aCons (fVar 2) aNil)))))) (sRet (fC (.bl false))) sNext)
    (fun _ δ => δ = [Sl.sh (.dct (kvL ks)), .no, .no] ∨ ∃ v1 v2, δ = [Sl.sh (.dct (kvL ks)), v1, v2]) (.inl rfl) (fun i d δ hd hI => by
      have hm := List.mem_of_getElem? hd
      obtain ⟨x, hx, rfl⟩ := List.mem_map.mp hm
      obtain ⟨p, hp, rfl⟩ := List.mem_map.mp hx
      have n1 := l_is_name (hk.nm p hp)
      have n2 := l_is_position (hk.ps p hp).1 (hk.ps p hp).2
      have : ∃ v1 v2, δ = [Sl.sh (.dct (kvL ks)), v1, v2] := by
        rcases hI with rfl | h
        · exact ⟨_, _, rfl⟩
        · exact h
      obtain ⟨v1, v2, rfl⟩ := this
      refine ⟨[Sl.sh (.dct (kvL ks)), .sh (.str p.1), .sh (.int p.2)], [Sl.sh (.dct (kvL ks)), .sh (.str p.1), .sh (.int p.2)], rfl, ?_, .inr ⟨_, _, rfl⟩⟩
      walk_at "fdh")
  all_goals
    simp only [e1]
    have nd := hk.ndp
    have ll : ks.length ≤ 4000 := by omega
    simp only [fLenSet]
    walk_at "fd"
    simp only [intsOf_vals, nd, List.length_map, ll, and_self, if_true, len_kvL, decide_true]
    walk_at "fd"
    simp only [len_kvL, decide_true]
theorem l_is_known_interval {ks : List (Str × Int)} {z : Str} {s : Span} (hk : LineOk ks) (hz : z ∈ ks.map (·.1)) (h : spanOk ks (posOf ks z) s) : sem_is_known_interval [.dct (kvL ks), .str z, encS s] = some (.bl true) := by
  unfold sem_is_known_interval fs_is_known_interval
  have e0 := lookK_line (posOf_in hz) hk.ndn
  rcases s with _ | ⟨l, h'⟩
  · simp only [encS]; walk_at "fd"
  · have e1 := l_is_pair (encO l) (encO h')
    rcases l with _ | l <;> rcases h' with _ | h' <;> simp only [encS, encO] at e1 ⊢
    · walk_at "fdh"
    · have b2 := h.2 h' rfl
      have e3 := l_is_end b2.1
      have b3 := b2.2
      walk_at "fdh"
    · have b2 := h.1 l rfl
      have e3 := l_is_end b2.1
      have b3 := b2.2
      walk_at "fdh"
    · have b2 := h.1 l rfl
      have e3 := l_is_end b2.1
      have b3 := b2.2
      have c2 := h.2 h' rfl
      have c3 := l_is_end c2.1
      have c4 := c2.2
      walk_at "fdh"
theorem l_send_one {ks : List (Str × Int)} {es : List (Str × Span)} (hk : LineOk ks) (h : StOk ks es) {p : Str × Str} (h1 : p.1 ∈ ks.map (·.1)) (h2 : p.2 ∈ ks.map (·.1)) :
    sem_send_one (.dct (kvS es)) [.dct (kvL ks), .str p.1, .str p.2] = some (.tup [.str (kindE ks es p), encS (some (reachE ks es p))], .dct (kvS (sendE ks es p))) := by
  unfold sem_send_one fs_send_one
  have l2 := hk.len2
  have e0 := (spOf_look hk h h1).1
  have e1 := l_kind_in hk h h1 h2
  have e2 := l_reach_of_kind (spOf es p.2) (posOf ks p.1) (posOf ks p.2)
  have e3 := lookK_line (posOf_in h1) hk.ndn
  have e4 := lookK_line (posOf_in h2) hk.ndn
  have e5 := l_joined (spOf es p.1) (reachS (spOf es p.2) (posOf ks p.1) (posOf ks p.2))
  have e6 : (kvS es).length < 1000000 := by rw [len_kvS, h.len]; omega
  have e7 := putD_setE (s := some (joinS (spOf es p.1) (reachS (spOf es p.2) (posOf ks p.1) (posOf ks p.2)))) (h.pm.mem_iff.mpr h1)
  simp only [kindE, reachE, sendE]
  generalize spOf es p.2 = s2 at *
  walk_at "fdh"
theorem l__law_line {G : Sg} {m : Int} (ok : SgOk G) (m1 : 1 ≤ m) (m2 : m ≤ 40) (hn : G.n < 999990000) :
    ∃ (ks : List (Str × Int)) (G' : Sg), sem__law_line [encG G, .int m] = some (.dct (kvL ks), [encG G']) ∧ LineOk ks ∧ (∀ p ∈ ks, p.1 ∈ POOLS) ∧ (ks.length : Int) = m ∧ SgOk G' ∧ G'.n ≤ G.n + 200 := by
  have big : (2 : Int) ^ 100 > 1000 := by decide +kernel
  obtain ⟨d1, G1, e1, a1, b1, ok1, n1⟩ := l__law_draw ok (m := 4) (by omega) (by omega) (by omega)
  obtain ⟨k1, rfl⟩ := Int.eq_ofNat_of_zero_le a1
  have hk1 : k1 < 4 := by omega
  obtain ⟨hp0, pb0, pb1⟩ := placeS_at k1 hk1
  obtain ⟨hst, sp0, sp1⟩ := stepS_at k1 hk1
  obtain ⟨As, G2, e2, ndA, hA, la, ok2, n2⟩ := l__law_names ok1 (m := m) (by omega) m2 (by omega)
  have q30 := pow30
  have q29 := pow29
  have q28 := pow28
  have q528 := mul528
  unfold sem__law_line fs__law_line
  walk_at "fdh"
  generalize hL : fLoop _ _ _ _ = X
  obtain ⟨δ', rfl, hI⟩ : ∃ δ', X = some (.nx, δ') ∧ (fun (i : Nat) (δ : Env) => ∃ (G' : Sg) (ks : List (Str × Int)) (place : Int) (v : Sl), δ = [Sl.ow (some 0) (encG G'), .sh (.int m), .sh (.int (k1 : Int)), .sh (.int (stepS k1)), .sh (.int place), .ow none (.lst (ks.map encN)), .ow none (.lst []), v] ∧
      SgOk G' ∧ G'.n ≤ G2.n + i ∧ ks.map (·.1) = As.take i ∧ (∀ p ∈ ks, -(10 ^ 30) ≤ p.2 ∧ p.2 < place ∧ p.2 ≤ 10 ^ 30) ∧ (ks.map (·.2)).Nodup ∧ -(10 ^ 30) ≤ place ∧ place ≤ placeS k1 + (i : Int) * stepS k1) (As.map Dv.str).length δ' := by
    rw [← hL]
    refine fLoop_inv2 (fun (i : Nat) (δ : Env) => ∃ (G' : Sg) (ks : List (Str × Int)) (place : Int) (v : Sl), δ = [Sl.ow (some 0) (encG G'), .sh (.int m), .sh (.int (k1 : Int)), .sh (.int (stepS k1)), .sh (.int place), .ow none (.lst (ks.map encN)), .ow none (.lst []), v] ∧
      SgOk G' ∧ G'.n ≤ G2.n + i ∧ ks.map (·.1) = As.take i ∧ (∀ p ∈ ks, -(10 ^ 30) ≤ p.2 ∧ p.2 < place ∧ p.2 ≤ 10 ^ 30) ∧ (ks.map (·.2)).Nodup ∧ -(10 ^ 30) ≤ place ∧ place ≤ placeS k1 + (i : Int) * stepS k1) ⟨G2, [], placeS k1, .no, rfl, ok2, by omega, by simp, by simp, by simp, pb0, by simp⟩ ?_
    rintro i d δ hd ⟨G', ks, place, v, rfl, ok', n', hk, hks, ndp, pl0, pl1⟩
    rw [List.getElem?_map] at hd
    obtain ⟨z, hz, rfl⟩ := Option.map_eq_some_iff.mp hd
    have hi : i < As.length := (List.getElem?_eq_some_iff.mp hz).1
    obtain ⟨d8, G8, e8, a8, b8, ok8, n8⟩ := l__law_draw ok' (m := stepS k1) sp0 sp1 (by omega)
    have lks : ks.length = i := by
      have := congrArg List.length hk
      rw [List.length_map, List.length_take] at this; omega
    have hkl : (ks.map encN).length < 1000000 := by rw [List.length_map]; omega
    have e1' : ((i + 1 : Nat) : Int) * stepS k1 = (i : Int) * stepS k1 + stepS k1 := by rw [Int.natCast_add, Int.add_mul]; simp
    have hle : (i : Int) * stepS k1 ≤ 39 * stepS k1 := Int.mul_le_mul_of_nonneg_right (by omega) (by omega)
    refine ⟨_, rfl, _, ?_, G8, ks ++ [(z, place)], place + 1 + d8, .sh (.str z), rfl, ok8, by omega, ?_, ?_, ?_, by omega, by omega⟩
    · have he : encN (z, place) = .tup [.str z, .int place] := rfl
      rw [List.map_append, List.map_cons, List.map_nil, he]
      clear hk hks ndp pl0 pl1 hL hp0 pb0 pb1 hst q30 q29 q28 q528
      walk_at "fdh"
    · rw [List.map_append, hk, take_snoc hz]; rfl
    · intro p hp
      rcases List.mem_append.mp hp with h | h
      · obtain ⟨q2, q3, q4⟩ := hks p h
        exact ⟨q2, by omega, q4⟩
      · rw [List.mem_singleton.mp h]
        exact ⟨pl0, by show place < _; omega, by show place ≤ _; omega⟩
    · rw [List.map_append, List.nodup_append]
      refine ⟨ndp, by simp, fun a ha b hb e => ?_⟩
      obtain ⟨p, hp, rfl⟩ := List.mem_map.mp ha
      have hb : b = place := by simpa using hb
      have := (hks p hp).2.1
      omega
  rw [List.length_map] at hI
  obtain ⟨G5, ks, place, v, rfl, ok5, n5, hk, hks, ndp, pl0, pl1⟩ := hI
  rw [List.take_length] at hk
  have lks : ks.length = As.length := by have := congrArg List.length hk; rwa [List.length_map] at this
  have okk : LineOk ks := ⟨by omega, by omega, fun p hp => pools_nm _ (hA _ (by rw [← hk]; exact List.mem_map.mpr ⟨p, hp, rfl⟩)), fun p hp => ⟨(hks p hp).1, (hks p hp).2.2⟩, by rw [hk]; exact ndA, ndp⟩
  clear hL hp0 hst q30 q29 q28 q528
  obtain ⟨δ', eW, G6, ls, v6, rfl, ok6, n6, pm⟩ := wLoop_inv (ft := (tstB (fOp oNeX (fVar 5) (fZ (oLst aNil))))) (fs := (sDrop (fOwnL 6 (fApp 6 (fOwnL 5 (fPopAt 5 (fCallM 2 0 sem__law_draw (aCons (fVar 0) (aCons (fCB bLen (aCons (fVar 5) aNil)) aNil)))))))))
    (fun (k : Nat) (δ : Env) => ∃ (G6 : Sg) (ps ls : List (Str × Int)) (v6 : Sl), δ = [Sl.ow (some 0) (encG G6), .sh (.int m), .sh (.int (k1 : Int)), .sh (.int (stepS k1)), .sh (.int place), .ow none (.lst (ps.map encN)), .ow none (.lst (ls.map encN)), v6] ∧ SgOk G6 ∧ G6.n + k ≤ G5.n + ks.length ∧ (ps ++ ls).Perm ks ∧ ps.length = k)
    (fun δ => ∃ (G6 : Sg) (ls : List (Str × Int)) (v6 : Sl), δ = [Sl.ow (some 0) (encG G6), .sh (.int m), .sh (.int (k1 : Int)), .sh (.int (stepS k1)), .sh (.int place), .ow none (.lst []), .ow none (.lst (ls.map encN)), v6] ∧ SgOk G6 ∧ G6.n ≤ G5.n + ks.length ∧ ls.Perm ks)
    (by
      rintro k δ ⟨G6, ps, ls, v6, rfl, ok6, n6, pm, lp⟩
      have hps : ∀ p ∈ ps, p ∈ ks := fun p hp => pm.mem_iff.mp (List.mem_append_left _ hp)
      have lsum : ps.length + ls.length = ks.length := by rw [← pm.length_eq, List.length_append]
      have hne := ne_nilC (Cn.map (f := encN) (k := 1) (l := ps) fun p hp => Cn.pair (Cn.nm (okk.nm p (hps p hp))) (.int _)) (by decide)
      have hemp : (ps.map encN).isEmpty = false := by cases ps with
        | nil => simp at lp
        | cons _ _ => rfl
      rw [hemp] at hne
      have hlp : (ps.map encN).length = ps.length := List.length_map ..
      obtain ⟨d5, G7, e5, a5, b5, ok7, n7⟩ := l__law_draw ok6 (m := (ps.length : Int)) (by omega) (by omega) (by omega)
      obtain ⟨z, hz⟩ : ∃ z, ps[d5.toNat]? = some z := ⟨_, List.getElem?_eq_getElem (by omega)⟩
      have hz2 : (ps.map encN)[d5.toNat]? = some (encN z) := by rw [List.getElem?_map, hz]; rfl
      have her := map_erase encN ps d5.toNat
      have hll : (ls.map encN).length < 1000000 := by rw [List.length_map]; omega
      have hlq : ps.length ≤ 1000000 := by omega
      have pl := erase_perm hz
      refine ⟨[Sl.ow (some 0) (encG G6), .sh (.int m), .sh (.int (k1 : Int)), .sh (.int (stepS k1)), .sh (.int place), .ow none (.lst (ps.map encN)), .ow none (.lst (ls.map encN)), v6], ?_, _, ?_, G7, ps.eraseIdx d5.toNat, ls ++ [z], v6, rfl, ok7, by omega, ?_, by have := pl.length_eq; simp at this; omega⟩
      · clear lp n6
        walk_at "fdh"
      · have he : (ls ++ [z]).map encN = ls.map encN ++ [encN z] := by rw [List.map_append]; rfl
        rw [he]
        clear hne hemp lp n6
        walk_at "fdh"
      · refine List.Perm.trans ?_ pm
        rw [← List.append_assoc]
        refine (List.perm_append_singleton z _).trans ?_
        exact pl.append_right ls)
    (by
      rintro δ ⟨G6, ps, ls, v6, rfl, ok6, n6, pm, lp⟩
      have : ps = [] := List.eq_nil_of_length_eq_zero lp
      subst this
      have hne : oNeX (.lst []) (.lst []) = some (.bl false) := ne_nilG (ds := []) (shp_ints [])
      refine ⟨_, ?_, G6, ls, v6, rfl, ok6, by omega, pm⟩
      simp only [List.map_nil]
      walk_at "fdh")
    (k := ks.length) (n := 100000) (δ := [Sl.ow (some 0) (encG G5), .sh (.int m), .sh (.int (k1 : Int)), .sh (.int (stepS k1)), .sh (.int place), .ow none (.lst (ks.map encN)), .ow none (.lst []), v]) ⟨G5, ks, [], v, rfl, ok5, by omega, by rw [List.append_nil], rfl⟩ (by omega)
  have okl := okk.perm pm
  have eD : bDict [.lst (ls.map encN)] = some (.dct (kvL ls)) := bDict_line okl.ndn
  refine ⟨ls, G6, ?_, okl, fun p hp => hA _ (by rw [← hk]; exact List.mem_map.mpr ⟨p, pm.mem_iff.mp hp, rfl⟩), by rw [pm.length_eq]; omega, ok6, by omega⟩
  walk_at "fdh"
theorem l_check_line {ks : List (Str × Int)} (hk : LineOk ks) : sem_check_line [.dct (kvL ks)] = some .non := by
  unfold sem_check_line fs_check_line
  have e := l_is_line hk
  walk_at "fdh"
theorem l_send_each {ks : List (Str × Int)} {es : List (Str × Span)} {fs : List (Str × Str)} (hk : LineOk ks) (h : StOk ks es) (hf : FrOk ks fs) :
    sem_send_each (.dct (kvS es)) [.dct (kvL ks), encB fs] = some (.lst ((sentE ks es fs).map encT), .dct (kvS (runE ks es fs))) := by
  unfold sem_send_each fs_send_each encB
  have lf := hf.len
  walk_at "fd"
  obtain ⟨δ', e1, v1, v2, rfl⟩ := fLoop_inv (fb := bTup 2 (bsCons (bName 4) (bsCons (bName 5) bsNil))) (ds := fs.map encF) (δ := [Sl.sh (.dct (kvL ks)), .ow (some 0) (.dct (kvS es)), .sh (.lst (fs.map encF)), .ow none (.lst []), .no, .no])
    (fs := sDrop (fOwnL 3 (fApp 3 (fCallM 4 1 sem_send_one (aCons (fVar 0) (aCons (fVar 1) (aCons (fVar 4) (aCons (fVar 5) aNil))))))))
    (fun i δ => ∃ v1 v2, δ = [Sl.sh (.dct (kvL ks)), .ow (some 0) (.dct (kvS (runE ks es (fs.take i)))), .sh (.lst (fs.map encF)), .ow none (.lst ((sentE ks es (fs.take i)).map encT)), v1, v2]) ⟨_, _, rfl⟩ (fun i d δ hd hI => by
      obtain ⟨v1, v2, rfl⟩ := hI
      rw [List.getElem?_map] at hd
      cases hp : fs[i]? with
      | none => rw [hp] at hd; cases hd
      | some p =>
        rw [hp] at hd
        cases hd
        have hm := hf.ok p (List.mem_of_getElem? hp)
        have ok := runE_ok hk (fs := fs.take i) h fun q hq => hf.ok q (List.mem_of_mem_take hq)
        have e := l_send_one hk ok hm.1 hm.2.1
        have el : ((sentE ks es (fs.take i)).map encT).length < 1000000 := by rw [List.length_map, sentE_len, List.length_take]; omega
        refine ⟨[Sl.sh (.dct (kvL ks)), .ow (some 0) (.dct (kvS (runE ks es (fs.take i)))), .sh (.lst (fs.map encF)), .ow none (.lst ((sentE ks es (fs.take i)).map encT)), .sh (.str p.1), .sh (.str p.2)],
          [Sl.sh (.dct (kvL ks)), .ow (some 0) (.dct (kvS (sendE ks (runE ks es (fs.take i)) p))), .sh (.lst (fs.map encF)), .ow none (.lst ((sentE ks es (fs.take i)).map encT ++ [encT (kindE ks (runE ks es (fs.take i)) p, reachE ks (runE ks es (fs.take i)) p)])), .sh (.str p.1), .sh (.str p.2)], rfl, ?_, .sh (.str p.1), .sh (.str p.2), ?_⟩
        · walk_at "fdh"
          first | done | rfl
        · rw [take_snoc hp, runE_snoc, sentE_snoc, List.map_append]; rfl)
  rw [List.length_map, List.take_length] at e1
  simp only [e1]
  walk_at "fd"
theorem netK (l k d : Dv) (s c : List Dv) : putFD (netD l k s c) "_known" d = netD l d s c := rfl
theorem netS (l k d : Dv) (s c : List Dv) : putFD (netD l k s c) "_sent" (.lst (s ++ [d])) = netD l k (s ++ [d]) c := rfl
theorem l_Network__pass_on {ks : List (Str × Int)} {es : List (Str × Span)} {s c : List Dv} {p : Str × Str} (hk : LineOk ks) (h : StOk ks es) (h1 : p.1 ∈ ks.map (·.1)) (h2 : p.2 ∈ ks.map (·.1)) (hs : s.length < 1000000) :
    sem_Network__pass_on [.dct (netD (.dct (kvL ks)) (.dct (kvS es)) s c), .str p.1, .str p.2] = some (.str (kindE ks es p), [.dct (netD (.dct (kvL ks)) (.dct (kvS (sendE ks es p))) (s ++ [encF p]) c)]) := by
  have e1 := l_send_one hk h h1 h2
  have go : ∃ v4 v5, fs_Network__pass_on [Sl.on (some 0) (.io "Network" FSn) (.dct (netD (.dct (kvL ks)) (.dct (kvS es)) s c)), .sh (.str p.1), .sh (.str p.2), .no, .no, .no] =
      some (.rt (.str (kindE ks es p)), [Sl.on (some 0) (.io "Network" FSn) (.dct (netD (.dct (kvL ks)) (.dct (kvS (sendE ks es p))) (s ++ [encF p]) c)), .sh (.str p.1), .sh (.str p.2), .sh (.dct (kvS (sendE ks es p))), v4, v5]) := by
    refine ⟨.sh (.str (kindE ks es p)), .sh (encS (some (reachE ks es p))), ?_⟩
    unfold fs_Network__pass_on
    have a1 : sAsgO 3 (oPrp 0 "Network" [(.i (.io "Network" FSn) (.io "Network" FSn))] sem_Network_known) [Sl.on (some 0) (.io "Network" FSn) (.dct (netD (.dct (kvL ks)) (.dct (kvS es)) s c)), .sh (.str p.1), .sh (.str p.2), .no, .no, .no] =
      some (.nx, [Sl.on (some 0) (.io "Network" FSn) (.dct (netD (.dct (kvL ks)) (.dct (kvS es)) s c)), .sh (.str p.1), .sh (.str p.2), .ow none (.dct (kvS es)), .no, .no]) := rfl
    have fl : fFld 0 "Network" "_line" [Sl.on (some 0) (.io "Network" FSn) (.dct (netD (.dct (kvL ks)) (.dct (kvS es)) s c)), .sh (.str p.1), .sh (.str p.2), .ow none (.dct (kvS es)), .no, .no] = some (.dv (.dct (kvL ks)), [Sl.on (some 0) (.io "Network" FSn) (.dct (netD (.dct (kvL ks)) (.dct (kvS es)) s c)), .sh (.str p.1), .sh (.str p.2), .ow none (.dct (kvS es)), .no, .no]) := rfl
    have a2 : sAsg (fCallM 4 1 sem_send_one (aCons (fFld 0 "Network" "_line") (aCons (fVar 3) (aCons (fVar 1) (aCons (fVar 2) aNil))))) (bTup 2 (bsCons (bName 4) (bsCons (bName 5) bsNil))) [Sl.on (some 0) (.io "Network" FSn) (.dct (netD (.dct (kvL ks)) (.dct (kvS es)) s c)), .sh (.str p.1), .sh (.str p.2), .ow none (.dct (kvS es)), .no, .no] = some (.nx, [Sl.on (some 0) (.io "Network" FSn) (.dct (netD (.dct (kvL ks)) (.dct (kvS es)) s c)), .sh (.str p.1), .sh (.str p.2), .ow none (.dct (kvS (sendE ks es p))), .sh (.str (kindE ks es p)), .sh (encS (some (reachE ks es p)))]) := by
      generalize netD (.dct (kvL ks)) (.dct (kvS es)) s c = ND at fl ⊢
      clear a1
      walk_at "fdh"
    have a3 : sFrz 3 (sSetF 0 "Network" "_known" .fr (oDv (fVar 3))) [Sl.on (some 0) (.io "Network" FSn) (.dct (netD (.dct (kvL ks)) (.dct (kvS es)) s c)), .sh (.str p.1), .sh (.str p.2), .ow none (.dct (kvS (sendE ks es p))), .sh (.str (kindE ks es p)), .sh (encS (some (reachE ks es p)))] = some (.nx, [Sl.on (some 0) (.io "Network" FSn) (.dct (netD (.dct (kvL ks)) (.dct (kvS (sendE ks es p))) s c)), .sh (.str p.1), .sh (.str p.2), .sh (.dct (kvS (sendE ks es p))), .sh (.str (kindE ks es p)), .sh (encS (some (reachE ks es p)))]) := rfl
    have a4 : sDrop (fAppF 0 "Network" "_sent" (eTup (eaCons (eVar 1) (eaCons (eVar 2) eaNil)))) [Sl.on (some 0) (.io "Network" FSn) (.dct (netD (.dct (kvL ks)) (.dct (kvS (sendE ks es p))) s c)), .sh (.str p.1), .sh (.str p.2), .sh (.dct (kvS (sendE ks es p))), .sh (.str (kindE ks es p)), .sh (encS (some (reachE ks es p)))] = some (.nx, [Sl.on (some 0) (.io "Network" FSn) (.dct (netD (.dct (kvL ks)) (.dct (kvS (sendE ks es p))) (s ++ [encF p]) c)), .sh (.str p.1), .sh (.str p.2), .sh (.dct (kvS (sendE ks es p))), .sh (.str (kindE ks es p)), .sh (encS (some (reachE ks es p)))]) := by
      unfold sDrop fAppF
      have q3 : eTup (eaCons (eVar 1) (eaCons (eVar 2) eaNil)) [Sl.on (some 0) (.io "Network" FSn) (.dct (netD (.dct (kvL ks)) (.dct (kvS (sendE ks es p))) s c)), .sh (.str p.1), .sh (.str p.2), .sh (.dct (kvS (sendE ks es p))), .sh (.str (kindE ks es p)), .sh (encS (some (reachE ks es p)))] = some (encF p) := rfl
      have q4 : ioSlot 0 "Network" [Sl.on (some 0) (.io "Network" FSn) (.dct (netD (.dct (kvL ks)) (.dct (kvS (sendE ks es p))) s c)), .sh (.str p.1), .sh (.str p.2), .sh (.dct (kvS (sendE ks es p))), .sh (.str (kindE ks es p)), .sh (encS (some (reachE ks es p)))] = some (some 0, FSn, netD (.dct (kvL ks)) (.dct (kvS (sendE ks es p))) s c) := rfl
      have q5 : fldS FSn "_sent" = some .fl := rfl
      have q6 : lookK (netD (.dct (kvL ks)) (.dct (kvS (sendE ks es p))) s c) (.inr "_sent") = some (.lst s) := rfl
      rw [q3]
      simp only [q4, q5, q6, if_true, if_pos hs]
      rfl
    have a5 := (seq_nx a1).trans ((seq_nx a2).trans ((seq_nx a3).trans ((seq_nx a4).trans (rfl : sRet (fVar 4) [Sl.on (some 0) (.io "Network" FSn) (.dct (netD (.dct (kvL ks)) (.dct (kvS (sendE ks es p))) (s ++ [encF p]) c)), .sh (.str p.1), .sh (.str p.2), .sh (.dct (kvS (sendE ks es p))), .sh (.str (kindE ks es p)), .sh (encS (some (reachE ks es p)))] = some (.rt (.str (kindE ks es p)), [Sl.on (some 0) (.io "Network" FSn) (.dct (netD (.dct (kvL ks)) (.dct (kvS (sendE ks es p))) (s ++ [encF p]) c)), .sh (.str p.1), .sh (.str p.2), .sh (.dct (kvS (sendE ks es p))), .sh (.str (kindE ks es p)), .sh (encS (some (reachE ks es p)))])))))
    exact a5
  obtain ⟨v4, v5, go⟩ := go
  exact semU_of go rfl rfl
theorem l_is_state {ks : List (Str × Int)} {es : List (Str × Span)} (hk : LineOk ks) (h : StOk ks es) : sem_is_state [.dct (kvL ks), .dct (kvS es)] = some (.bl true) := by
  unfold sem_is_state fs_is_state
  have l2 := hk.len2
  have e0 := l_check_line hk
  have e1 := l_has_hosts_of hk h
  walk_at "fdh"
  rw [oLc_all (fun _ => .bl true) (δ1 := [Sl.sh (.dct (kvL ks)), .sh (.dct (kvS es)), .no]) (ds := Way.ds .keys (kvL ks)) rfl (by show (List.map _ _).length ≤ _; rw [List.length_map, len_kvL]; omega)]
  · simp only [getAll, Rv.get]
    rw [bAll_true]
  · intro d hd
    obtain ⟨x, hx, rfl⟩ := List.mem_map.mp hd
    obtain ⟨p, hp, rfl⟩ := List.mem_map.mp hx
    have hz : p.1 ∈ ks.map (·.1) := List.mem_map.mpr ⟨p, hp, rfl⟩
    obtain ⟨e, hm⟩ := spOf_look hk h hz
    have e2 := l_is_known_interval hk hz (h.ok _ hm)
    refine ⟨[Sl.sh (.dct (kvL ks)), .sh (.dct (kvS es)), .sh (.str p.1)], rfl, ?_, rfl⟩
    walk_at "fdh"
theorem l_is_frames {ks : List (Str × Int)} {fs : List (Str × Str)} (hk : LineOk ks) (hf : FrOk ks fs) : sem_is_frames [.dct (kvL ks), encB fs] = some (.bl true) := by
  have l1 := hf.len
  unfold sem_is_frames fs_is_frames encB
  have e := l_check_line hk
  have e2 := l_is_list (fs.map encF)
  have q : ¬ (300 : Int) < (fs.length : Int) := by omega
  walk_at "fdh"
  simp only [List.length_map]
  walk_at "fdh"
  rw [oLc_all (fun _ => .bl true) (δ1 := [Sl.sh (.dct (kvL ks)), .sh (.lst (fs.map encF)), .no]) (ds := fs.map encF) rfl (by rw [List.length_map]; omega)]
  · simp only [getAll, Rv.get]
    rw [bAll_true]
  · intro d hd
    obtain ⟨p, hp, rfl⟩ := List.mem_map.mp hd
    obtain ⟨a, b, c⟩ := hf.ok p hp
    have e3 := l_is_frame hk a b c
    refine ⟨[Sl.sh (.dct (kvL ks)), .sh (.lst (fs.map encF)), .sh (encF p)], rfl, ?_, rfl⟩
    walk_at "fdh"
theorem l_in_order {ks : List (Str × Int)} (hk : LineOk ks) : sem_in_order [.dct (kvL ks)] = some (.lst (((rk ks).map (·.2)).map Dv.str)) := by
  unfold sem_in_order fs_in_order
  have l2 := hk.len2
  have e0 := l_check_line hk
  walk_at "fdh"
  rw [oLc_all (fb := bTup 2 (bsCons (bName 3) (bsCons (bName 4) bsNil))) (fun d => match d with | .tup [.str z, .int n] => .tup [.int n, .str z] | _ => .non) (ds := (kvL ks).map itemD) rfl (by rw [List.length_map, len_kvL]; omega) (fun d hd => by
    obtain ⟨x, hx, rfl⟩ := List.mem_map.mp hd
    obtain ⟨p, hp, rfl⟩ := List.mem_map.mp hx
    refine ⟨_, rfl, ?_, rfl⟩
    walk_at "fdh"
    rfl)]
  have e : (((kvL ks).map itemD).map fun d => match d with | .tup [.str z, .int n] => Dv.tup [.int n, .str z] | _ => .non) = (ks.map fun p => (p.2, p.1)).map encI := by
    unfold kvL
    rw [List.map_map, List.map_map, List.map_map]; rfl
  rw [e]
  have e2 : bSortP [.lst ((ks.map fun p => (p.2, p.1)).map encI)] = some (.lst ((rk ks).map encI)) := by
    unfold bSortP
    simp only [pairsIS_map]
    rw [if_pos (by rw [List.map_map]; exact hk.ndp)]; rfl
  walk_at "fdh"
  rw [oLc_all (fb := bName 2) (fun d => match d with | .tup [.int n, .str z] => .str z | _ => .non) (ds := (rk ks).map encI) rfl (by rw [List.length_map, rk_len]; omega) (fun d hd => by
    obtain ⟨p, hp, rfl⟩ := List.mem_map.mp hd
    refine ⟨_, rfl, ?_, rfl⟩
    simp only [encI]
    walk_at "fdh")]
  have e3 : (((rk ks).map encI).map fun d => match d with | .tup [.int n, .str z] => Dv.str z | _ => .non) = ((rk ks).map (·.2)).map Dv.str := by
    rw [List.map_map, List.map_map]; rfl
  rw [e3]
theorem l_Network___init__ {ks : List (Str × Int)} (hk : LineOk ks) : sem_Network___init__ [.dct [], .dct (kvL ks)] = some (.non, [.dct (netD (.dct (kvL (sortL ks))) (.dct (kvS (silE (sortL ks)))) [] [])]) := by
  have c1 := l_check_line hk
  have c2 := l_silent_state (sortL_ok hk)
  have c3 := bSort_line hk
  have l2 := hk.len2
  have b1 : (sDrop (fCallP sem_check_line (ckLen 1 (aCons (fVar 1) aNil)))) [Sl.on (some 0) (.io "Network" .nl) (.dct []), .sh (.dct (kvL ks)), .no] = some (.nx, [Sl.on (some 0) (.io "Network" .nl) (.dct []), .sh (.dct (kvL ks)), .no]) := by
    clear c2 c3
    walk_at "fdh"
  have eD : (oDc (itL (fZ (oCB bSort (aCons (fVar 1) aNil)))) (bName 2) tstYes (fVar 2) (fDGet (fVar 1) (fVar 2)) [2]) [Sl.on (some 0) (.io "Network" .nl) (.dct []), .sh (.dct (kvL ks)), .no] = some ((.dct (kvL (sortL ks))), [Sl.on (some 0) (.io "Network" .nl) (.dct []), .sh (.dct (kvL ks)), .no]) := by
    rw [oDc_all (δ1 := [Sl.on (some 0) (.io "Network" .nl) (.dct []), .sh (.dct (kvL ks)), .no]) (ds := (srt leS (ks.map (·.1))).map Dv.str) (fun d => d) (fun d => (keyOf d).getD (.inl 0)) (fun d => match d with | .str z => .int (posOf ks z) | _ => .non) (by
      clear c1 c2 b1
      walk_at "fdh") (by rw [List.length_map, (srt_perm leS _).length_eq, List.length_map]; omega)]
    · simp only [List.map_map, kvL, sortL]; rfl
    · intro d hd
      obtain ⟨z, hz, rfl⟩ := List.mem_map.mp hd
      have hz2 := (srt_perm leS _).mem_iff.mp hz
      have e3 := lookK_line (posOf_in hz2) hk.ndn
      refine ⟨[Sl.on (some 0) (.io "Network" .nl) (.dct []), .sh (.dct (kvL ks)), .sh (.str z)], rfl, rfl, rfl, ?_, rfl⟩
      clear c1 c2 c3 b1
      walk_at "fdh"
    · rw [List.map_map]
      have : ((fun d => (keyOf d).getD (.inl 0)) ∘ Dv.str) = Sum.inr := rfl
      rw [this]
      exact List.Pairwise.map _ (fun a b h e => h (Sum.inr.inj e)) (srt_nd hk)
  have b2 : (sSetF 0 "Network" "_line" .fr (oDv (fZ (oDc (itL (fZ (oCB bSort (aCons (fVar 1) aNil)))) (bName 2) tstYes (fVar 2) (fDGet (fVar 1) (fVar 2)) [2])))) [Sl.on (some 0) (.io "Network" .nl) (.dct []), .sh (.dct (kvL ks)), .no] = some (.nx, [Sl.on (some 0) (.io "Network" (.fc "_line" .fr .nl)) (.dct [(.inr "_line", (.dct (kvL (sortL ks))))]), .sh (.dct (kvL ks)), .no]) := by
    generalize oDc _ _ _ _ _ _ = f at eD ⊢
    unfold sSetF oDv fZ
    rw [eD]
    rfl
  have b3 : (sSetF 0 "Network" "_known" .fr (oDv (fZ (oCall sem_silent_state (ckLen 1 (aCons (fFld 0 "Network" "_line") aNil)))))) [Sl.on (some 0) (.io "Network" (.fc "_line" .fr .nl)) (.dct [(.inr "_line", (.dct (kvL (sortL ks))))]), .sh (.dct (kvL ks)), .no] = some (.nx, [Sl.on (some 0) (.io "Network" (.fc "_line" .fr (.fc "_known" .fr .nl))) (.dct [(.inr "_line", (.dct (kvL (sortL ks)))), (.inr "_known", (.dct (kvS (silE (sortL ks)))))]), .sh (.dct (kvL ks)), .no]) := by
    have q : (oCall sem_silent_state (ckLen 1 (aCons (fFld 0 "Network" "_line") aNil))) [Sl.on (some 0) (.io "Network" (.fc "_line" .fr .nl)) (.dct [(.inr "_line", (.dct (kvL (sortL ks))))]), .sh (.dct (kvL ks)), .no] = some ((.dct (kvS (silE (sortL ks)))), [Sl.on (some 0) (.io "Network" (.fc "_line" .fr .nl)) (.dct [(.inr "_line", (.dct (kvL (sortL ks))))]), .sh (.dct (kvL ks)), .no]) := by
      unfold oCall
      rw [show ckLen 1 (aCons (fFld 0 "Network" "_line") aNil) [Sl.on (some 0) (.io "Network" (.fc "_line" .fr .nl)) (.dct [(.inr "_line", (.dct (kvL (sortL ks))))]), .sh (.dct (kvL ks)), .no] = some ([.dv (.dct (kvL (sortL ks)))], [Sl.on (some 0) (.io "Network" (.fc "_line" .fr .nl)) (.dct [(.inr "_line", (.dct (kvL (sortL ks))))]), .sh (.dct (kvL ks)), .no]) from rfl]
      simp only [rvData]
      rw [c2]
    generalize oCall _ _ = f at q ⊢
    unfold sSetF oDv fZ
    rw [q]
    rfl
  have b4 : (sSetF 0 "Network" "_sent" .fl (oLst aNil)) [Sl.on (some 0) (.io "Network" (.fc "_line" .fr (.fc "_known" .fr .nl))) (.dct [(.inr "_line", (.dct (kvL (sortL ks)))), (.inr "_known", (.dct (kvS (silE (sortL ks)))))]), .sh (.dct (kvL ks)), .no] = some (.nx, [Sl.on (some 0) (.io "Network" (.fc "_line" .fr (.fc "_known" .fr (.fc "_sent" .fl .nl)))) (.dct [(.inr "_line", (.dct (kvL (sortL ks)))), (.inr "_known", (.dct (kvS (silE (sortL ks))))), (.inr "_sent", .lst [])]), .sh (.dct (kvL ks)), .no]) := rfl
  have b5 : (sSetF 0 "Network" "_changes" .fl (oLst aNil)) [Sl.on (some 0) (.io "Network" (.fc "_line" .fr (.fc "_known" .fr (.fc "_sent" .fl .nl)))) (.dct [(.inr "_line", (.dct (kvL (sortL ks)))), (.inr "_known", (.dct (kvS (silE (sortL ks))))), (.inr "_sent", .lst [])]), .sh (.dct (kvL ks)), .no] = some (.nx, [Sl.on (some 0) (.io "Network" FSn) (.dct (netD (.dct (kvL (sortL ks))) (.dct (kvS (silE (sortL ks)))) [] [])), .sh (.dct (kvL ks)), .no]) := rfl
  have go : fs_Network___init__ [Sl.on (some 0) (.io "Network" .nl) (.dct []), .sh (.dct (kvL ks)), .no] = some (.nx, [Sl.on (some 0) (.io "Network" FSn) (.dct (netD (.dct (kvL (sortL ks))) (.dct (kvS (silE (sortL ks)))) [] [])), .sh (.dct (kvL ks)), .no]) := (seq_nx b1).trans ((seq_nx b2).trans ((seq_nx b3).trans ((seq_nx b4).trans b5)))
  exact semU_of go rfl rfl
theorem l_Network_send {ks : List (Str × Int)} {es : List (Str × Span)} {s c : List Dv} {p : Str × Str} (hk : LineOk ks) (h : StOk ks es) (h1 : p.1 ∈ ks.map (·.1)) (h2 : p.2 ∈ ks.map (·.1)) (ne : p.1 ≠ p.2) (hs : s.length < 1000000) (hc : c.length < 1000000) :
    sem_Network_send [.dct (netD (.dct (kvL ks)) (.dct (kvS es)) s c), .str p.1, .str p.2] = some (.str (kindE ks es p), [.dct (netD (.dct (kvL ks)) (.dct (kvS (sendE ks es p))) (s ++ [encF p]) (c ++ [.tup [.int (s.length : Nat), .dct (kvS es)]]))]) := by
  have e1 := l_check_hosts hk h1 h2 ne
  have e2 := l_Network__begin_change (l := .dct (kvL ks)) (k := .dct (kvS es)) (s := s) (c := c) hc
  have e3 := l_Network__pass_on (s := s) (c := (c ++ [.tup [.int (s.length : Nat), .dct (kvS es)]])) hk h h1 h2 hs
  have b1 : (sDrop (fCallP sem_check_hosts (ckLen 3 (aCons (fFld 0 "Network" "_line") (aCons (fVar 1) (aCons (fVar 2) aNil)))))) [Sl.on (some 0) (.io "Network" FSn) (.dct (netD (.dct (kvL ks)) (.dct (kvS es)) s c)), .sh (.str p.1), .sh (.str p.2)] = some (.nx, [Sl.on (some 0) (.io "Network" FSn) (.dct (netD (.dct (kvL ks)) (.dct (kvS es)) s c)), .sh (.str p.1), .sh (.str p.2)]) := by
    have fl : fFld 0 "Network" "_line" [Sl.on (some 0) (.io "Network" FSn) (.dct (netD (.dct (kvL ks)) (.dct (kvS es)) s c)), .sh (.str p.1), .sh (.str p.2)] = some (.dv (.dct (kvL ks)), [Sl.on (some 0) (.io "Network" FSn) (.dct (netD (.dct (kvL ks)) (.dct (kvS es)) s c)), .sh (.str p.1), .sh (.str p.2)]) := rfl
    generalize netD (.dct (kvL ks)) (.dct (kvS es)) s c = ND at fl ⊢
    clear e2 e3
    walk_at "fdh"
  have m1 : (oMeth 0 "Network" "_begin_change" [(.i (.io "Network" FSn) (.io "Network" FSn))] sem_Network__begin_change uaNil) [Sl.on (some 0) (.io "Network" FSn) (.dct (netD (.dct (kvL ks)) (.dct (kvS es)) s c)), .sh (.str p.1), .sh (.str p.2)] = some (.non, [Sl.on (some 0) (.io "Network" FSn) (.dct (netD (.dct (kvL ks)) (.dct (kvS es)) s (c ++ [.tup [.int (s.length : Nat), .dct (kvS es)]]))), .sh (.str p.1), .sh (.str p.2)]) := by
    unfold oMeth oCallU
    rw [show hasM 0 "Network" "_begin_change" [Sl.on (some 0) (.io "Network" FSn) (.dct (netD (.dct (kvL ks)) (.dct (kvS es)) s c)), .sh (.str p.1), .sh (.str p.2)] = true from rfl, if_pos rfl, show uaL 0 uaNil [Sl.on (some 0) (.io "Network" FSn) (.dct (netD (.dct (kvL ks)) (.dct (kvS es)) s c)), .sh (.str p.1), .sh (.str p.2)] = some ([.al 0], [Sl.on (some 0) (.io "Network" FSn) (.dct (netD (.dct (kvL ks)) (.dct (kvS es)) s c)), .sh (.str p.1), .sh (.str p.2)]) from rfl]
    simp only
    rw [show takeU [(.i (.io "Network" FSn) (.io "Network" FSn))] [.al 0] [Sl.on (some 0) (.io "Network" FSn) (.dct (netD (.dct (kvL ks)) (.dct (kvS es)) s c)), .sh (.str p.1), .sh (.str p.2)] = some ([.dct (netD (.dct (kvL ks)) (.dct (kvS es)) s c)], [some (0, some 0, .io "Network" FSn)], [Sl.no, .sh (.str p.1), .sh (.str p.2)]) from rfl]
    simp only
    rw [e2]
    rfl
  have b2 : (sDrop (fZ (oMeth 0 "Network" "_begin_change" [(.i (.io "Network" FSn) (.io "Network" FSn))] sem_Network__begin_change uaNil))) [Sl.on (some 0) (.io "Network" FSn) (.dct (netD (.dct (kvL ks)) (.dct (kvS es)) s c)), .sh (.str p.1), .sh (.str p.2)] = some (.nx, [Sl.on (some 0) (.io "Network" FSn) (.dct (netD (.dct (kvL ks)) (.dct (kvS es)) s (c ++ [.tup [.int (s.length : Nat), .dct (kvS es)]]))), .sh (.str p.1), .sh (.str p.2)]) := by
    unfold sDrop fZ
    rw [m1]
  have m2 : (oMeth 0 "Network" "_pass_on" [(.i (.io "Network" FSn) (.io "Network" FSn)), .f, .f] sem_Network__pass_on (uaE (fVar 1) (uaE (fVar 2) uaNil))) [Sl.on (some 0) (.io "Network" FSn) (.dct (netD (.dct (kvL ks)) (.dct (kvS es)) s (c ++ [.tup [.int (s.length : Nat), .dct (kvS es)]]))), .sh (.str p.1), .sh (.str p.2)] = some (.str (kindE ks es p), [Sl.on (some 0) (.io "Network" FSn) (.dct (netD (.dct (kvL ks)) (.dct (kvS (sendE ks es p))) (s ++ [encF p]) (c ++ [.tup [.int (s.length : Nat), .dct (kvS es)]]))), .sh (.str p.1), .sh (.str p.2)]) := by
    unfold oMeth oCallU
    rw [show hasM 0 "Network" "_pass_on" [Sl.on (some 0) (.io "Network" FSn) (.dct (netD (.dct (kvL ks)) (.dct (kvS es)) s (c ++ [.tup [.int (s.length : Nat), .dct (kvS es)]]))), .sh (.str p.1), .sh (.str p.2)] = true from rfl, if_pos rfl, show uaL 0 (uaE (fVar 1) (uaE (fVar 2) uaNil)) [Sl.on (some 0) (.io "Network" FSn) (.dct (netD (.dct (kvL ks)) (.dct (kvS es)) s (c ++ [.tup [.int (s.length : Nat), .dct (kvS es)]]))), .sh (.str p.1), .sh (.str p.2)] = some ([.al 0, .dv (.str p.1), .dv (.str p.2)], [Sl.on (some 0) (.io "Network" FSn) (.dct (netD (.dct (kvL ks)) (.dct (kvS es)) s (c ++ [.tup [.int (s.length : Nat), .dct (kvS es)]]))), .sh (.str p.1), .sh (.str p.2)]) from rfl]
    simp only
    rw [show takeU [(.i (.io "Network" FSn) (.io "Network" FSn)), .f, .f] [.al 0, .dv (.str p.1), .dv (.str p.2)] [Sl.on (some 0) (.io "Network" FSn) (.dct (netD (.dct (kvL ks)) (.dct (kvS es)) s (c ++ [.tup [.int (s.length : Nat), .dct (kvS es)]]))), .sh (.str p.1), .sh (.str p.2)] = some ([.dct (netD (.dct (kvL ks)) (.dct (kvS es)) s (c ++ [.tup [.int (s.length : Nat), .dct (kvS es)]])), .str p.1, .str p.2], [some (0, some 0, .io "Network" FSn)], [Sl.no, .sh (.str p.1), .sh (.str p.2)]) from rfl]
    simp only
    rw [e3]
    rfl
  have b3 : (sRet (fZ (oMeth 0 "Network" "_pass_on" [(.i (.io "Network" FSn) (.io "Network" FSn)), .f, .f] sem_Network__pass_on (uaE (fVar 1) (uaE (fVar 2) uaNil))))) [Sl.on (some 0) (.io "Network" FSn) (.dct (netD (.dct (kvL ks)) (.dct (kvS es)) s (c ++ [.tup [.int (s.length : Nat), .dct (kvS es)]]))), .sh (.str p.1), .sh (.str p.2)] = some (.rt (.str (kindE ks es p)), [Sl.on (some 0) (.io "Network" FSn) (.dct (netD (.dct (kvL ks)) (.dct (kvS (sendE ks es p))) (s ++ [encF p]) (c ++ [.tup [.int (s.length : Nat), .dct (kvS es)]]))), .sh (.str p.1), .sh (.str p.2)]) := by
    unfold sRet fZ
    rw [m2]
  have go : fs_Network_send [Sl.on (some 0) (.io "Network" FSn) (.dct (netD (.dct (kvL ks)) (.dct (kvS es)) s c)), .sh (.str p.1), .sh (.str p.2)] = some (.rt (.str (kindE ks es p)), [Sl.on (some 0) (.io "Network" FSn) (.dct (netD (.dct (kvL ks)) (.dct (kvS (sendE ks es p))) (s ++ [encF p]) (c ++ [.tup [.int (s.length : Nat), .dct (kvS es)]]))), .sh (.str p.1), .sh (.str p.2)]) := (seq_nx b1).trans ((seq_nx b2).trans b3)
  exact semU_of go rfl rfl
theorem l_check_state {ks : List (Str × Int)} {es : List (Str × Span)} (hk : LineOk ks) (h : StOk ks es) : sem_check_state [.dct (kvL ks), .dct (kvS es)] = some .non := by
  unfold sem_check_state fs_check_state
  have e := l_is_state hk h
  walk_at "fdh"
theorem l_check_frames {ks : List (Str × Int)} {fs : List (Str × Str)} (hk : LineOk ks) (hf : FrOk ks fs) : sem_check_frames [.dct (kvL ks), encB fs] = some .non := by
  unfold sem_check_frames fs_check_frames
  have e := l_is_frames hk hf
  walk_at "fdh"
theorem l_lacking {ks : List (Str × Int)} {es : List (Str × Span)} (hk : LineOk ks) (h : StOk ks es) : sem_lacking [.dct (kvL ks), .dct (kvS es)] = some (.lst ((lackE ks es).map Dv.str)) := by
  have e0 := l_check_state hk h
  have e1 := l_in_order hk
  have lr : (rk ks).length = ks.length := rk_len
  have l1 := hk.len1
  have l2 := hk.len2
  have ll : (((rk ks).map (·.2)).map Dv.str).length = ks.length := by rw [List.length_map, List.length_map, lr]
  unfold sem_lacking fs_lacking
  by_cases q : ks.length = 1
  · have qb : decide ((ks.length : Int) = 1) = true := decide_eq_true (by omega)
    walk_at "fdh"
    unfold lackE
    rw [if_pos q]; rfl
  · have qb : decide ((ks.length : Int) = 1) = false := decide_eq_false (by omega)
    obtain ⟨a, ha⟩ : ∃ a, (rk ks)[0]? = some a := ⟨_, List.getElem?_eq_getElem (by omega)⟩
    obtain ⟨rs, b, hb⟩ : ∃ rs b, rk ks = rs ++ [b] := by
      rcases List.eq_nil_or_concat (rk ks) with e | ⟨rs, b, e⟩
      · rw [e] at lr; simp at lr; omega
      · exact ⟨rs, b, by rw [e, List.concat_eq_append]⟩
    have x0 : atI (((rk ks).map (·.2)).map Dv.str) 0 = some (.str a.2) := at_nat (k := 0) (by rw [List.getElem?_map, List.getElem?_map, ha]; rfl)
    have x1 : atI (((rk ks).map (·.2)).map Dv.str) (-1) = some (.str b.2) := by rw [hb, List.map_append, List.map_append]; exact at_last
    obtain ⟨ma, pa⟩ := rk_host hk (List.mem_of_getElem? ha)
    obtain ⟨mb, pb⟩ := rk_host hk (p := b) (by rw [hb]; simp)
    have k0 : lookK (kvL ks) (.inr a.2) = some (.int a.1) := by rw [← pa]; exact lookK_line (posOf_in ma) hk.ndn
    have k1 : lookK (kvL ks) (.inr b.2) = some (.int b.1) := by rw [← pb]; exact lookK_line (posOf_in mb) hk.ndn
    have ee : endsL ks = (a.1, b.1) := by
      unfold endsL
      rw [List.head?_eq_getElem?, ha]
      have : (rk ks).getLast? = some b := by rw [hb]; simp
      rw [this]; rfl
    clear hb ha
    walk_at "fdh"
    rw [oLc_pure (fb := bName 5) (fun d => match d with | .str z => !(inSpan (spOf es z) a.1 && inSpan (spOf es z) b.1) | _ => false) (fun d => d) (ds := ((rk ks).map (·.2)).map Dv.str) rfl (by omega) (fun d hd => by
      obtain ⟨z, hz, rfl⟩ := List.mem_map.mp hd
      obtain ⟨p, hp, rfl⟩ := List.mem_map.mp hz
      obtain ⟨m, _⟩ := rk_host hk hp
      have k2 := (spOf_look hk h m).1
      have e3 := l_covers (spOf es p.2) a.1 b.1
      refine ⟨_, rfl, ?_, fun _ => ?_, rfl⟩
      · walk_at "fdh"
      · walk_at "fdh")]
    have hff : ((((rk ks).map (·.2)).map Dv.str).filter (fun d => match d with | .str z => !(inSpan (spOf es z) a.1 && inSpan (spOf es z) b.1) | _ => false)).map (fun d => d) = (lackE ks es).map Dv.str := by
      unfold lackE
      rw [if_neg q, ee, List.filter_map, List.map_map]; rfl
    rw [hff]
    try walk_at "fdh"
theorem l_starting_none {ks : List (Str × Int)} (hk : LineOk ks) : sem_starting_state [.dct (kvL ks), .non] = some (.dct (kvS (silE ks))) := by
  unfold sem_starting_state fs_starting_state
  have e := l_silent_state hk
  walk_at "fdh"
theorem l_starting_some {ks : List (Str × Int)} {es : List (Str × Span)} (hk : LineOk ks) (h : StOk ks es) : sem_starting_state [.dct (kvL ks), .dct (kvS es)] = some (.dct (kvS es)) := by
  unfold sem_starting_state fs_starting_state
  have e := l_check_state hk h
  walk_at "fdh"
  simp only [bDict]
theorem l_is_quiet {ks : List (Str × Int)} {es : List (Str × Span)} (hk : LineOk ks) (h : StOk ks es) : sem_is_quiet [.dct (kvL ks), .dct (kvS es)] = some (.bl (decide (lackE ks es = []))) := by
  have e := l_lacking hk h
  have l : ((lackE ks es).map Dv.str).length = (lackE ks es).length := List.length_map ..
  have q : decide (((lackE ks es).length : Int) = 0) = decide (lackE ks es = []) := decide_eq_decide.mpr (by rw [← List.length_eq_zero_iff]; omega)
  unfold sem_is_quiet fs_is_quiet
  walk_at "fdh"
theorem l_kinds_from {ks : List (Str × Int)} {es : List (Str × Span)} {fs : List (Str × Str)} {st : Dv} (hk : LineOk ks) (h : StOk ks es) (hf : FrOk ks fs) (hs : sem_starting_state [.dct (kvL ks), st] = some (.dct (kvS es))) :
    sem_kinds_of [.dct (kvL ks), encB fs, st] = some (.lst ((sentE ks es fs).map fun x => .str x.1)) := by
  unfold sem_kinds_of fs_kinds_of
  have lf := hf.len
  have e1 := l_check_frames hk hf
  have e2 := l_send_each hk h hf
  walk_at "fdh"
  rw [oLc_all (fun d => match d with | .tup [a, _] => a | _ => .non) (δ1 := [Sl.sh (.dct (kvL ks)), .sh (encB fs), .sh st, .sh (.lst ((sentE ks es fs).map encT)), .no, .no]) (ds := (sentE ks es fs).map encT) rfl (by rw [List.length_map, sentE_len]; omega)]
  · simp only [List.map_map]; rfl
  · intro d hd
    obtain ⟨x, hx, rfl⟩ := List.mem_map.mp hd
    exact ⟨[Sl.sh (.dct (kvL ks)), .sh (encB fs), .sh st, .sh (.lst ((sentE ks es fs).map encT)), .sh (.str x.1), .sh (encS (some x.2))], rfl, rfl, rfl⟩
theorem l_known_from {ks : List (Str × Int)} {es : List (Str × Span)} {fs : List (Str × Str)} {st : Dv} (hk : LineOk ks) (h : StOk ks es) (hf : FrOk ks fs) (hs : sem_starting_state [.dct (kvL ks), st] = some (.dct (kvS es))) :
    sem_known_after [.dct (kvL ks), encB fs, st] = some (.dct (kvS (sortE (runE ks es fs)))) := by
  unfold sem_known_after fs_known_after
  have l2 := hk.len2
  have e1 := l_check_frames hk hf
  have e2 := l_send_each hk h hf
  have ok := runE_ok hk (fs := fs) h hf.ok
  have nd := ok.nd hk
  have len := ok.len
  have hss : bSort [.dct (kvS (runE ks es fs))] = some (.lst ((srt leS ((runE ks es fs).map (·.1))).map Dv.str)) := by
    unfold bSort
    simp only [skeys_st, List.length_map]
    rw [if_pos (by omega)]
  walk_at "fdh"
  have lS : (srt leS ((runE ks es fs).map (·.1))).length ≤ 40 := by rw [(srt_perm leS _).length_eq, List.length_map]; omega
  rw [oDc_all (δ1 := [Sl.sh (.dct (kvL ks)), .sh (encB fs), .sh st, .sh (.dct (kvS (runE ks es fs))), .no]) (ds := (srt leS ((runE ks es fs).map (·.1))).map Dv.str) (fun d => d) (fun d => (keyOf d).getD (.inl 0)) (fun d => match d with | .str z => encS (spOf (runE ks es fs) z) | _ => .non) (by walk_at "fdh") (by rw [List.length_map]; omega)]
  · simp only [List.map_map, kvS, sortE]; rfl
  · intro d hd
    obtain ⟨z, hz, rfl⟩ := List.mem_map.mp hd
    have hz2 := ok.pm.mem_iff.mp ((srt_perm leS _).mem_iff.mp hz)
    have e3 := (spOf_look hk ok hz2).1
    refine ⟨[Sl.sh (.dct (kvL ks)), .sh (encB fs), .sh st, .sh (.dct (kvS (runE ks es fs))), .sh (.str z)], rfl, rfl, rfl, ?_, rfl⟩
    walk_at "fdh"
  · rw [List.map_map]
    have : ((fun d => (keyOf d).getD (.inl 0)) ∘ Dv.str) = Sum.inr := rfl
    rw [this]
    exact List.Pairwise.map _ (fun a b h e => h (Sum.inr.inj e)) ((srt_perm leS _).nodup_iff.mpr nd)
theorem l_quiet_plan {ks : List (Str × Int)} {es : List (Str × Span)} (hk : LineOk ks) (h : StOk ks es) : sem_quiet_plan [.dct (kvL ks), .dct (kvS es)] = some (.lst ((planE ks es).map encF)) := by
  obtain ⟨a, b, E⟩ := ends2 hk
  have e1 := l_lacking hk h
  have e2 := l_in_order hk
  obtain ⟨nmL, lL⟩ := lack_nm (es := es) hk
  have x0 : atI (((rk ks).map (·.2)).map Dv.str) 0 = some (.str (firstN ks)) := by rw [E.fn]; exact at_nat (k := 0) (by rw [List.getElem?_map, List.getElem?_map, E.h0]; rfl)
  have x1 : atI (((rk ks).map (·.2)).map Dv.str) (-1) = some (.str (lastN ks)) := by
    obtain ⟨rs, hb⟩ := E.hl
    rw [E.ln, hb, List.map_append, List.map_append]; exact at_last
  have hI := fun z (hz : z ∈ innerE ks es) => (innerE_mem hk hz).1
  have lI : (innerE ks es).length ≤ 40 := Nat.le_trans (List.length_filter_le _ _) lL
  have e3 := l_inner_plan hk h hI lI
  have i1 := inF_strs (firstN ks) (lackE ks es)
  have i2 := inF_strs (lastN ks) (lackE ks es)
  obtain ⟨P, hP⟩ : ∃ P, innerPlan ks es (innerE ks es) = P := ⟨_, rfl⟩
  have lP : P.length ≤ 200 := by
    rw [← hP]
    unfold innerPlan
    split
    · have : ∀ L : List Str, (L.flatMap (fteE ks es)).length ≤ 2 * L.length := fun L => by
        induction L with
        | nil => exact Nat.zero_le _
        | cons z L ih => rw [List.flatMap_cons, List.length_append, List.length_cons]; have := fteE_le ks es z; omega
      have := this (innerE ks es)
      omega
    · rename_i p rest _
      rw [List.length_append, List.length_map]
      have := List.length_filter_le (fun z => !decide (z = p.2)) (innerE ks es)
      have := fteE_le ks es p.2
      omega
  have ep : planE ks es = P ++ (if firstN ks ∈ lackE ks es then [(firstN ks, lastN ks)] else []) ++ (if lastN ks ∈ lackE ks es then [(lastN ks, firstN ks)] else []) := by rw [← hP]; rfl
  rw [ep]
  rw [hP] at e3
  unfold sem_quiet_plan fs_quiet_plan
  walk_at "fdh"
  rw [oLc_pure (fb := bName 8) (fun d => match d with | .str z => !(decide (z = firstN ks) || decide (z = lastN ks)) | _ => false) (fun d => d) (ds := (lackE ks es).map Dv.str) rfl (by rw [List.length_map]; omega) (fun d hd => by
    obtain ⟨z, hz, rfl⟩ := List.mem_map.mp hd
    have hz2 := notInF_two z (firstN ks) (lastN ks)
    refine ⟨_, rfl, ?_, fun _ => ?_, rfl⟩
    · walk_at "fdh"
    · walk_at "fdh")]
  have hff : (((lackE ks es).map Dv.str).filter (fun d => match d with | .str z => !(decide (z = firstN ks) || decide (z = lastN ks)) | _ => false)).map (fun d => d) = (innerE ks es).map Dv.str := by
    unfold innerE
    rw [List.filter_map, List.map_id']; rfl
  rw [hff]
  walk_at "fdh"
  rw [oDc_all (fb := bName 8) (ds := (innerE ks es).map Dv.str) (fun d => d) (fun d => (keyOf d).getD (.inl 0)) (fun d => match d with | .str z => .lst ((fteE ks es z).map encF) | _ => .non) rfl (by rw [List.length_map]; omega) (fun d hd => by
    obtain ⟨z, hz, rfl⟩ := List.mem_map.mp hd
    have e4 := l_frames_to_ends hk h (hI z hz)
    refine ⟨_, rfl, rfl, rfl, ?_, rfl⟩
    walk_at "fdh") (by
    rw [List.map_map]
    exact List.Pairwise.map _ (fun a b h e => h (Sum.inr.inj e)) (innerE_nd hk))]
  have hdd : (((innerE ks es).map Dv.str).map fun d => ((keyOf d).getD (.inl 0), (match d with | .str z => .lst ((fteE ks es z).map encF) | _ => Dv.non : Dv))) = (innerE ks es).map fun z => ((.inr z : Key), Dv.lst ((fteE ks es z).map encF)) := by rw [List.map_map]; rfl
  rw [hdd]
  have l1 : (P.map encF).length < 1000000 := by rw [List.length_map]; omega
  have l3 : ∀ x : Dv, (P.map encF ++ [x]).length < 1000000 := fun x => by rw [List.length_append, List.length_map, List.length_singleton]; omega
  clear hdd hff hI x0 x1 hP ep
  rw [List.map_append, List.map_append]
  by_cases c1 : firstN ks ∈ lackE ks es
  · rw [decide_eq_true c1] at i1
    simp only [if_pos c1]
    by_cases c2 : lastN ks ∈ lackE ks es
    · rw [decide_eq_true c2] at i2
      simp only [if_pos c2, List.map_cons, List.map_nil, encF]
      clear c1 c2
      walk_at "fdh"
    · rw [decide_eq_false c2] at i2
      simp only [if_neg c2, List.map_cons, List.map_nil, encF]
      clear c1 c2
      walk_at "fdh"
  · rw [decide_eq_false c1] at i1
    simp only [if_neg c1]
    by_cases c2 : lastN ks ∈ lackE ks es
    · rw [decide_eq_true c2] at i2
      simp only [if_pos c2, List.map_cons, List.map_nil, encF]
      clear c1 c2
      walk_at "fdh"
    · rw [decide_eq_false c2] at i2
      simp only [if_neg c2, List.map_cons, List.map_nil, encF]
      clear c1 c2
      walk_at "fdh"
theorem l_fewest_frames {ks : List (Str × Int)} {es : List (Str × Span)} (hk : LineOk ks) (h : StOk ks es) : sem_fewest_frames [.dct (kvL ks), .dct (kvS es)] = some (.int ((planE ks es).length : Int)) := by
  unfold sem_fewest_frames fs_fewest_frames
  have e := l_quiet_plan hk h
  have l : ((planE ks es).map encF).length = (planE ks es).length := List.length_map ..
  walk_at "fdh"
theorem st_sort {ks : List (Str × Int)} {A : List (Str × Span)} (hk : LineOk ks) (h : StOk ks A) : StOk (sortL ks) A := by
  have pk : ((sortL ks).map (·.1)).Perm (ks.map (·.1)) := (sortL_perm hk).map _
  have pp : ∀ i, i ∈ ks.map (·.2) → i ∈ (sortL ks).map (·.2) := fun i hi => ((sortL_perm hk).map (·.2)).mem_iff.mpr hi
  refine ⟨h.pm.trans pk.symm, fun p hp => ?_⟩
  have hs := h.ok p hp
  rw [sortL_pos hk (h.pm.mem_iff.mp (List.mem_map.mpr ⟨p, hp, rfl⟩))]
  cases u : p.2 with
  | none => exact True.intro
  | some w =>
    rw [u] at hs
    exact ⟨fun i e => ⟨pp i (hs.1 i e).1, (hs.1 i e).2⟩, fun i e => ⟨pp i (hs.2 i e).1, (hs.2 i e).2⟩⟩
theorem in_sort {ks : List (Str × Int)} (hk : LineOk ks) {z : Str} (h : z ∈ ks.map (·.1)) : z ∈ (sortL ks).map (·.1) := ((sortL_perm hk).map (·.1)).mem_iff.mpr h
theorem sil_sort {ks : List (Str × Int)} (hk : LineOk ks) : StOk ks (silE (sortL ks)) := by
  have h : StOk (sortL ks) (silE (sortL ks)) := silE_ok
  refine ⟨h.pm.trans ((sortL_perm hk).map _), fun p hp => ?_⟩
  have : p.2 = none := by
    unfold silE at hp
    obtain ⟨q, hq, rfl⟩ := List.mem_map.mp hp
    rfl
  rw [this]; exact True.intro
/-- network.send(sender, target) -/
theorem l_netSend {ks : List (Str × Int)} {A : List (Str × Span)} {s c : List Dv} {p : Str × Str} {u0 u1 u2 u6 u7 : Sl} (hk : LineOk ks) (h : StOk ks A) (h1 : p.1 ∈ ks.map (·.1)) (h2 : p.2 ∈ ks.map (·.1)) (ne : p.1 ≠ p.2) (hs : s.length < 1000000) (hc : c.length < 1000000) :
    (oMeth 3 "Network" "send" [(.i (.io "Network" FSn) (.io "Network" FSn)), .f, .f] sem_Network_send (uaE (fVar 4) (uaE (fVar 5) uaNil))) [u0, u1, u2, .on none (.io "Network" FSn) (.dct (netD (.dct (kvL (sortL ks))) (.dct (kvS A)) s c)), .sh (.str p.1), .sh (.str p.2), u6, u7] = some (.str (kindE ks A p), [u0, u1, u2, .on none (.io "Network" FSn) (.dct (netD (.dct (kvL (sortL ks))) (.dct (kvS (sendE ks A p))) (s ++ [encF p]) (c ++ [.tup [.int (s.length : Nat), .dct (kvS A)]]))), .sh (.str p.1), .sh (.str p.2), u6, u7]) := by
  have e3 := l_Network_send (s := s) (c := c) (sortL_ok hk) (st_sort hk h) (in_sort hk h1) (in_sort hk h2) ne hs hc
  rw [send_cong (sortL_pos hk h1) (sortL_pos hk h2), show kindE (sortL ks) A p = kindE ks A p from by unfold kindE; rw [sortL_pos hk h1]] at e3
  unfold oMeth oCallU
  rw [show hasM 3 "Network" "send" [u0, u1, u2, .on none (.io "Network" FSn) (.dct (netD (.dct (kvL (sortL ks))) (.dct (kvS A)) s c)), .sh (.str p.1), .sh (.str p.2), u6, u7] = true from rfl, if_pos rfl, show uaL 3 (uaE (fVar 4) (uaE (fVar 5) uaNil)) [u0, u1, u2, .on none (.io "Network" FSn) (.dct (netD (.dct (kvL (sortL ks))) (.dct (kvS A)) s c)), .sh (.str p.1), .sh (.str p.2), u6, u7] = some ([.al 3, .dv (.str p.1), .dv (.str p.2)], [u0, u1, u2, .on none (.io "Network" FSn) (.dct (netD (.dct (kvL (sortL ks))) (.dct (kvS A)) s c)), .sh (.str p.1), .sh (.str p.2), u6, u7]) from rfl]
  simp only
  rw [show takeU [(.i (.io "Network" FSn) (.io "Network" FSn)), .f, .f] [.al 3, .dv (.str p.1), .dv (.str p.2)] [u0, u1, u2, .on none (.io "Network" FSn) (.dct (netD (.dct (kvL (sortL ks))) (.dct (kvS A)) s c)), .sh (.str p.1), .sh (.str p.2), u6, u7] = some ([.dct (netD (.dct (kvL (sortL ks))) (.dct (kvS A)) s c), .str p.1, .str p.2], [some (3, none, .io "Network" FSn)], [u0, u1, u2, .no, .sh (.str p.1), .sh (.str p.2), u6, u7]) from rfl]
  simp only
  rw [e3]
  rfl
theorem l_netKnown {ks : List (Str × Int)} {A : List (Str × Span)} {s c : List Dv} {u0 u1 u2 v4 v5 u6 u7 : Sl} : (oPrp 3 "Network" [(.i (.io "Network" FSn) (.io "Network" FSn))] sem_Network_known) [u0, u1, u2, .on none (.io "Network" FSn) (.dct (netD (.dct (kvL (sortL ks))) (.dct (kvS A)) s c)), v4, v5, u6, u7] = some (.dct (kvS A), [u0, u1, u2, .on none (.io "Network" FSn) (.dct (netD (.dct (kvL (sortL ks))) (.dct (kvS A)) s c)), v4, v5, u6, u7]) := by
  unfold oPrp oCallU
  rw [show (ioSlot 3 "Network" [u0, u1, u2, .on none (.io "Network" FSn) (.dct (netD (.dct (kvL (sortL ks))) (.dct (kvS A)) s c)), v4, v5, u6, u7]).isSome = true from rfl, if_pos rfl, show uaL 3 uaNil [u0, u1, u2, .on none (.io "Network" FSn) (.dct (netD (.dct (kvL (sortL ks))) (.dct (kvS A)) s c)), v4, v5, u6, u7] = some ([.al 3], [u0, u1, u2, .on none (.io "Network" FSn) (.dct (netD (.dct (kvL (sortL ks))) (.dct (kvS A)) s c)), v4, v5, u6, u7]) from rfl]
  simp only
  rw [show takeU [(.i (.io "Network" FSn) (.io "Network" FSn))] [.al 3] [u0, u1, u2, .on none (.io "Network" FSn) (.dct (netD (.dct (kvL (sortL ks))) (.dct (kvS A)) s c)), v4, v5, u6, u7] = some ([.dct (netD (.dct (kvL (sortL ks))) (.dct (kvS A)) s c)], [some (3, none, .io "Network" FSn)], [u0, u1, u2, .no, v4, v5, u6, u7]) from rfl]
  simp only
  rw [l_Network_known]
  rfl
/-- frames that are sent one after the other -/
theorem l_netSends {ks : List (Str × Int)} {A : List (Str × Span)} {s c : List Dv} {gs : List (Str × Str)} {u0 u1 u2 v4 v5 u6 u7 : Sl} (hk : LineOk ks) (h : StOk ks A) (hg : FrIn ks gs) (lg : gs.length ≤ 400) (hs : s.length ≤ 1000) (hc : c.length ≤ 1000) :
    ∃ δ', fLoop (bTup 2 (bsCons (bName 4) (bsCons (bName 5) bsNil))) (sDrop (fZ (oMeth 3 "Network" "send" [(.i (.io "Network" FSn) (.io "Network" FSn)), .f, .f] sem_Network_send (uaE (fVar 4) (uaE (fVar 5) uaNil))))) (gs.map encF) [u0, u1, u2, .on none (.io "Network" FSn) (.dct (netD (.dct (kvL (sortL ks))) (.dct (kvS A)) s c)), v4, v5, u6, u7] = some (.nx, δ') ∧ ∃ (s' c' : List Dv) (v4 v5 : Sl), δ' = [u0, u1, u2, .on none (.io "Network" FSn) (.dct (netD (.dct (kvL (sortL ks))) (.dct (kvS (runE ks A gs))) s' c')), v4, v5, u6, u7] ∧ s'.length ≤ s.length + gs.length ∧ c'.length ≤ c.length + gs.length := by
  obtain ⟨δ', eL, hI⟩ := fLoop_inv2 (fb := bTup 2 (bsCons (bName 4) (bsCons (bName 5) bsNil))) (fs := (sDrop (fZ (oMeth 3 "Network" "send" [(.i (.io "Network" FSn) (.io "Network" FSn)), .f, .f] sem_Network_send (uaE (fVar 4) (uaE (fVar 5) uaNil)))))) (ds := gs.map encF) (δ := [u0, u1, u2, .on none (.io "Network" FSn) (.dct (netD (.dct (kvL (sortL ks))) (.dct (kvS A)) s c)), v4, v5, u6, u7])
    (fun i δ => ∃ (s' c' : List Dv) (v4 v5 : Sl), δ = [u0, u1, u2, .on none (.io "Network" FSn) (.dct (netD (.dct (kvL (sortL ks))) (.dct (kvS (runE ks A (gs.take i)))) s' c')), v4, v5, u6, u7] ∧ s'.length ≤ s.length + i ∧ c'.length ≤ c.length + i)
    ⟨s, c, _, _, rfl, by omega, by omega⟩ (by
    rintro i d δ hd ⟨s', c', v4, v5, rfl, ls, lc⟩
    rw [List.getElem?_map] at hd
    obtain ⟨p, hp, rfl⟩ := Option.map_eq_some_iff.mp hd
    have hi : i < gs.length := (List.getElem?_eq_some_iff.mp hp).1
    obtain ⟨h1, h2, ne⟩ := hg p (List.mem_of_getElem? hp)
    have hr := run_ok hk h (fs := gs.take i) (fun x hx => hg x (List.mem_of_mem_take hx))
    have e := l_netSend (s := s') (c := c') (u0 := u0) (u1 := u1) (u2 := u2) (u6 := u6) (u7 := u7) hk hr h1 h2 ne (by omega) (by omega)
    have et : runE ks A (gs.take (i + 1)) = sendE ks (runE ks A (gs.take i)) p := by rw [take_snoc hp, runE_snoc]
    refine ⟨[u0, u1, u2, .on none (.io "Network" FSn) (.dct (netD (.dct (kvL (sortL ks))) (.dct (kvS (runE ks A (gs.take i)))) s' c')), .sh (.str p.1), .sh (.str p.2), u6, u7], rfl, [u0, u1, u2, .on none (.io "Network" FSn) (.dct (netD (.dct (kvL (sortL ks))) (.dct (kvS (runE ks A (gs.take (i + 1))))) (s' ++ [encF p]) (c' ++ [.tup [.int (s'.length : Nat), .dct (kvS (runE ks A (gs.take i)))]]))), .sh (.str p.1), .sh (.str p.2), u6, u7], ?_, _, _, _, _, rfl, by rw [List.length_append, List.length_singleton]; omega, by rw [List.length_append, List.length_singleton]; omega⟩
    rw [et]
    unfold sDrop fZ
    rw [e])
  rw [List.length_map] at hI
  obtain ⟨s', c', w4, w5, rfl, ls, lc⟩ := hI
  rw [List.take_length] at eL
  exact ⟨_, eL, s', c', w4, w5, rfl, ls, lc⟩
theorem l__law_network_right {G : Sg} {ks : List (Str × Int)} {fs : List (Str × Str)} (hk : LineOk ks) (hf : FrOk ks fs) (lf : fs.length ≤ 200) (ok : SgOk G) (hn : G.n < 999000000) :
    ∃ G', sem__law_network_right (encG G) [.dct (kvL ks), encB fs] = some (.bl true, encG G') ∧ SgOk G' ∧ G'.n ≤ G.n + 1000 := by
  have h0 := sil_sort hk
  have ei := l_Network___init__ hk
  have s0 : (sAsgN 3 (.io "Network" FSn) (oMake 1 sem_Network___init__ (aCons (fVar 1) aNil))) [Sl.ow (some 0) (encG G), .sh (.dct (kvL ks)), .sh (.lst (fs.map encF)), .no, .no, .no, .no, .no] = some (.nx, [Sl.ow (some 0) (encG G), .sh (.dct (kvL ks)), .sh (.lst (fs.map encF)), .on none (.io "Network" FSn) (.dct (netD (.dct (kvL (sortL ks))) (.dct (kvS (silE (sortL ks)))) [] [])), .no, .no, .no, .no]) := by
    have q : oMake 1 sem_Network___init__ (aCons (fVar 1) aNil) [Sl.ow (some 0) (encG G), .sh (.dct (kvL ks)), .sh (.lst (fs.map encF)), .no, .no, .no, .no, .no] = some (.dct (netD (.dct (kvL (sortL ks))) (.dct (kvS (silE (sortL ks)))) [] []), [Sl.ow (some 0) (encG G), .sh (.dct (kvL ks)), .sh (.lst (fs.map encF)), .no, .no, .no, .no, .no]) := by
      unfold oMake
      rw [show aCons (fVar 1) aNil [Sl.ow (some 0) (encG G), .sh (.dct (kvL ks)), .sh (.lst (fs.map encF)), .no, .no, .no, .no, .no] = some ([.dv (.dct (kvL ks))], [Sl.ow (some 0) (encG G), .sh (.dct (kvL ks)), .sh (.lst (fs.map encF)), .no, .no, .no, .no, .no]) from rfl]
      simp only [rvData]
      rw [if_pos (show [Dv.dct (kvL ks)].length = 1 from rfl), ei]
    unfold sAsgN
    rw [q]
    rfl
  obtain ⟨δ1, eL1, s1, c1, w4, w5, rfl, ls1, lc1⟩ := l_netSends (s := []) (c := []) (gs := fs) (u0 := .ow (some 0) (encG G)) (u1 := .sh (.dct (kvL ks))) (u2 := .sh (.lst (fs.map encF))) (v4 := .no) (v5 := .no) (u6 := .no) (u7 := .no) hk h0 hf.ok (by omega) (by simp) (by simp)
  obtain ⟨A1, hA1⟩ : ∃ A, runE ks (silE (sortL ks)) fs = A := ⟨_, rfl⟩
  rw [hA1] at eL1
  have ok1 : StOk ks A1 := by rw [← hA1]; exact run_ok hk h0 hf.ok
  have s1' : (sFor (itL (fVar 2)) (bTup 2 (bsCons (bName 4) (bsCons (bName 5) bsNil))) (sDrop (fZ (oMeth 3 "Network" "send" [(.i (.io "Network" FSn) (.io "Network" FSn)), .f, .f] sem_Network_send (uaE (fVar 4) (uaE (fVar 5) uaNil)))))) [Sl.ow (some 0) (encG G), .sh (.dct (kvL ks)), .sh (.lst (fs.map encF)), .on none (.io "Network" FSn) (.dct (netD (.dct (kvL (sortL ks))) (.dct (kvS (silE (sortL ks)))) [] [])), .no, .no, .no, .no] = some (.nx, [Sl.ow (some 0) (encG G), .sh (.dct (kvL ks)), .sh (.lst (fs.map encF)), .on none (.io "Network" FSn) (.dct (netD (.dct (kvL (sortL ks))) (.dct (kvS A1)) s1 c1)), w4, w5, .no, .no]) := by
    unfold sFor
    rw [show (itL (fVar 2)) [Sl.ow (some 0) (encG G), .sh (.dct (kvL ks)), .sh (.lst (fs.map encF)), .on none (.io "Network" FSn) (.dct (netD (.dct (kvL (sortL ks))) (.dct (kvS (silE (sortL ks)))) [] [])), .no, .no, .no, .no] = some (fs.map encF, [Sl.ow (some 0) (encG G), .sh (.dct (kvL ks)), .sh (.lst (fs.map encF)), .on none (.io "Network" FSn) (.dct (netD (.dct (kvL (sortL ks))) (.dct (kvS (silE (sortL ks)))) [] [])), .no, .no, .no, .no]) from rfl]
    exact eL1
  have ep := l_quiet_plan hk ok1
  have hP := (plan_in hk ok1).1
  have qP := (plan_in hk ok1).2
  have pl := plan_len (es := A1) hk
  have kn1 := l_netKnown (ks := ks) (A := A1) (s := s1) (c := c1) (u0 := .ow (some 0) (encG G)) (u1 := .sh (.dct (kvL ks))) (u2 := .sh (.lst (fs.map encF))) (v4 := w4) (v5 := w5) (u6 := .no) (u7 := .no)
  have s2 : (sAsg (fZ (oCall sem_quiet_plan (ckLen 2 (aCons (fVar 1) (aCons (fZ (oPrp 3 "Network" [(.i (.io "Network" FSn) (.io "Network" FSn))] sem_Network_known)) aNil))))) (bName 6)) [Sl.ow (some 0) (encG G), .sh (.dct (kvL ks)), .sh (.lst (fs.map encF)), .on none (.io "Network" FSn) (.dct (netD (.dct (kvL (sortL ks))) (.dct (kvS A1)) s1 c1)), w4, w5, .no, .no] = some (.nx, [Sl.ow (some 0) (encG G), .sh (.dct (kvL ks)), .sh (.lst (fs.map encF)), .on none (.io "Network" FSn) (.dct (netD (.dct (kvL (sortL ks))) (.dct (kvS A1)) s1 c1)), w4, w5, .sh (.lst ((planE ks A1).map encF)), .no]) := by
    generalize netD (.dct (kvL (sortL ks))) (.dct (kvS A1)) s1 c1 = ND at kn1 ⊢
    generalize oPrp 3 _ _ _ = f at kn1 ⊢
    generalize (planE ks A1).map encF = PL at ep ⊢
    clear s0 s1' eL1 ei
    walk_at "fdh"
  have lsf : s1.length ≤ 200 := by simp at ls1; omega
  have lcf : c1.length ≤ 200 := by simp at lc1; omega
  obtain ⟨δ2, eL2, s2', c2', x4, x5, rfl, ls2, lc2⟩ := l_netSends (s := s1) (c := c1) (gs := planE ks A1) (u0 := .ow (some 0) (encG G)) (u1 := .sh (.dct (kvL ks))) (u2 := .sh (.lst (fs.map encF))) (v4 := w4) (v5 := w5) (u6 := .sh (.lst ((planE ks A1).map encF))) (u7 := .no) hk ok1 hP (by omega) (by omega) (by omega)
  obtain ⟨A2, hA2⟩ : ∃ A, runE ks A1 (planE ks A1) = A := ⟨_, rfl⟩
  rw [hA2] at eL2 qP
  have ok2 : StOk ks A2 := by rw [← hA2]; exact run_ok hk ok1 hP
  have s3 : (sFor (itL (fVar 6)) (bTup 2 (bsCons (bName 4) (bsCons (bName 5) bsNil))) (sDrop (fZ (oMeth 3 "Network" "send" [(.i (.io "Network" FSn) (.io "Network" FSn)), .f, .f] sem_Network_send (uaE (fVar 4) (uaE (fVar 5) uaNil)))))) [Sl.ow (some 0) (encG G), .sh (.dct (kvL ks)), .sh (.lst (fs.map encF)), .on none (.io "Network" FSn) (.dct (netD (.dct (kvL (sortL ks))) (.dct (kvS A1)) s1 c1)), w4, w5, .sh (.lst ((planE ks A1).map encF)), .no] = some (.nx, [Sl.ow (some 0) (encG G), .sh (.dct (kvL ks)), .sh (.lst (fs.map encF)), .on none (.io "Network" FSn) (.dct (netD (.dct (kvL (sortL ks))) (.dct (kvS A2)) s2' c2')), x4, x5, .sh (.lst ((planE ks A1).map encF)), .no]) := by
    unfold sFor
    rw [show (itL (fVar 6)) [Sl.ow (some 0) (encG G), .sh (.dct (kvL ks)), .sh (.lst (fs.map encF)), .on none (.io "Network" FSn) (.dct (netD (.dct (kvL (sortL ks))) (.dct (kvS A1)) s1 c1)), w4, w5, .sh (.lst ((planE ks A1).map encF)), .no] = some ((planE ks A1).map encF, [Sl.ow (some 0) (encG G), .sh (.dct (kvL ks)), .sh (.lst (fs.map encF)), .on none (.io "Network" FSn) (.dct (netD (.dct (kvL (sortL ks))) (.dct (kvS A1)) s1 c1)), w4, w5, .sh (.lst ((planE ks A1).map encF)), .no]) from rfl]
    exact eL2
  have hfr : FrOk ks (fs ++ planE ks A1) := ⟨by rw [List.length_append]; omega, fun p hp => by
    rcases List.mem_append.mp hp with q | q
    · exact hf.ok p q
    · exact hP p q⟩
  have kq := l_is_quiet hk ok2
  rw [decide_eq_true qP] at kq
  have ka := l_known_from hk silE_ok hfr (l_starting_none hk)
  have eA : sortE (runE ks (silE ks) (fs ++ planE ks A1)) = A2 := by
    have e2 : A2 = runE ks (silE (sortL ks)) (fs ++ planE ks A1) := by rw [runE_app, hA1, hA2]
    have sp : SpEq ks (silE ks) (silE (sortL ks)) := fun z hz => by
      rw [spOf_sil hk hz, spOf_sil (sortL_ok hk) (in_sort hk hz)]
    have sp2 := (SpEq.run hk silE_ok h0 sp hfr.ok).1
    rw [← e2] at sp2
    rw [SpEq.sort hk (run_ok hk silE_ok hfr.ok) ok2 sp2]
    refine sortE_id (ns := ks.map (·.1)) ?_ (ok2.nd hk)
    rw [e2, runE_keys]
    have : (silE (sortL ks)).map (·.1) = (sortL ks).map (·.1) := by unfold silE; rw [List.map_map]; rfl
    rw [this, sortL_keys]
  rw [eA, show encB (fs ++ planE ks A1) = .lst (fs.map encF ++ (planE ks A1).map encF) from congrArg Dv.lst List.map_append] at ka
  have kne : oNeX (.dct (kvS A2)) (.dct (kvS A2)) = some (.bl false) := ne_st rfl fun p hp => lookK_st hp (ok2.nd hk)
  have kn2 := l_netKnown (ks := ks) (A := A2) (s := s2') (c := c2') (u0 := .ow (some 0) (encG G)) (u1 := .sh (.dct (kvL ks))) (u2 := .sh (.lst (fs.map encF))) (v4 := x4) (v5 := x5) (u6 := .sh (.lst ((planE ks A1).map encF))) (u7 := .no)
  have lcat : (fs.map encF).length + ((planE ks A1).map encF).length ≤ 1000000 := by rw [List.length_map, List.length_map]; omega
  have s4 : (sIf (tstOr (tstNot (tstB (fCallP sem_is_quiet (ckLen 2 (aCons (fVar 1) (aCons (fZ (oPrp 3 "Network" [(.i (.io "Network" FSn) (.io "Network" FSn))] sem_Network_known)) aNil)))))) (tstB (fOp oNeX (fZ (oPrp 3 "Network" [(.i (.io "Network" FSn) (.io "Network" FSn))] sem_Network_known)) (fZ (oCall sem_known_after (ckLen 3 (aMore [.non] (aCons (fVar 1) (aCons (fZ (oOp oCat (fVar 2) (fVar 6))) aNil))))))))) (sRet (fC (.bl false))) sNext) [Sl.ow (some 0) (encG G), .sh (.dct (kvL ks)), .sh (.lst (fs.map encF)), .on none (.io "Network" FSn) (.dct (netD (.dct (kvL (sortL ks))) (.dct (kvS A2)) s2' c2')), x4, x5, .sh (.lst ((planE ks A1).map encF)), .no] = some (.nx, [Sl.ow (some 0) (encG G), .sh (.dct (kvL ks)), .sh (.lst (fs.map encF)), .on none (.io "Network" FSn) (.dct (netD (.dct (kvL (sortL ks))) (.dct (kvS A2)) s2' c2')), x4, x5, .sh (.lst ((planE ks A1).map encF)), .no]) := by
    generalize netD (.dct (kvL (sortL ks))) (.dct (kvS A2)) s2' c2' = ND at kn2 ⊢
    generalize oPrp 3 _ _ _ = f at kn2 ⊢
    generalize (planE ks A1).map encF = PL at ka kn2 lcat ⊢
    generalize fs.map encF = FL at ka kn2 lcat ⊢
    generalize kvS A2 = SA at kq ka kne kn2
    clear s0 s1' s2 s3 eL1 eL2 ei ep kn1
    walk_at "fdh"
  obtain ⟨gs, G', f1, hg, lg, _, ok', n'⟩ := l__law_frames (many := 5) hk ok (by omega) (by omega) (by omega)
  rw [show encB gs = .lst (gs.map encF) from rfl] at f1
  have s5 : (sAsg (fZ (oCallU [(.i .fl .fl), .f, .f] sem__law_frames (uaE (fVar 0) (uaE (fVar 1) (uaE (fC (.int 5)) uaNil))))) (bName 7)) [Sl.ow (some 0) (encG G), .sh (.dct (kvL ks)), .sh (.lst (fs.map encF)), .on none (.io "Network" FSn) (.dct (netD (.dct (kvL (sortL ks))) (.dct (kvS A2)) s2' c2')), x4, x5, .sh (.lst ((planE ks A1).map encF)), .no] = some (.nx, [Sl.ow (some 0) (encG G'), .sh (.dct (kvL ks)), .sh (.lst (fs.map encF)), .on none (.io "Network" FSn) (.dct (netD (.dct (kvL (sortL ks))) (.dct (kvS A2)) s2' c2')), x4, x5, .sh (.lst ((planE ks A1).map encF)), .sh (.lst (gs.map encF))]) := by
    generalize netD (.dct (kvL (sortL ks))) (.dct (kvS A2)) s2' c2' = ND
    generalize (planE ks A1).map encF = PL
    generalize fs.map encF = FL
    clear s0 s1' s2 s3 s4 eL1 eL2 ei ep kn1 kn2 ka kq kne
    walk_at "fdh"
  have lgs : gs.length ≤ 5 := by omega
  obtain ⟨ys, δ3, eC, v7, s3', c3', B, rfl, rfl, okB, qB, lsB, lcB⟩ := oLc_inv (fi := (itL (fVar 7))) (fb := (bTup 2 (bsCons (bName 4) (bsCons (bName 5) bsNil)))) (fe := (fZ (oMeth 3 "Network" "send" [(.i (.io "Network" FSn) (.io "Network" FSn)), .f, .f] sem_Network_send (uaE (fVar 4) (uaE (fVar 5) uaNil))))) (vs := [4, 5]) (δ := [Sl.ow (some 0) (encG G'), .sh (.dct (kvL ks)), .sh (.lst (fs.map encF)), .on none (.io "Network" FSn) (.dct (netD (.dct (kvL (sortL ks))) (.dct (kvS A2)) s2' c2')), x4, x5, .sh (.lst ((planE ks A1).map encF)), .sh (.lst (gs.map encF))]) (δ1 := [Sl.ow (some 0) (encG G'), .sh (.dct (kvL ks)), .sh (.lst (fs.map encF)), .on none (.io "Network" FSn) (.dct (netD (.dct (kvL (sortL ks))) (.dct (kvS A2)) s2' c2')), x4, x5, .sh (.lst ((planE ks A1).map encF)), .sh (.lst (gs.map encF))]) (ds := gs.map encF)
    (fun i ys δ => ∃ (v : Sl × Sl) (s3' c3' : List Dv) (B : List (Str × Span)), δ = [Sl.ow (some 0) (encG G'), .sh (.dct (kvL ks)), .sh (.lst (fs.map encF)), .on none (.io "Network" FSn) (.dct (netD (.dct (kvL (sortL ks))) (.dct (kvS B)) s3' c3')), v.1, v.2, .sh (.lst ((planE ks A1).map encF)), .sh (.lst (gs.map encF))] ∧ ys = (List.replicate i (Str.ofString "direct")).map Dv.str ∧ StOk ks B ∧ lackE ks B = [] ∧ s3'.length ≤ 500 + i ∧ c3'.length ≤ 500 + i)
    rfl (by rw [List.length_map]; omega) ⟨(x4, x5), s2', c2', A2, rfl, rfl, ok2, qP, by omega, by omega⟩ (by
    rintro i d ys δ hd ⟨v, s3', c3', B, rfl, rfl, okB, qB, lsB, lcB⟩
    rw [List.getElem?_map] at hd
    obtain ⟨p, hp, rfl⟩ := Option.map_eq_some_iff.mp hd
    have hi : i < gs.length := (List.getElem?_eq_some_iff.mp hp).1
    obtain ⟨h1, h2, ne⟩ := hg.ok p (List.mem_of_getElem? hp)
    have e := l_netSend (s := s3') (c := c3') (u0 := .ow (some 0) (encG G')) (u1 := .sh (.dct (kvL ks))) (u2 := .sh (.lst (fs.map encF))) (u6 := .sh (.lst ((planE ks A1).map encF))) (u7 := .sh (.lst (gs.map encF))) hk okB h1 h2 ne (by omega) (by omega)
    rw [quiet_kind hk okB qB h1 h2 ne] at e
    have okS := sendE_ok hk okB h1 h2
    refine ⟨[Sl.ow (some 0) (encG G'), .sh (.dct (kvL ks)), .sh (.lst (fs.map encF)), .on none (.io "Network" FSn) (.dct (netD (.dct (kvL (sortL ks))) (.dct (kvS B)) s3' c3')), .sh (.str p.1), .sh (.str p.2), .sh (.lst ((planE ks A1).map encF)), .sh (.lst (gs.map encF))], .str (Str.ofString "direct"), [Sl.ow (some 0) (encG G'), .sh (.dct (kvL ks)), .sh (.lst (fs.map encF)), .on none (.io "Network" FSn) (.dct (netD (.dct (kvL (sortL ks))) (.dct (kvS (sendE ks B p))) (s3' ++ [encF p]) (c3' ++ [.tup [.int (s3'.length : Nat), .dct (kvS B)]]))), .sh (.str p.1), .sh (.str p.2), .sh (.lst ((planE ks A1).map encF)), .sh (.lst (gs.map encF))], rfl, ?_, (.sh (.str p.1), .sh (.str p.2)), _, _, _, rfl, ?_, okS, quiet_le hk okB okS (SpLe.send hk okB h1) qB, by rw [List.length_append, List.length_singleton]; omega, by rw [List.length_append, List.length_singleton]; omega⟩
    · unfold fZ
      rw [e]
    · rw [List.replicate_succ', List.map_append]; rfl)
  have kr := rep_str (Str.ofString "direct") gs.length (by omega)
  have kE := eqL_refl (shp_strs (ns := List.replicate gs.length (Str.ofString "direct")) fun z hz => by rw [(List.mem_replicate.mp hz).2]; exact nm_direct)
  have lM : ((gs.map encF).length : Nat) = gs.length := List.length_map ..
  rw [← lM] at kr kE
  have s6 : ∃ δ', (sRet (fOp oEqX (fZ (oLc (itL (fVar 7)) (bTup 2 (bsCons (bName 4) (bsCons (bName 5) bsNil))) tstYes (fZ (oMeth 3 "Network" "send" [(.i (.io "Network" FSn) (.io "Network" FSn)), .f, .f] sem_Network_send (uaE (fVar 4) (uaE (fVar 5) uaNil)))) [4, 5])) (fZ (oOp oRep (fZ (oLst (aCons (fC (.str "direct")) aNil))) (fCB bLen (aCons (fVar 7) aNil)))))) [Sl.ow (some 0) (encG G'), .sh (.dct (kvL ks)), .sh (.lst (fs.map encF)), .on none (.io "Network" FSn) (.dct (netD (.dct (kvL (sortL ks))) (.dct (kvS A2)) s2' c2')), x4, x5, .sh (.lst ((planE ks A1).map encF)), .sh (.lst (gs.map encF))] = some (.rt (.bl true), δ') ∧ δ'[0]? = some (.ow (some 0) (encG G')) := by
    refine ⟨wipeD [Sl.ow (some 0) (encG G'), .sh (.dct (kvL ks)), .sh (.lst (fs.map encF)), .on none (.io "Network" FSn) (.dct (netD (.dct (kvL (sortL ks))) (.dct (kvS B)) s3' c3')), v7.1, v7.2, .sh (.lst ((planE ks A1).map encF)), .sh (.lst (gs.map encF))] [4, 5], ?_, rfl⟩
    generalize netD (.dct (kvL (sortL ks))) (.dct (kvS A2)) s2' c2' = ND at eC ⊢
    generalize netD (.dct (kvL (sortL ks))) (.dct (kvS B)) s3' c3' = NB at eC ⊢
    generalize oLc _ _ _ _ _ = f at eC ⊢
    generalize gs.map encF = GL at eC kr kE ⊢
    generalize (planE ks A1).map encF = PL at eC ⊢
    generalize fs.map encF = FL at eC ⊢
    generalize (List.replicate GL.length (Str.ofString "direct")).map Dv.str = DR at eC kr kE
    clear s0 s1' s2 s3 s4 s5 eL1 eL2 ei ep kn1 kn2 ka kq kne f1 lcat
    walk_at "fdh"
  obtain ⟨δ', s6, e0⟩ := s6
  have go : fs__law_network_right [Sl.ow (some 0) (encG G), .sh (.dct (kvL ks)), .sh (.lst (fs.map encF)), .no, .no, .no, .no, .no] = some (.rt (.bl true), δ') := (seq_nx s0).trans ((seq_nx s1').trans ((seq_nx s2).trans ((seq_nx s3).trans ((seq_nx s4).trans ((seq_nx s5).trans s6)))))
  refine ⟨G', ?_, ok', by omega⟩
  unfold sem__law_network_right semM
  rw [show envM 0 (encG G) [.dct (kvL ks), encB fs] 5 = [Sl.ow (some 0) (encG G), .sh (.dct (kvL ks)), .sh (.lst (fs.map encF)), .no, .no, .no, .no, .no] from rfl, go]
  simp only [e0]
theorem ne_blB (b : Bool) : oNeX (.bl b) (.bl b) = some (.bl false) := by cases b <;> rfl
theorem eq_strN {xs : List Str} (h : ∀ z ∈ xs, nmStr z = true) : oEqX (.lst (xs.map Dv.str)) (.lst []) = some (.bl (decide (xs = []))) := eq_strs h (ys := []) (fun _ q => nomatch q)
theorem known_one {ks : List (Str × Int)} {A : List (Str × Span)} {p : Str × Str} (hk : LineOk ks) (ha : StOk ks A) (h1 : p.1 ∈ ks.map (·.1)) (h2 : p.2 ∈ ks.map (·.1)) (ne : p.1 ≠ p.2) : sem_known_after [.dct (kvL ks), .lst [encF p], .dct (kvS A)] = some (.dct (kvS (sortE (sendE ks A p)))) :=
  l_known_from (fs := [p]) hk ha ⟨by simp, fun q hq => by rw [List.mem_singleton.mp hq]; exact ⟨h1, h2, ne⟩⟩ (l_starting_some hk ha)
/-- one frame of the plan, and any other in its place -/
theorem l_planTurn {G : Sg} {ks : List (Str × Int)} {es A : List (Str × Span)} {p : Str × Str} {fs : List (Str × Str)} {i : Nat} {v8 v9 v10 : Sl} (hk : LineOk ks) (ok : SgOk G) (hn : G.n < 999990000) (hl : Left ks A (p :: fs)) (hi : i + (fs.length + 1) = (planE ks es).length) :
    ∃ δ2, (sSeq (sFor (itL (fZ (oCallU [(.i .fl .fl), .f, .f] sem__law_frames (uaE (fVar 0) (uaE (fVar 1) (uaE (fCB bInt1 (aCons (fOp oEqX (fOp oMod (fVar 6) (fC (.int 4))) (fC (.int 0))) aNil)) uaNil)))))) (bName 8) (sIf (tstB (fOp oLt (fCallP sem_fewest_frames (ckLen 2 (aCons (fVar 1) (aCons (fZ (oCall sem_known_after (ckLen 3 (aAppN 2 1 (aCons (fVar 1) (aCons (fZ (oLst (aCons (fVar 8) aNil))) aNil)) (aCons (fVar 5) aNil))))) aNil)))) (fOp oSub (fOp oSub (fVar 4) (fVar 6)) (fC (.int 1))))) (sRet (fC (.bl false))) sNext)) (sSeq (sAsg (fZ (oCall sem_known_after (ckLen 3 (aAppN 2 1 (aCons (fVar 1) (aCons (fZ (oLst (aCons (fVar 7) aNil))) aNil)) (aCons (fVar 5) aNil))))) (bName 5)) (sIf (tstB (fOp oNeX (fCallP sem_fewest_frames (ckLen 2 (aCons (fVar 1) (aCons (fVar 5) aNil)))) (fOp oSub (fOp oSub (fVar 4) (fVar 6)) (fC (.int 1))))) (sRet (fC (.bl false))) sNext))) [Sl.ow (some 0) (encG G), .sh (.dct (kvL ks)), .sh (.dct (kvS es)), .sh (.lst ((planE ks es).map encF)), .sh (.int ((planE ks es).length : Int)), .sh (.dct (kvS A)), .sh (.int (i : Int)), .sh (encF p), v8, v9, v10] = some (.nx, δ2) ∧ ∃ (G' : Sg) (v8 : Sl), δ2 = [Sl.ow (some 0) (encG G'), .sh (.dct (kvL ks)), .sh (.dct (kvS es)), .sh (.lst ((planE ks es).map encF)), .sh (.int ((planE ks es).length : Int)), .sh (.dct (kvS (sortE (sendE ks A p)))), .sh (.int (i : Int)), .sh (encF p), v8, v9, v10] ∧ SgOk G' ∧ G'.n ≤ G.n + 1000 := by
  have ha := hl.1
  obtain ⟨h1, h2, ne⟩ := hl.2.1 p List.mem_cons_self
  have hm : oMod (.int (i : Int)) (.int 4) = some (.int ((i : Int) % 4)) := oMod_ok (by decide)
  obtain ⟨c, hc, c0, c1⟩ : ∃ c : Int, bInt1 [.bl (decide ((i : Int) % 4 = 0))] = some (.int c) ∧ 0 ≤ c ∧ c ≤ 1 := by
    cases decide ((i : Int) % 4 = 0)
    · exact ⟨0, rfl, by omega, by omega⟩
    · exact ⟨1, rfl, by omega, by omega⟩
  obtain ⟨gs, G', e1, hg, lg, _, ok', n'⟩ := l__law_frames (many := c) hk ok c0 (by omega) hn
  have eg : encB gs = .lst (gs.map encF) := rfl
  rw [eg] at e1
  refine sSeq_ex (fun δ => ∃ v8, δ = [Sl.ow (some 0) (encG G'), .sh (.dct (kvL ks)), .sh (.dct (kvS es)), .sh (.lst ((planE ks es).map encF)), .sh (.int ((planE ks es).length : Int)), .sh (.dct (kvS A)), .sh (.int (i : Int)), .sh (encF p), v8, v9, v10]) ?_ ?_
  · have eI : (itL (fZ (oCallU [(.i .fl .fl), .f, .f] sem__law_frames (uaE (fVar 0) (uaE (fVar 1) (uaE (fCB bInt1 (aCons (fOp oEqX (fOp oMod (fVar 6) (fC (.int 4))) (fC (.int 0))) aNil)) uaNil)))))) [Sl.ow (some 0) (encG G), .sh (.dct (kvL ks)), .sh (.dct (kvS es)), .sh (.lst ((planE ks es).map encF)), .sh (.int ((planE ks es).length : Int)), .sh (.dct (kvS A)), .sh (.int (i : Int)), .sh (encF p), v8, v9, v10] = some (gs.map encF, [Sl.ow (some 0) (encG G'), .sh (.dct (kvL ks)), .sh (.dct (kvS es)), .sh (.lst ((planE ks es).map encF)), .sh (.int ((planE ks es).length : Int)), .sh (.dct (kvS A)), .sh (.int (i : Int)), .sh (encF p), v8, v9, v10]) := by
      unfold bInt1 at hc
      generalize kvS A = SA
      generalize (planE ks es).map encF = PL
      clear lg hg hl
      walk_at "fdh"
    unfold sFor
    rw [eI]
    simp only
    refine (fLoop_inv2 (fun _ δ => ∃ v8, δ = [Sl.ow (some 0) (encG G'), .sh (.dct (kvL ks)), .sh (.dct (kvS es)), .sh (.lst ((planE ks es).map encF)), .sh (.int ((planE ks es).length : Int)), .sh (.dct (kvS A)), .sh (.int (i : Int)), .sh (encF p), v8, v9, v10]) ⟨_, rfl⟩ ?_).imp fun δ h => ⟨h.1, h.2⟩
    rintro j d δ hd ⟨w8, rfl⟩
    rw [List.getElem?_map] at hd
    obtain ⟨o, ho, rfl⟩ := Option.map_eq_some_iff.mp hd
    obtain ⟨o1, o2, one⟩ := hg.ok o (List.mem_of_getElem? ho)
    have hso := sendE_ok hk ha o1 o2
    have k1 := known_one hk ha o1 o2 one
    have k2 := l_fewest_frames hk (sortE_ok hk hso)
    have k3 := left_other hk hl o1 o2 one
    rw [List.length_cons] at k3
    have k4 : decide (((planE ks (sortE (sendE ks A o))).length : Int) < ((planE ks es).length : Int) - (i : Int) - 1) = false := decide_eq_false (by omega)
    refine ⟨[Sl.ow (some 0) (encG G'), .sh (.dct (kvL ks)), .sh (.dct (kvS es)), .sh (.lst ((planE ks es).map encF)), .sh (.int ((planE ks es).length : Int)), .sh (.dct (kvS A)), .sh (.int (i : Int)), .sh (encF p), .sh (encF o), v9, v10], rfl, [Sl.ow (some 0) (encG G'), .sh (.dct (kvL ks)), .sh (.dct (kvS es)), .sh (.lst ((planE ks es).map encF)), .sh (.int ((planE ks es).length : Int)), .sh (.dct (kvS A)), .sh (.int (i : Int)), .sh (encF p), .sh (encF o), v9, v10], ?_, _, rfl⟩
    generalize kvS (sortE (sendE ks A o)) = S2 at k1 k2
    generalize kvS A = SA at k1 ⊢
    generalize (planE ks es).map encF = PL
    generalize ((planE ks (sortE (sendE ks A o))).length : Int) = n1 at k2 k4
    clear lg hg hl hm hc e1 eI ho hd k3 hi
    walk_at "fdh"
  rintro δ ⟨v8, rfl⟩
  have hs := sendE_ok hk ha h1 h2
  have hl' := left_send hk hl
  have k1 := known_one hk ha h1 h2 ne
  have k2 := l_fewest_frames hk (sortE_ok hk hs)
  rw [far_plan hk, hl'.2.2.1] at k2
  have k4 : oNeX (.int (fs.length : Int)) (.int (((planE ks es).length : Int) - (i : Int) - 1)) = some (.bl false) := by
    rw [show ((planE ks es).length : Int) - (i : Int) - 1 = (fs.length : Int) from by omega, ne_ii]; simp
  refine ⟨[Sl.ow (some 0) (encG G'), .sh (.dct (kvL ks)), .sh (.dct (kvS es)), .sh (.lst ((planE ks es).map encF)), .sh (.int ((planE ks es).length : Int)), .sh (.dct (kvS (sortE (sendE ks A p)))), .sh (.int (i : Int)), .sh (encF p), v8, v9, v10], ?_, G', v8, rfl, ok', n'⟩
  generalize kvS (sortE (sendE ks A p)) = S2 at k1 k2 ⊢
  generalize kvS A = SA at k1 ⊢
  generalize (planE ks es).map encF = PL
  generalize encF p = ep at k1 ⊢
  clear lg hg hl hm hc e1 hi hl'
  walk_at "fdh"
theorem l__law_plan_right {G : Sg} {ks : List (Str × Int)} {es : List (Str × Span)} (hk : LineOk ks) (h : StOk ks es) (ok : SgOk G) (hn : G.n < 999000000) :
    ∃ G', sem__law_plan_right (encG G) [.dct (kvL ks), .dct (kvS es)] = some (.bl true, encG G') ∧ SgOk G' ∧ G'.n ≤ G.n + 100000 := by
  have e1 := l_quiet_plan hk h
  have e2 := l_fewest_frames hk h
  have e3 := l_is_quiet hk h
  have e4 := l_lacking hk h
  have pl := plan_len (es := es) hk
  have hq : decide (((planE ks es).length : Int) = 0) = decide (lackE ks es = []) := decide_eq_decide.mpr (by rw [far_plan hk]; exact (quiet_far hk).symm)
  have s0 : (sPar 3 4 (aCons (fZ (oCall sem_quiet_plan (ckLen 2 (aCons (fVar 1) (aCons (fVar 2) aNil))))) (aCons (fCallP sem_fewest_frames (ckLen 2 (aCons (fVar 1) (aCons (fVar 2) aNil)))) aNil))) [Sl.ow (some 0) (encG G), .sh (.dct (kvL ks)), .sh (.dct (kvS es)), .no, .no, .no, .no, .no, .no, .no, .no] = some (.nx, [Sl.ow (some 0) (encG G), .sh (.dct (kvL ks)), .sh (.dct (kvS es)), .sh (.lst ((planE ks es).map encF)), .sh (.int ((planE ks es).length : Int)), .no, .no, .no, .no, .no, .no]) := by
    clear e3 e4 hq pl
    walk_at "fdh"
  have s1 : (sIf (tstOr (tstB (fOp oNeX (fCB bLen (aCons (fVar 3) aNil)) (fVar 4))) (tstOr (tstB (fOp oNeX (fOp oEqX (fVar 4) (fC (.int 0))) (fCallP sem_is_quiet (ckLen 2 (aCons (fVar 1) (aCons (fVar 2) aNil)))))) (tstB (fOp oNeX (fOp oEqX (fVar 4) (fC (.int 0))) (fOp oEqX (fZ (oCall sem_lacking (ckLen 2 (aCons (fVar 1) (aCons (fVar 2) aNil))))) (fZ (oLst aNil))))))) (sRet (fC (.bl false))) sNext) [Sl.ow (some 0) (encG G), .sh (.dct (kvL ks)), .sh (.dct (kvS es)), .sh (.lst ((planE ks es).map encF)), .sh (.int ((planE ks es).length : Int)), .no, .no, .no, .no, .no, .no] = some (.nx, [Sl.ow (some 0) (encG G), .sh (.dct (kvL ks)), .sh (.dct (kvS es)), .sh (.lst ((planE ks es).map encF)), .sh (.int ((planE ks es).length : Int)), .no, .no, .no, .no, .no, .no]) := by
    have c1 : oNeX (.int (((planE ks es).map encF).length : Nat)) (.int ((planE ks es).length : Int)) = some (.bl false) := by rw [List.length_map, ne_ii]; simp
    have c2 := ne_blB (decide (lackE ks es = []))
    have c3 := eq_strN (lack_nm (es := es) hk).1
    generalize decide (lackE ks es = []) = bb at c2 c3 hq e3
    generalize (lackE ks es).map Dv.str = LL at c3 e4
    generalize ((planE ks es).length : Int) = n at c1 hq ⊢
    generalize (planE ks es).map encF = PL at c1 ⊢
    clear e1 e2 s0 pl
    walk_at "fdh"
  have s2 : (sAsg (fVar 2) (bName 5)) [Sl.ow (some 0) (encG G), .sh (.dct (kvL ks)), .sh (.dct (kvS es)), .sh (.lst ((planE ks es).map encF)), .sh (.int ((planE ks es).length : Int)), .no, .no, .no, .no, .no, .no] = some (.nx, [Sl.ow (some 0) (encG G), .sh (.dct (kvL ks)), .sh (.dct (kvS es)), .sh (.lst ((planE ks es).map encF)), .sh (.int ((planE ks es).length : Int)), .sh (.dct (kvS es)), .no, .no, .no, .no, .no]) := by
    clear e1 e2 e3 e4 hq s0 s1 pl
    walk_at "fdh"
  obtain ⟨δ', eL, hI⟩ := fLoop_inv2 (fb := bTup 2 (bsCons (bName 6) (bsCons (bName 7) bsNil))) (fs := (sSeq (sFor (itL (fZ (oCallU [(.i .fl .fl), .f, .f] sem__law_frames (uaE (fVar 0) (uaE (fVar 1) (uaE (fCB bInt1 (aCons (fOp oEqX (fOp oMod (fVar 6) (fC (.int 4))) (fC (.int 0))) aNil)) uaNil)))))) (bName 8) (sIf (tstB (fOp oLt (fCallP sem_fewest_frames (ckLen 2 (aCons (fVar 1) (aCons (fZ (oCall sem_known_after (ckLen 3 (aAppN 2 1 (aCons (fVar 1) (aCons (fZ (oLst (aCons (fVar 8) aNil))) aNil)) (aCons (fVar 5) aNil))))) aNil)))) (fOp oSub (fOp oSub (fVar 4) (fVar 6)) (fC (.int 1))))) (sRet (fC (.bl false))) sNext)) (sSeq (sAsg (fZ (oCall sem_known_after (ckLen 3 (aAppN 2 1 (aCons (fVar 1) (aCons (fZ (oLst (aCons (fVar 7) aNil))) aNil)) (aCons (fVar 5) aNil))))) (bName 5)) (sIf (tstB (fOp oNeX (fCallP sem_fewest_frames (ckLen 2 (aCons (fVar 1) (aCons (fVar 5) aNil)))) (fOp oSub (fOp oSub (fVar 4) (fVar 6)) (fC (.int 1))))) (sRet (fC (.bl false))) sNext)))) (ds := enumD ((planE ks es).map encF)) (δ := [Sl.ow (some 0) (encG G), .sh (.dct (kvL ks)), .sh (.dct (kvS es)), .sh (.lst ((planE ks es).map encF)), .sh (.int ((planE ks es).length : Int)), .sh (.dct (kvS es)), .no, .no, .no, .no, .no])
    (fun i δ => ∃ (G' : Sg) (A : List (Str × Span)) (v6 v7 v8 : Sl), δ = [Sl.ow (some 0) (encG G'), .sh (.dct (kvL ks)), .sh (.dct (kvS es)), .sh (.lst ((planE ks es).map encF)), .sh (.int ((planE ks es).length : Int)), .sh (.dct (kvS A)), v6, v7, v8, .no, .no] ∧ Left ks A ((planE ks es).drop i) ∧ SgOk G' ∧ G'.n ≤ G.n + 1000 * i)
    ⟨G, es, _, _, _, rfl, by rw [List.drop_zero]; exact left_plan hk h, ok, by omega⟩ (by
    rintro i d δ hd ⟨G', A, v6, v7, v8, rfl, hl, ok', n'⟩
    unfold enumD at hd
    rw [List.getElem?_map, List.getElem?_zipIdx, List.getElem?_map] at hd
    cases hp : (planE ks es)[i]? with
    | none => rw [hp] at hd; cases hd
    | some p =>
      rw [hp] at hd
      have hd : some (Dv.tup [.int ((0 + i : Nat) : Int), encF p]) = some d := hd
      rw [Nat.zero_add] at hd
      cases hd
      have hi : i < (planE ks es).length := (List.getElem?_eq_some_iff.mp hp).1
      have ed : (planE ks es).drop i = p :: (planE ks es).drop (i + 1) := by
        rw [List.drop_eq_getElem_cons hi, (List.getElem?_eq_some_iff.mp hp).2]
      rw [ed] at hl
      obtain ⟨δ2, e, G2, w8, rfl, ok2, n2⟩ := l_planTurn (G := G') (es := es) (i := i) (v8 := v8) (v9 := .no) (v10 := .no) hk ok' (by omega) hl (by rw [List.length_drop]; omega)
      exact ⟨[Sl.ow (some 0) (encG G'), .sh (.dct (kvL ks)), .sh (.dct (kvS es)), .sh (.lst ((planE ks es).map encF)), .sh (.int ((planE ks es).length : Int)), .sh (.dct (kvS A)), .sh (.int (i : Int)), .sh (encF p), v8, .no, .no], rfl, _, e, G2, sortE (sendE ks A p), _, _, _, rfl, left_send hk hl, ok2, by omega⟩)
  have lE : (enumD ((planE ks es).map encF)).length = (planE ks es).length := by unfold enumD; rw [List.length_map, List.length_zipIdx, List.length_map]
  rw [lE] at hI
  obtain ⟨G1, A, v6, v7, v8, rfl, hl, ok1, n1⟩ := hI
  rw [List.drop_length] at hl
  have hA := hl.1
  have qA := left_nil hk hl
  have s3 : (sFor (itE (aCons (fVar 3) aNil)) (bTup 2 (bsCons (bName 6) (bsCons (bName 7) bsNil))) (sSeq (sFor (itL (fZ (oCallU [(.i .fl .fl), .f, .f] sem__law_frames (uaE (fVar 0) (uaE (fVar 1) (uaE (fCB bInt1 (aCons (fOp oEqX (fOp oMod (fVar 6) (fC (.int 4))) (fC (.int 0))) aNil)) uaNil)))))) (bName 8) (sIf (tstB (fOp oLt (fCallP sem_fewest_frames (ckLen 2 (aCons (fVar 1) (aCons (fZ (oCall sem_known_after (ckLen 3 (aAppN 2 1 (aCons (fVar 1) (aCons (fZ (oLst (aCons (fVar 8) aNil))) aNil)) (aCons (fVar 5) aNil))))) aNil)))) (fOp oSub (fOp oSub (fVar 4) (fVar 6)) (fC (.int 1))))) (sRet (fC (.bl false))) sNext)) (sSeq (sAsg (fZ (oCall sem_known_after (ckLen 3 (aAppN 2 1 (aCons (fVar 1) (aCons (fZ (oLst (aCons (fVar 7) aNil))) aNil)) (aCons (fVar 5) aNil))))) (bName 5)) (sIf (tstB (fOp oNeX (fCallP sem_fewest_frames (ckLen 2 (aCons (fVar 1) (aCons (fVar 5) aNil)))) (fOp oSub (fOp oSub (fVar 4) (fVar 6)) (fC (.int 1))))) (sRet (fC (.bl false))) sNext)))) [Sl.ow (some 0) (encG G), .sh (.dct (kvL ks)), .sh (.dct (kvS es)), .sh (.lst ((planE ks es).map encF)), .sh (.int ((planE ks es).length : Int)), .sh (.dct (kvS es)), .no, .no, .no, .no, .no] = some (.nx, [Sl.ow (some 0) (encG G1), .sh (.dct (kvL ks)), .sh (.dct (kvS es)), .sh (.lst ((planE ks es).map encF)), .sh (.int ((planE ks es).length : Int)), .sh (.dct (kvS A)), v6, v7, v8, .no, .no]) := by
    have eI : (itE (aCons (fVar 3) aNil)) [Sl.ow (some 0) (encG G), .sh (.dct (kvL ks)), .sh (.dct (kvS es)), .sh (.lst ((planE ks es).map encF)), .sh (.int ((planE ks es).length : Int)), .sh (.dct (kvS es)), .no, .no, .no, .no, .no] = some (enumD ((planE ks es).map encF), [Sl.ow (some 0) (encG G), .sh (.dct (kvL ks)), .sh (.dct (kvS es)), .sh (.lst ((planE ks es).map encF)), .sh (.int ((planE ks es).length : Int)), .sh (.dct (kvS es)), .no, .no, .no, .no, .no]) := rfl
    unfold sFor
    rw [eI]
    exact eL
  obtain ⟨gs, G2, f1, hg, lg, _, ok2, n2⟩ := l__law_frames (many := 20) hk ok1 (by omega) (by omega) (by omega)
  have eg : encB gs = .lst (gs.map encF) := rfl
  rw [eg] at f1
  have mP : (planE ks es ++ gs).map encF = (planE ks es).map encF ++ gs.map encF := List.map_append
  have lcat : ((planE ks es).map encF).length + (gs.map encF).length ≤ 1000000 := by rw [List.length_map, List.length_map]; omega
  have s4 : (sAsg (fZ (oOp oCat (fVar 3) (fZ (oCallU [(.i .fl .fl), .f, .f] sem__law_frames (uaE (fVar 0) (uaE (fVar 1) (uaE (fC (.int 20)) uaNil))))))) (bName 9)) [Sl.ow (some 0) (encG G1), .sh (.dct (kvL ks)), .sh (.dct (kvS es)), .sh (.lst ((planE ks es).map encF)), .sh (.int ((planE ks es).length : Int)), .sh (.dct (kvS A)), v6, v7, v8, .no, .no] = some (.nx, [Sl.ow (some 0) (encG G2), .sh (.dct (kvL ks)), .sh (.dct (kvS es)), .sh (.lst ((planE ks es).map encF)), .sh (.int ((planE ks es).length : Int)), .sh (.dct (kvS A)), v6, v7, v8, .sh (.lst ((planE ks es ++ gs).map encF)), .no]) := by
    rw [mP]
    generalize kvS A = SA
    generalize kvS es = SE
    clear e1 e2 e3 e4 hq s0 s1 s2 s3 eL hl hg lg mP
    walk_at "fdh"
  have hfr : FrOk ks (planE ks es ++ gs) := ⟨by rw [List.length_append]; omega, fun p hp => by
    rcases List.mem_append.mp hp with q | q
    · exact (plan_in hk h).1 p q
    · exact hg.ok p q⟩
  have kq := l_is_quiet hk hA
  have bq : decide (lackE ks A = []) = true := decide_eq_true qA
  rw [bq] at kq
  have kk := l_kinds_from hk hA hfr (l_starting_some hk hA)
  have kd : (sentE ks A (planE ks es ++ gs)).map (fun x => Dv.str x.1) = (List.replicate (planE ks es ++ gs).length (Str.ofString "direct")).map Dv.str := by
    rw [← quiet_sent hk hA qA hfr.ok, List.map_map]; rfl
  rw [kd, show encB (planE ks es ++ gs) = .lst ((planE ks es ++ gs).map encF) from rfl] at kk
  have kr := rep_str (Str.ofString "direct") (planE ks es ++ gs).length (by rw [List.length_append]; omega)
  have kn := neL_refl (shp_strs (ns := List.replicate (planE ks es ++ gs).length (Str.ofString "direct")) fun z hz => by rw [(List.mem_replicate.mp hz).2]; exact nm_direct)
  have lEv : (((planE ks es ++ gs).map encF).length : Nat) = (planE ks es ++ gs).length := List.length_map ..
  rw [← lEv] at kr kn kk
  have s5 : (sIf (tstOr (tstNot (tstB (fCallP sem_is_quiet (ckLen 2 (aCons (fVar 1) (aCons (fVar 5) aNil)))))) (tstB (fOp oNeX (fZ (oCall sem_kinds_of (ckLen 3 (aAppN 2 1 (aCons (fVar 1) (aCons (fVar 9) aNil)) (aCons (fVar 5) aNil))))) (fZ (oOp oRep (fZ (oLst (aCons (fC (.str "direct")) aNil))) (fCB bLen (aCons (fVar 9) aNil))))))) (sRet (fC (.bl false))) sNext) [Sl.ow (some 0) (encG G2), .sh (.dct (kvL ks)), .sh (.dct (kvS es)), .sh (.lst ((planE ks es).map encF)), .sh (.int ((planE ks es).length : Int)), .sh (.dct (kvS A)), v6, v7, v8, .sh (.lst ((planE ks es ++ gs).map encF)), .no] = some (.nx, [Sl.ow (some 0) (encG G2), .sh (.dct (kvL ks)), .sh (.dct (kvS es)), .sh (.lst ((planE ks es).map encF)), .sh (.int ((planE ks es).length : Int)), .sh (.dct (kvS A)), v6, v7, v8, .sh (.lst ((planE ks es ++ gs).map encF)), .no]) := by
    generalize (planE ks es ++ gs).map encF = EV at kk kr kn ⊢
    generalize (List.replicate EV.length (Str.ofString "direct")).map Dv.str = DR at kk kr kn
    generalize kvS A = SA at kk kq ⊢
    generalize kvS es = SE
    clear e1 e2 e3 e4 hq s0 s1 s2 s3 s4 eL hl hg lg mP lcat kd lEv f1
    walk_at "fdh"
  have km := l__law_mirrored hk h
  have s6 : (sAsg (fCallP sem__law_mirrored (ckLen 2 (aCons (fVar 1) (aCons (fVar 2) aNil)))) (bTup 2 (bsCons (bName 10) (bsCons (bName 8) bsNil)))) [Sl.ow (some 0) (encG G2), .sh (.dct (kvL ks)), .sh (.dct (kvS es)), .sh (.lst ((planE ks es).map encF)), .sh (.int ((planE ks es).length : Int)), .sh (.dct (kvS A)), v6, v7, v8, .sh (.lst ((planE ks es ++ gs).map encF)), .no] = some (.nx, [Sl.ow (some 0) (encG G2), .sh (.dct (kvL ks)), .sh (.dct (kvS es)), .sh (.lst ((planE ks es).map encF)), .sh (.int ((planE ks es).length : Int)), .sh (.dct (kvS A)), v6, v7, .sh (.dct (kvS (mirE es))), .sh (.lst ((planE ks es ++ gs).map encF)), .sh (.dct (kvL (mirL ks)))]) := by
    generalize kvS (mirE es) = ME at km ⊢
    generalize kvL (mirL ks) = MK at km ⊢
    generalize kvS A = SA
    generalize kvS es = SE at km ⊢
    clear e1 e2 e3 e4 hq s0 s1 s2 s3 s4 s5 eL hl hg lg mP lcat kd lEv f1 kk kr kn kq
    walk_at "fdh"
  have kf := l_fewest_frames (mirL_ok hk) (mir_st hk h)
  rw [mir_plan hk h] at kf
  have ke : oEqX (.int ((planE ks es).length : Int)) (.int ((planE ks es).length : Int)) = some (.bl true) := by rw [eq_ii]; simp
  have s7 : (sRet (fOp oEqX (fCallP sem_fewest_frames (ckLen 2 (aCons (fVar 10) (aCons (fVar 8) aNil)))) (fVar 4))) [Sl.ow (some 0) (encG G2), .sh (.dct (kvL ks)), .sh (.dct (kvS es)), .sh (.lst ((planE ks es).map encF)), .sh (.int ((planE ks es).length : Int)), .sh (.dct (kvS A)), v6, v7, .sh (.dct (kvS (mirE es))), .sh (.lst ((planE ks es ++ gs).map encF)), .sh (.dct (kvL (mirL ks)))] = some (.rt (.bl true), [Sl.ow (some 0) (encG G2), .sh (.dct (kvL ks)), .sh (.dct (kvS es)), .sh (.lst ((planE ks es).map encF)), .sh (.int ((planE ks es).length : Int)), .sh (.dct (kvS A)), v6, v7, .sh (.dct (kvS (mirE es))), .sh (.lst ((planE ks es ++ gs).map encF)), .sh (.dct (kvL (mirL ks)))]) := by
    generalize kvS (mirE es) = ME at kf ⊢
    generalize kvL (mirL ks) = MK at kf ⊢
    generalize kvS A = SA
    generalize kvS es = SE
    generalize ((planE ks es).length : Int) = n at kf ke ⊢
    clear e1 e2 e3 e4 hq s0 s1 s2 s3 s4 s5 s6 eL hl hg lg mP lcat kd lEv f1 kk kr kn kq km
    walk_at "fdh"
  have go : fs__law_plan_right [Sl.ow (some 0) (encG G), .sh (.dct (kvL ks)), .sh (.dct (kvS es)), .no, .no, .no, .no, .no, .no, .no, .no] = some (.rt (.bl true), [Sl.ow (some 0) (encG G2), .sh (.dct (kvL ks)), .sh (.dct (kvS es)), .sh (.lst ((planE ks es).map encF)), .sh (.int ((planE ks es).length : Int)), .sh (.dct (kvS A)), v6, v7, .sh (.dct (kvS (mirE es))), .sh (.lst ((planE ks es ++ gs).map encF)), .sh (.dct (kvL (mirL ks)))]) := (seq_nx s0).trans ((seq_nx s1).trans ((seq_nx s2).trans ((seq_nx s3).trans ((seq_nx s4).trans ((seq_nx s5).trans ((seq_nx s6).trans s7))))))
  refine ⟨G2, ?_, ok2, by omega⟩
  unfold sem__law_plan_right semM
  rw [show envM 0 (encG G) [.dct (kvL ks), .dct (kvS es)] 8 = [Sl.ow (some 0) (encG G), .sh (.dct (kvL ks)), .sh (.dct (kvS es)), .no, .no, .no, .no, .no, .no, .no, .no] from rfl, go]
  rfl
theorem law_true : ∀ ns : List Int, ns.length ≤ 63 → sem_law [.scr ns] = some (.bl true) := by
  intro ns hl
  have big : (2 : Int) ^ 100 > 1000 := by decide +kernel
  obtain ⟨G, eG, ok, n0⟩ := l__law_spring hl
  unfold sem_law fs_law
  obtain ⟨c5, hc5, hc0, hc9⟩ : ∃ c5 : Int, bMin2 [.int 5, .int (ns.length : Int)] = some (.int c5) ∧ 0 ≤ c5 ∧ c5 ≤ 5 := by
    refine ⟨_, rfl, ?_⟩
    split <;> omega
  have r1 : 3 + c5 ≤ 1000000 := by omega
  have r2 : -1000000 ≤ 3 + c5 := by omega
  have rl := rng_len (3 + c5).toNat
  unfold bMin2 at hc5
  walk_at "fdh"
  generalize hL : fLoop _ _ _ _ = X
  obtain ⟨δ', rfl, hI⟩ : ∃ δ', X = some (.nx, δ') ∧ (fun (i : Nat) (δ : Env) => ∃ (G' : Sg) (v2 v3 v4 v5 : Sl), δ = [Sl.sh (.scr ns), .ow none (encG G'), v2, v3, v4, v5] ∧ SgOk G' ∧ G'.n ≤ 300000 * i) (rngD 0 (3 + c5).toNat).length δ' := by
    rw [← hL]
    refine fLoop_inv2 (fun (i : Nat) (δ : Env) => ∃ (G' : Sg) (v2 v3 v4 v5 : Sl), δ = [Sl.sh (.scr ns), .ow none (encG G'), v2, v3, v4, v5] ∧ SgOk G' ∧ G'.n ≤ 300000 * i) ⟨G, .no, .no, .no, .no, rfl, ok, by omega⟩ ?_
    rintro i d δ hd ⟨G1, v2, v3, v4, v5, rfl, ok1, n1⟩
    have hi : i < 8 := by
      have := (List.getElem?_eq_some_iff.mp hd).1
      rw [rl] at this; omega
    obtain ⟨k, rfl⟩ : ∃ k : Int, d = .int k := by
      obtain ⟨j, _, e⟩ := List.mem_map.mp (List.mem_of_getElem? hd)
      exact ⟨_, e.symm⟩
    refine ⟨_, rfl, ?_⟩
    clear hL hc5 eG
    obtain ⟨d1, G2, e1, a1, b1, ok2, n2⟩ := l__law_draw ok1 (m := 6) (by omega) (by omega) (by omega)
    obtain ⟨d2, G3, e2, a2, b2, ok3, n3⟩ := l__law_draw ok2 (m := 40) (by omega) (by omega) (by omega)
    have om : oMod (.int k) (.int 2) = some (.int (k % 2)) := oMod_ok (by decide)
    obtain ⟨m, hm1, hmb⟩ : ∃ m : Int, atI [Dv.int (1 + d1), Dv.int (1 + d2)] (k % 2) = some (.int m) ∧ 1 ≤ m ∧ m ≤ 40 := by
      rcases (show k % 2 = 0 ∨ k % 2 = 1 by omega) with e | e
      · rw [e]; exact ⟨_, rfl, by omega, by omega⟩
      · rw [e]; exact ⟨_, rfl, by omega, by omega⟩
    obtain ⟨ks, G5, e5, hk, _, _, ok5, n5⟩ := l__law_line ok3 hmb.1 hmb.2 (by omega)
    obtain ⟨d3, G6, e6, a3, b3, ok6, n6⟩ := l__law_draw ok5 (m := 81) (by omega) (by omega) (by omega)
    obtain ⟨fs, G7, e7, hf, lf, _, ok7, n7⟩ := l__law_frames hk ok6 a3 (by omega) (by omega)
    rw [show encB fs = .lst (fs.map encF) from rfl] at e7
    obtain ⟨es, G8, e8, hs, _, ok8, n8⟩ := l__law_state hk ok7 (by omega)
    have e9 := l_known_from hk silE_ok hf (l_starting_none hk)
    rw [show encB fs = .lst (fs.map encF) from rfl] at e9
    have hs2 := sortE_ok hk (run_ok hk silE_ok hf.ok)
    refine sSeq_ex (fun δ => δ = [Sl.sh (.scr ns), .ow none (encG G5), .sh (.int k), .sh (.dct (kvL ks)), v4, v5]) ?_ ?_
    · refine ⟨_, ?_, rfl⟩
      clear lf e9 e8 e7 e6 hd
      walk_at "fdh"
    rintro δ rfl
    refine sSeq_ex (fun δ => δ = [Sl.sh (.scr ns), .ow none (encG G7), .sh (.int k), .sh (.dct (kvL ks)), .sh (.lst (fs.map encF)), v5]) ?_ ?_
    · refine ⟨_, ?_, rfl⟩
      clear lf e9 e8 e5 e2 e1 hd hm1 om
      walk_at "fdh"
    rintro δ rfl
    refine sSeq_ex (fun δ => ∃ (G9 : Sg) (v5 : Sl), δ = [Sl.sh (.scr ns), .ow none (encG G9), .sh (.int k), .sh (.dct (kvL ks)), .sh (.lst (fs.map encF)), v5] ∧ SgOk G9 ∧ G9.n ≤ G8.n + 200000) ?_ ?_
    · have eI : (itL (fZ (oLst (aCons (fZ (oCallU [(.i .fl .fl), .f] sem__law_state (uaE (fVar 1) (uaE (fVar 3) uaNil)))) (aCons (fZ (oCall sem_known_after (ckLen 3 (aMore [.non] (aCons (fVar 3) (aCons (fVar 4) aNil)))))) aNil))))) [Sl.sh (.scr ns), .ow none (encG G7), .sh (.int k), .sh (.dct (kvL ks)), .sh (.lst (fs.map encF)), v5] = some ([.dct (kvS es), .dct (kvS (sortE (runE ks (silE ks) fs)))], [Sl.sh (.scr ns), .ow none (encG G8), .sh (.int k), .sh (.dct (kvL ks)), .sh (.lst (fs.map encF)), v5]) := by
        generalize kvS (sortE (runE ks (silE ks) fs)) = S2 at e9 ⊢
        clear lf e7 e6 e5 e2 e1 hd hm1 om
        walk_at "fdh"
      unfold sFor
      rw [eI]
      simp only
      obtain ⟨δ', eL, G9, w5, rfl, ok9, n9⟩ := fLoop_inv2 (fb := bName 5) (fs := (sIf (tstNot (tstB (fCallM 3 0 sem__law_plan_right (aCons (fVar 1) (aCons (fVar 3) (aCons (fVar 5) aNil)))))) (sRet (fC (.bl false))) sNext)) (ds := [.dct (kvS es), .dct (kvS (sortE (runE ks (silE ks) fs)))]) (δ := [Sl.sh (.scr ns), .ow none (encG G8), .sh (.int k), .sh (.dct (kvL ks)), .sh (.lst (fs.map encF)), v5])
        (fun j δ => ∃ (G9 : Sg) (v5 : Sl), δ = [Sl.sh (.scr ns), .ow none (encG G9), .sh (.int k), .sh (.dct (kvL ks)), .sh (.lst (fs.map encF)), v5] ∧ SgOk G9 ∧ G9.n ≤ G8.n + 100000 * j) ⟨G8, _, rfl, ok8, by omega⟩ (by
        rintro j d δ hd2 ⟨G9, w5, rfl, ok9, n9⟩
        have hj : j < 2 := (List.getElem?_eq_some_iff.mp hd2).1
        obtain ⟨A, rfl, hA⟩ : ∃ A, d = .dct (kvS A) ∧ StOk ks A := by
          rcases List.mem_cons.mp (List.mem_of_getElem? hd2) with e | q
          · exact ⟨_, e, hs⟩
          · exact ⟨_, List.mem_singleton.mp q, hs2⟩
        obtain ⟨G10, q1, ok10, n10⟩ := l__law_plan_right hk hA ok9 (by omega)
        refine ⟨_, rfl, [Sl.sh (.scr ns), .ow none (encG G10), .sh (.int k), .sh (.dct (kvL ks)), .sh (.lst (fs.map encF)), .sh (.dct (kvS A))], ?_, G10, .sh (.dct (kvS A)), rfl, ok10, ?_⟩
        rotate_left
        · rw [Nat.mul_succ, ← Nat.add_assoc]
          exact Nat.le_trans n10 (Nat.add_le_add_right n9 _)
        clear lf e9 e8 e7 e6 e5 e2 e1 hd hm1 om hd2 eI
        walk_at "fdh")
      exact ⟨_, eL, G9, w5, rfl, ok9, by simpa using n9⟩
    rintro δ ⟨G9, w5, rfl, ok9, n9⟩
    obtain ⟨G10, q1, ok10, n10⟩ := l__law_network_right hk hf (by omega) ok9 (by omega)
    rw [show encB fs = .lst (fs.map encF) from rfl] at q1
    refine ⟨[Sl.sh (.scr ns), .ow none (encG G10), .sh (.int k), .sh (.dct (kvL ks)), .sh (.lst (fs.map encF)), w5], ?_, G10, _, _, _, _, rfl, ok10, by omega⟩
    clear lf e9 e8 e7 e6 e5 e2 e1 hd hm1 om
    walk_at "fdh"
  obtain ⟨G', v2, v3, v4, v5, rfl, ok', n'⟩ := hI
  clear hL
  walk_at "fdh"
structure Tx (mg : Str → Option Value) : Prop where
  b_abs : mg "abs" = none
  b_all : mg "all" = none
  b_bool : mg "bool" = none
  b_dict : mg "dict" = none
  b_enumerate : mg "enumerate" = none
  b_int : mg "int" = none
  b_isinstance : mg "isinstance" = none
  b_len : mg "len" = none
  b_list : mg "list" = none
  b_max : mg "max" = none
  b_min : mg "min" = none
  b_range : mg "range" = none
  b_set : mg "set" = none
  b_sorted : mg "sorted" = none
  b_str : mg "str" = none
  b_tuple : mg "tuple" = none
  b_type : mg "type" = none
  g_ALL : ∃ t, mg "ALL" = some (.str "all" t)
  g_DIRECT : ∃ t, mg "DIRECT" = some (.str "direct" t)
  g_FARTHEST : ∃ t, mg "FARTHEST" = some (.int (1000000000000000000000000000000) t)
  g_FLOOD : ∃ t, mg "FLOOD" = some (.str "flood" t)
  g_MOST_FRAMES : ∃ t, mg "MOST_FRAMES" = some (.int (300) t)
  g_MOST_HOSTS : ∃ t, mg "MOST_HOSTS" = some (.int (40) t)
  g_MOST_LETTERS : ∃ t, mg "MOST_LETTERS" = some (.int (8) t)
section
variable {P : Program} {w : World} {K : PySem.W.Frag} {mg : Str → Option Value} {base : Heap}
theorem ok_is_integer (T : Tx mg) (D : At K mg "is_integer" s_is_integer ["value"]) : Dfn P w K mg base "is_integer" ["value"] 1 (spP K 1 sem_is_integer) := by
  refine dfn D sc_is_integer (len_P rfl) (fun X f cdv A outer s H vs Q E hX hr h => ?_)
  subst hX
  refine ⟨_, (pss_one (ps_ret (pe_and (pe_callB call_isi (by rfl) T.b_isinstance (by decide +kernel) (pa_cons (pvl 0) (pa_cons (pe_bltn (v := .ty "int") (by rfl) T.b_int boot_int rfl) pa_nil))) (pe_one (pe_not (pe_callB call_isi (by rfl) T.b_isinstance (by decide +kernel) (pa_cons (pvl 0) (pa_cons (pe_bltn (v := .ty "bool") (by rfl) T.b_bool (by decide +kernel) rfl) pa_nil)))))))), ?_⟩
  exact run_P (fs := fs_is_integer) (ds_ret (de_and (de_isi (by decide) (de_var 0)) (de_not (de_isi (by decide) (de_var 0))))) rfl h
theorem ok_is_name (T : Tx mg) (D : At K mg "is_name" s_is_name ["value"]) : Dfn P w K mg base "is_name" ["value"] 1 (spP K 1 sem_is_name) := by
  refine dfn D sc_is_name (len_P rfl) (fun X f cdv A outer s H vs Q E hX hr h => ?_)
  subst hX
  refine ⟨_, (pss_cons (ps_if (PW.pt (pw_or (pt_not (pt_val (pe_callB call_isi (by rfl) T.b_isinstance (by decide +kernel) (pa_cons (pvl 0) (pa_cons (pe_bltn (v := .ty "str") (by rfl) T.b_str (by decide +kernel) rfl) pa_nil))))) (pw_or1 (pt_not (pt_chain opLe opLe pe_int (pe_callB call_lenX (by rfl) T.b_len PySem.boot_len (pa_cons (pvl 0) pa_nil)) (pe_glob (v := .int (8)) (by rfl) (Exists.choose_spec T.g_MOST_LETTERS) ⟨_, rfl⟩)))))) (pss_one (ps_ret pe_bl)) pss_nil) (pss_one (ps_ret (pe_callB (cr_all rfl) (by rfl) T.b_all (by decide +kernel) (pa_cons (pe_lc (own := [("letter", 1)]) (g := gName 1) (tt := tYes) rfl sc_is_name.nd (pi_str (pvl 0)) (blkOk_by (own := [("letter", 1)]) (N := nn_is_name) (sc := defScope s_is_name) (by decide +kernel)) (fun _ _ _ _ _ => (pg_name (i := 1) sc_is_name.nd rfl (Or.inl rfl))) (fun _ _ _ _ _ => pts_nil) (blk_e fun _ _ _ _ _ => (pe_chain opLe opLe pe_str (pvl 1) pe_str))) pa_nil))))), ?_⟩
  exact run_P (fs := fs_is_name) (ds_seq (ds_if (dt_or (dt_not (dt_b (de_isi (by decide) (de_var 0)))) (dt_not (dt_b (de_chain r2_le r2_le (de_c (IsC.int _)) (de_cb cb_len (da_cons (de_var 0) da_nil)) (de_c (IsC.int _)))))) (ds_ret (de_c (IsC.bl _))) ds_next) (ds_ret (de_cb cb_all (da_cons (DEO.frz (do_lc (di_str (de_var 0)) (dg_name 1) (by decide) dt_yes (de_all fun _ _ _ _ _ => (de_chain r2_le r2_le (de_c (IsC.str _)) (de_var 1) (de_c (IsC.str _)))))) da_nil)))) rfl h
theorem ok_is_list (T : Tx mg) (D : At K mg "is_list" s_is_list ["value"]) : Dfn P w K mg base "is_list" ["value"] 1 (spP K 1 sem_is_list) := by
  refine dfn D sc_is_list (len_P rfl) (fun X f cdv A outer s H vs Q E hX hr h => ?_)
  subst hX
  refine ⟨_, (pss_one (ps_ret (pe_cmpR (opEq hr.units) (pe_callTy call_typeX (by rfl) T.b_type (by decide +kernel) (pa_cons (pvl 0) pa_nil)) (pe_bltn (v := .ty "list") (by rfl) T.b_list boot_list rfl) (nomark _)))), ?_⟩
  exact run_P (fs := fs_is_list) (ds_ret (de_tyEq (by decide) (de_var 0))) rfl h
theorem ok_is_pair (T : Tx mg) (D : At K mg "is_pair" s_is_pair ["value"]) : Dfn P w K mg base "is_pair" ["value"] 1 (spP K 1 sem_is_pair) := by
  refine dfn D sc_is_pair (len_P rfl) (fun X f cdv A outer s H vs Q E hX hr h => ?_)
  subst hX
  refine ⟨_, (pss_one (ps_ret (pe_and (pe_cmpR (opEq hr.units) (pe_callTy call_typeX (by rfl) T.b_type (by decide +kernel) (pa_cons (pvl 0) pa_nil)) (pe_bltn (v := .ty "tuple") (by rfl) T.b_tuple boot_tuple rfl) (nomark _)) (pe_one (pe_cmpR (opEqX (hu70 hr)) (pe_callB call_lenX (by rfl) T.b_len PySem.boot_len (pa_cons (pvl 0) pa_nil)) pe_int (nomark _)))))), ?_⟩
  exact run_P (fs := fs_is_pair) (ds_ret (de_and (de_tyEq (by decide) (de_var 0)) (de_op r2_eqX (de_cb cb_len (da_cons (de_var 0) da_nil)) (de_c (IsC.int _))))) rfl h
theorem ok_contains (T : Tx mg) (D : At K mg "contains" s_contains ["interval", "position"]) : Dfn P w K mg base "contains" ["interval", "position"] 1 (spP K 2 sem_contains) := by
  refine dfn D sc_contains (len_P rfl) (fun X f cdv A outer s H vs Q E hX hr h => ?_)
  subst hX
  refine ⟨_, (pss_cons (ps_if (pt_cmpR opIs (pvl 0) pe_non (nomark _)) (pss_one (ps_ret pe_bl)) pss_nil) (pss_cons (ps_asg (pvl 0) (pg_tup rfl (pgs_cons (pg_name (i := 2) sc_contains.nd rfl (Or.inl rfl)) (pgs_cons (pg_name (i := 3) sc_contains.nd rfl (Or.inl rfl)) pgs_nil)))) (pss_one (ps_ret (pe_and (pe_or (pe_cmpR opIs (pvl 2) pe_non (nomark _)) (pe_one (pe_cmpR opLe (pvl 2) (pvl 1) (nomark _)))) (pe_one (pe_or (pe_cmpR opIs (pvl 3) pe_non (nomark _)) (pe_one (pe_cmpR opLe (pvl 1) (pvl 3) (nomark _)))))))))), ?_⟩
  exact run_P (fs := fs_contains) (ds_seq (ds_if (dt_b (de_op r2_is (de_var 0) (de_c IsC.non))) (ds_ret (de_c (IsC.bl _))) ds_next) (ds_seq (ds_asg (de_var 0) (dg_tup (dgs_cons (dg_name 2) (dgs_cons (dg_name 3) dgs_nil)))) (ds_ret (de_and (de_or (de_op r2_is (de_var 2) (de_c IsC.non)) (de_op r2_le (de_var 2) (de_var 1))) (de_or (de_op r2_is (de_var 3) (de_c IsC.non)) (de_op r2_le (de_var 1) (de_var 3))))))) rfl h
theorem ok_joined (T : Tx mg) (D : At K mg "joined" s_joined ["interval", "other"]) : Dfn P w K mg base "joined" ["interval", "other"] 1 (spP K 2 sem_joined) := by
  refine dfn D sc_joined (len_P rfl) (fun X f cdv A outer s H vs Q E hX hr h => ?_)
  subst hX
  refine ⟨_, (pss_cons (ps_if (pt_cmpR opIs (pvl 0) pe_non (nomark _)) (pss_one (ps_ret (pvl 1))) pss_nil) (pss_cons (ps_set (i := 2) sc_joined.nd rfl (Or.inl rfl) pe_non) (pss_cons (ps_if (PW.pt (pw_and (pt_cmpR opIsNot (pe_ix ix_seq (pvl 0) pe_int (fun _ _ => rfl)) pe_non (nomark _)) (pw_and1 (pt_cmpR opIsNot (pe_ix ix_seq (pvl 1) pe_int (fun _ _ => rfl)) pe_non (nomark _))))) (pss_one (ps_set (i := 2) sc_joined.nd rfl (Or.inl rfl) (pe_callB (call_min2 rfl) (by rfl) T.b_min (by decide +kernel) (pa_cons (pe_ix ix_seq (pvl 0) pe_int (fun _ _ => rfl)) (pa_cons (pe_ix ix_seq (pvl 1) pe_int (fun _ _ => rfl)) pa_nil))))) pss_nil) (pss_cons (ps_set (i := 3) sc_joined.nd rfl (Or.inl rfl) pe_non) (pss_cons (ps_if (PW.pt (pw_and (pt_cmpR opIsNot (pe_ix ix_seq (pvl 0) pe_int (fun _ _ => rfl)) pe_non (nomark _)) (pw_and1 (pt_cmpR opIsNot (pe_ix ix_seq (pvl 1) pe_int (fun _ _ => rfl)) pe_non (nomark _))))) (pss_one (ps_set (i := 3) sc_joined.nd rfl (Or.inl rfl) (pe_callB (call_max2 rfl) (by rfl) T.b_max (by decide +kernel) (pa_cons (pe_ix ix_seq (pvl 0) pe_int (fun _ _ => rfl)) (pa_cons (pe_ix ix_seq (pvl 1) pe_int (fun _ _ => rfl)) pa_nil))))) pss_nil) (pss_one (ps_ret (pe_tup (pa_cons (pvl 2) (pa_cons (pvl 3) pa_nil)))))))))), ?_⟩
  exact run_P (fs := fs_joined) (ds_seq (ds_if (dt_b (de_op r2_is (de_var 0) (de_c IsC.non))) (ds_ret (de_var 1)) ds_next) (ds_seq (ds_asg (de_c IsC.non) (dg_name 2)) (ds_seq (ds_if (dt_and (dt_b (de_op r2_isNot (de_op r2_ix (de_var 0) (de_c (IsC.int _))) (de_c IsC.non))) (dt_b (de_op r2_isNot (de_op r2_ix (de_var 1) (de_c (IsC.int _))) (de_c IsC.non)))) (ds_asg (de_cb cb_min2 (da_cons (de_op r2_ix (de_var 0) (de_c (IsC.int _))) (da_cons (de_op r2_ix (de_var 1) (de_c (IsC.int _))) da_nil))) (dg_name 2)) ds_next) (ds_seq (ds_asg (de_c IsC.non) (dg_name 3)) (ds_seq (ds_if (dt_and (dt_b (de_op r2_isNot (de_op r2_ix (de_var 0) (de_c (IsC.int _))) (de_c IsC.non))) (dt_b (de_op r2_isNot (de_op r2_ix (de_var 1) (de_c (IsC.int _))) (de_c IsC.non)))) (ds_asg (de_cb cb_max2 (da_cons (de_op r2_ix (de_var 0) (de_c (IsC.int _))) (da_cons (de_op r2_ix (de_var 1) (de_c (IsC.int _))) da_nil))) (dg_name 3)) ds_next) (ds_ret (de_tup (da_cons (de_var 2) (da_cons (de_var 3) da_nil))))))))) rfl h
theorem ok_has_hosts_of (T : Tx mg) (D : At K mg "has_hosts_of" s_has_hosts_of ["line", "value"]) : Dfn P w K mg base "has_hosts_of" ["line", "value"] 1 (spP K 2 sem_has_hosts_of) := by
  refine dfn D sc_has_hosts_of (len_P rfl) (fun X f cdv A outer s H vs Q E hX hr h => ?_)
  subst hX
  refine ⟨_, (pss_cons (ps_if (PW.pt (pw_or (pt_not (pt_val (pe_callB call_isi (by rfl) T.b_isinstance (by decide +kernel) (pa_cons (pvc 1) (pa_cons (pe_bltn (v := .ty "dict") (by rfl) T.b_dict boot_dict rfl) pa_nil))))) (pw_or1 (pt_cmpR (opNeX (hu70 hr)) (pe_callB call_lenX (by rfl) T.b_len PySem.boot_len (pa_cons (pvc 1) pa_nil)) (pe_callB call_lenX (by rfl) T.b_len PySem.boot_len (pa_cons (pvl 0) pa_nil)) (nomark _))))) (pss_one (ps_ret pe_bl)) pss_nil) (pss_one (ps_ret (pe_callB (cr_all rfl) (by rfl) T.b_all (by decide +kernel) (pa_cons (PE.or (pe_lock (pe_lc (own := [("host", 2)]) (g := gName 2) (tt := tYes) rfl sc_has_hosts_of.nd (pi_keys (pvl 0)) (blkOk_by (own := [("host", 2)]) (N := nn_has_hosts_of) (sc := defScope s_has_hosts_of) (by decide +kernel)) (fun _ _ _ _ _ => (pg_name (i := 2) sc_has_hosts_of.nd rfl (Or.inl rfl))) (fun _ _ _ _ _ => pts_nil) (blk_e fun _ _ _ _ _ => (pe_cmp (pc_din (hu_of hr) (pvl 2) (pvc 1)))))) (pe_lc (own := [("host", 2)]) (g := gName 2) (tt := tYes) rfl sc_has_hosts_of.nd (pi_keys (pvl 0)) (blkOk_by (own := [("host", 2)]) (N := nn_has_hosts_of) (sc := defScope s_has_hosts_of) (by decide +kernel)) (fun _ _ _ _ _ => (pg_name (i := 2) sc_has_hosts_of.nd rfl (Or.inl rfl))) (fun _ _ _ _ _ => pts_nil) (blk_e fun _ _ _ _ _ => (pe_cmp (pc_din (hu_of hr) (pvl 2) (pvc 1)))))) pa_nil))))), ?_⟩
  exact run_P (fs := fs_has_hosts_of) (ds_seq (ds_if (dt_or (dt_not (dt_b (de_isi (by decide) (de_var 1)))) (dt_b (de_op r2_neX (de_cb cb_len (da_cons (de_var 1) da_nil)) (de_cb cb_len (da_cons (de_var 0) da_nil))))) (ds_ret (de_c (IsC.bl _))) ds_next) (ds_ret (de_cb cb_all (da_cons (DEO.frz (do_lcD .keys 0 (dg_name 2) (by decide) dt_yes (de_all fun _ _ _ _ _ => (de_din (de_var 2) (de_var 1))))) da_nil)))) rfl h
theorem ok_is_host (T : Tx mg) (D : At K mg "is_host" s_is_host ["line", "value"]) : Dfn P w K mg base "is_host" ["line", "value"] 1 (spP K 2 sem_is_host) := by
  refine dfn D sc_is_host (len_P rfl) (fun X f cdv A outer s H vs Q E hX hr h => ?_)
  subst hX
  refine ⟨_, (pss_one (ps_ret (pe_and (pe_callB call_isi (by rfl) T.b_isinstance (by decide +kernel) (pa_cons (pvl 1) (pa_cons (pe_bltn (v := .ty "str") (by rfl) T.b_str (by decide +kernel) rfl) pa_nil))) (pe_one (pe_cmp (pc_din (hu_of hr) (pvl 1) (pvl 0))))))), ?_⟩
  exact run_P (fs := fs_is_host) (ds_ret (de_and (de_isi (by decide) (de_var 1)) (de_din (de_var 1) (de_var 0)))) rfl h
theorem ok_silent_state (T : Tx mg) (D : At K mg "silent_state" s_silent_state ["line"]) : Dfn P w K mg base "silent_state" ["line"] 1 (spO K 1 sem_silent_state) := by
  refine dfn D sc_silent_state (len_O rfl) (fun X f cdv A outer s H vs Q E hX hr h => ?_)
  subst hX
  refine ⟨_, (pss_one (ps_ret (PE.or (pe_lock (pe_dc (own := [("host", 1)]) (g := gName 1) (tt := tYes) rfl sc_silent_state.nd (pi_keys (pvl 0)) (blkOk_by (own := [("host", 1)]) (N := nn_silent_state) (sc := defScope s_silent_state) (by decide +kernel)) (fun _ _ _ _ _ => (pg_name (i := 1) sc_silent_state.nd rfl (Or.inl rfl))) (fun _ _ _ _ _ => pts_nil) (blk_e fun _ _ _ _ _ => (pvl 1)) (blk_e fun _ _ _ _ _ => pe_non))) (pe_dc (own := [("host", 1)]) (g := gName 1) (tt := tYes) rfl sc_silent_state.nd (pi_keys (pvl 0)) (blkOk_by (own := [("host", 1)]) (N := nn_silent_state) (sc := defScope s_silent_state) (by decide +kernel)) (fun _ _ _ _ _ => (pg_name (i := 1) sc_silent_state.nd rfl (Or.inl rfl))) (fun _ _ _ _ _ => pts_nil) (blk_e fun _ _ _ _ _ => (pvl 1)) (blk_e fun _ _ _ _ _ => pe_non))))), ?_⟩
  exact run_O (fs := fs_silent_state) (ds_retO (do_dcD .keys 0 (dg_name 1) (by decide) dt_yes (de_all fun _ _ _ _ _ => (de_var 1)) (de_all fun _ _ _ _ _ => (de_c IsC.non)))) rfl h
theorem ok_reach_of_kind (T : Tx mg) (D : At K mg "reach_of_kind" s_reach_of_kind ["kind", "start", "end"]) : Dfn P w K mg base "reach_of_kind" ["kind", "start", "end"] 1 (spP K 3 sem_reach_of_kind) := by
  refine dfn D sc_reach_of_kind (len_P rfl) (fun X f cdv A outer s H vs Q E hX hr h => ?_)
  subst hX
  refine ⟨_, (pss_cons (ps_if (pt_cmpR (opEqX (hu70 hr)) (pvl 0) (pe_glob (v := .str "all") (by rfl) (Exists.choose_spec T.g_ALL) ⟨_, rfl⟩) (nomark _)) (pss_one (ps_ret (pe_tup (pa_cons pe_non (pa_cons pe_non pa_nil))))) pss_nil) (pss_cons (ps_if (pt_cmpR (opEqX (hu70 hr)) (pvl 0) (pe_glob (v := .str "direct") (by rfl) (Exists.choose_spec T.g_DIRECT) ⟨_, rfl⟩) (nomark _)) (pss_one (ps_ret (pe_tup (pa_cons (pe_callB (call_min2 rfl) (by rfl) T.b_min (by decide +kernel) (pa_cons (pvl 1) (pa_cons (pvl 2) pa_nil))) (pa_cons (pe_callB (call_max2 rfl) (by rfl) T.b_max (by decide +kernel) (pa_cons (pvl 1) (pa_cons (pvl 2) pa_nil))) pa_nil))))) pss_nil) (pss_cons (ps_if (pt_cmpR opLt (pvl 1) (pvl 2) (nomark _)) (pss_one (ps_ret (pe_tup (pa_cons pe_non (pa_cons (pvl 2) pa_nil))))) pss_nil) (pss_one (ps_ret (pe_tup (pa_cons (pvl 2) (pa_cons pe_non pa_nil)))))))), ?_⟩
  exact run_P (fs := fs_reach_of_kind) (ds_seq (ds_if (dt_b (de_op r2_eqX (de_var 0) (de_c (IsC.str _)))) (ds_ret (de_tup (da_cons (de_c IsC.non) (da_cons (de_c IsC.non) da_nil)))) ds_next) (ds_seq (ds_if (dt_b (de_op r2_eqX (de_var 0) (de_c (IsC.str _)))) (ds_ret (de_tup (da_cons (de_cb cb_min2 (da_cons (de_var 1) (da_cons (de_var 2) da_nil))) (da_cons (de_cb cb_max2 (da_cons (de_var 1) (da_cons (de_var 2) da_nil))) da_nil)))) ds_next) (ds_seq (ds_if (dt_b (de_op r2_lt (de_var 1) (de_var 2))) (ds_ret (de_tup (da_cons (de_c IsC.non) (da_cons (de_var 2) da_nil)))) ds_next) (ds_ret (de_tup (da_cons (de_var 2) (da_cons (de_c IsC.non) da_nil))))))) rfl h
theorem ok_inner_plan (T : Tx mg) (D : At K mg "inner_plan" s_inner_plan ["state", "to_ends"]) : Dfn P w K mg base "inner_plan" ["state", "to_ends"] 1 (spO K 2 sem_inner_plan) := by
  refine dfn D sc_inner_plan (len_O rfl) (fun X f cdv A outer s H vs Q E hX hr h => ?_)
  subst hX
  refine ⟨_, (pss_cons (ps_set (i := 2) sc_inner_plan.nd rfl (Or.inl rfl) (pe_callB cr_sortedB (by rfl) T.b_sorted (by decide +kernel) (pa_cons (PE.or (pe_lock (pe_lc (own := [("host", 4)]) (g := gName 4)  rfl sc_inner_plan.nd (pi_keys (pvc 1)) (blkOk_by (own := [("host", 4)]) (N := nn_inner_plan) (sc := defScope s_inner_plan) (by decide +kernel)) (fun _ _ _ _ _ => (pg_name (i := 4) sc_inner_plan.nd rfl (Or.inl rfl))) (blk_t fun _ _ _ _ _ => (pts_one (pt_cmpR opIs (pe_dget (hu_of hr) (pvc 0) (pvl 4) (fun _ _ => rfl)) pe_non (nomark _)))) (blk_e fun _ _ _ _ _ => (pe_tup (pa_cons (pe_callB call_lenX (by rfl) T.b_len PySem.boot_len (pa_cons (pe_dget (hu_of hr) (pvc 1) (pvl 4) (fun _ _ => rfl)) pa_nil)) (pa_cons (pvl 4) pa_nil)))))) (pe_lc (own := [("host", 4)]) (g := gName 4)  rfl sc_inner_plan.nd (pi_keys (pvc 1)) (blkOk_by (own := [("host", 4)]) (N := nn_inner_plan) (sc := defScope s_inner_plan) (by decide +kernel)) (fun _ _ _ _ _ => (pg_name (i := 4) sc_inner_plan.nd rfl (Or.inl rfl))) (blk_t fun _ _ _ _ _ => (pts_one (pt_cmpR opIs (pe_dget (hu_of hr) (pvc 0) (pvl 4) (fun _ _ => rfl)) pe_non (nomark _)))) (blk_e fun _ _ _ _ _ => (pe_tup (pa_cons (pe_callB call_lenX (by rfl) T.b_len PySem.boot_len (pa_cons (pe_dget (hu_of hr) (pvc 1) (pvl 4) (fun _ _ => rfl)) pa_nil)) (pa_cons (pvl 4) pa_nil)))))) pa_nil))) (pss_cons (ps_if (pt_not (pt_truth (pvl 2) (fun _ => rfl))) (pss_one (ps_ret (PE.or (pe_lock (pe_lc2 (own := [("host", 4), ("frame", 5)]) (vs1 := [5]) (g := gName 4) (g1 := gName 5) (tt := tYes) (tt1 := tYes) rfl sc_inner_plan.nd (pi_keys (pvc 1)) (blkOk_by (own := [("host", 4), ("frame", 5)]) (N := nn_inner_plan) (sc := defScope s_inner_plan) (by decide +kernel)) (by decide) (fun _ _ _ _ _ => (pg_name (i := 4) sc_inner_plan.nd rfl (Or.inl rfl))) (fun _ _ _ _ _ => pts_nil) (blk_i fun _ _ _ _ _ => (pi_list (pe_dget (hu_of hr) (pvc 1) (pvl 4) (fun _ _ => rfl)))) (fun _ _ _ _ _ => (pg_name (i := 5) sc_inner_plan.nd rfl (Or.inl rfl))) (fun _ _ _ _ _ => pts_nil) (blk_e fun _ _ _ _ _ => (pvl 5)))) (pe_lc2 (own := [("host", 4), ("frame", 5)]) (vs1 := [5]) (g := gName 4) (g1 := gName 5) (tt := tYes) (tt1 := tYes) rfl sc_inner_plan.nd (pi_keys (pvc 1)) (blkOk_by (own := [("host", 4), ("frame", 5)]) (N := nn_inner_plan) (sc := defScope s_inner_plan) (by decide +kernel)) (by decide) (fun _ _ _ _ _ => (pg_name (i := 4) sc_inner_plan.nd rfl (Or.inl rfl))) (fun _ _ _ _ _ => pts_nil) (blk_i fun _ _ _ _ _ => (pi_list (pe_dget (hu_of hr) (pvc 1) (pvl 4) (fun _ _ => rfl)))) (fun _ _ _ _ _ => (pg_name (i := 5) sc_inner_plan.nd rfl (Or.inl rfl))) (fun _ _ _ _ _ => pts_nil) (blk_e fun _ _ _ _ _ => (pvl 5)))))) pss_nil) (pss_cons (ps_set (i := 3) sc_inner_plan.nd rfl (Or.inr rfl) (pe_ix ix_seq (pe_ix ix_seq (pvl 2) pe_int (fun _ _ => rfl)) pe_int (fun _ _ => rfl))) (pss_one (ps_ret (pe_op opAdd (PE.or (pe_lock (pe_lc (own := [("host", 4)]) (g := gName 4)  rfl sc_inner_plan.nd (pi_keys (pvc 1)) (blkOk_by (own := [("host", 4)]) (N := nn_inner_plan) (sc := defScope s_inner_plan) (by decide +kernel)) (fun _ _ _ _ _ => (pg_name (i := 4) sc_inner_plan.nd rfl (Or.inl rfl))) (blk_t fun _ _ _ _ _ => (pts_one (pt_cmpR (opNeX (hu70 hr)) (pvl 4) (pvc 3) (nomark _)))) (blk_e fun _ _ _ _ _ => (pe_tup (pa_cons (pvl 4) (pa_cons (pvc 3) pa_nil)))))) (pe_lc (own := [("host", 4)]) (g := gName 4)  rfl sc_inner_plan.nd (pi_keys (pvc 1)) (blkOk_by (own := [("host", 4)]) (N := nn_inner_plan) (sc := defScope s_inner_plan) (by decide +kernel)) (fun _ _ _ _ _ => (pg_name (i := 4) sc_inner_plan.nd rfl (Or.inl rfl))) (blk_t fun _ _ _ _ _ => (pts_one (pt_cmpR (opNeX (hu70 hr)) (pvl 4) (pvc 3) (nomark _)))) (blk_e fun _ _ _ _ _ => (pe_tup (pa_cons (pvl 4) (pa_cons (pvc 3) pa_nil)))))) (pe_dget (hu_of hr) (pvc 1) (pvc 3) (fun _ _ => rfl)))))))), ?_⟩
  exact run_O (fs := fs_inner_plan) (ds_seq (ds_asg (DEO.frz (do_cb co_sortB (da_cons (DEO.frz (do_lcD .keys 1 (dg_name 4) (by decide) (dt_all fun _ _ _ _ _ => (dt_b (de_op r2_is (de_dget (de_var 0) (de_var 4)) (de_c IsC.non)))) (de_all fun _ _ _ _ _ => (de_tup (da_cons (de_cb cb_len (da_cons (de_dget (de_var 1) (de_var 4)) da_nil)) (da_cons (de_var 4) da_nil)))))) da_nil))) (dg_name 2)) (ds_seq (ds_if (dt_not (dt_tru (de_var 2))) (ds_retO (do_lc2D .keys 1 (dg_name 4) (by decide) dt_yes (di_all fun _ _ _ _ _ => (di_list (de_dget (de_var 1) (de_var 4)))) (dg_name 5) (by decide) (by decide) dt_yes (de_all fun _ _ _ _ _ => (de_var 5)))) ds_next) (ds_seq (ds_asg (de_op r2_ix (de_op r2_ix (de_var 2) (de_c (IsC.int _))) (de_c (IsC.int _))) (dg_name 3)) (ds_retO (do_op r2_cat (DEO.frz (do_lcD .keys 1 (dg_name 4) (by decide) (dt_all fun _ _ _ _ _ => (dt_b (de_op r2_neX (de_var 4) (de_var 3)))) (de_all fun _ _ _ _ _ => (de_tup (da_cons (de_var 4) (da_cons (de_var 3) da_nil)))))) (de_dget (de_var 1) (de_var 3))))))) rfl h
theorem ok_Network_known (T : Tx mg) {C_Network : Addr} (N_Network : ClsN K "Network" C_Network) (A_Network__line : NoAttr K C_Network "_line") (A_Network__known : NoAttr K C_Network "_known") (A_Network__sent : NoAttr K C_Network "_sent") (A_Network__changes : NoAttr K C_Network "_changes") (D : AtP K C_Network "known" "Network.known" s_Network_known ["self"]) : DfnP P w K mg base C_Network "known" ["self"] 1 (spU K [(.i (.io "Network" (.fc "_line" .fr (.fc "_known" .fr (.fc "_sent" .fl (.fc "_changes" .fl .nl))))) (.io "Network" (.fc "_line" .fr (.fc "_known" .fr (.fc "_sent" .fl (.fc "_changes" .fl .nl))))))] .fl sem_Network_known) := by
  refine dfnP D sc_Network_known (len_U rfl) (fun X f cdv A outer s H vs Q E hX hr h => ?_)
  subst hX
  refine ⟨_, (pss_one (ps_ret (pe_callTy (call_dictX rfl) (by rfl) T.b_dict boot_dict (pa_cons (pe_fld (pvl 0) rfl) pa_nil)))), ?_⟩
  exact run_U (ps := [(.i (.io "Network" (.fc "_line" .fr (.fc "_known" .fr (.fc "_sent" .fl (.fc "_changes" .fl .nl))))) (.io "Network" (.fc "_line" .fr (.fc "_known" .fr (.fc "_sent" .fl (.fc "_changes" .fl .nl))))))]) (r := .fl) rfl (fs := fs_Network_known) (ds_retO (do_cb co_dict (da_cons (de_fld (i := 0) N_Network A_Network__known) da_nil))) rfl h
theorem ok_Network__begin_change (T : Tx mg) {C_Network : Addr} (N_Network : ClsN K "Network" C_Network) (A_Network__line : NoAttr K C_Network "_line") (A_Network__known : NoAttr K C_Network "_known") (A_Network__sent : NoAttr K C_Network "_sent") (A_Network__changes : NoAttr K C_Network "_changes") (D : AtM K C_Network "_begin_change" "Network._begin_change" s_Network__begin_change ["self"]) : DfnM P w K mg base C_Network "_begin_change" ["self"] 1 (spU K [(.i (.io "Network" (.fc "_line" .fr (.fc "_known" .fr (.fc "_sent" .fl (.fc "_changes" .fl .nl))))) (.io "Network" (.fc "_line" .fr (.fc "_known" .fr (.fc "_sent" .fl (.fc "_changes" .fl .nl))))))] .fr sem_Network__begin_change) := by
  refine dfnM D sc_Network__begin_change (len_U rfl) (fun X f cdv A outer s H vs Q E hX hr h => ?_)
  subst hX
  refine ⟨_, (pss_one (ps_expr (pe_bm PySem.F.plainAttrs_list PySem.F.slot_list_append PySem.F.type_list_append mt_append (pe_fld (pvl 0) rfl) (pa_cons (pe_tup (pa_cons (pe_callB call_lenX (by rfl) T.b_len PySem.boot_len (pa_cons (pe_fld (pvl 0) rfl) pa_nil)) (pa_cons (pe_fld (pvl 0) rfl) pa_nil))) pa_nil)))), ?_⟩
  exact run_U (ps := [(.i (.io "Network" (.fc "_line" .fr (.fc "_known" .fr (.fc "_sent" .fl (.fc "_changes" .fl .nl))))) (.io "Network" (.fc "_line" .fr (.fc "_known" .fr (.fc "_sent" .fl (.fc "_changes" .fl .nl))))))]) (r := .fr) rfl (fs := fs_Network__begin_change) (ds_drop (de_appF (i := 0) N_Network A_Network__changes (se_tup (sa_cons (se_fldCB cb_len (i := 0) N_Network A_Network__sent) (sa_cons (se_fld (i := 0) N_Network A_Network__known) sa_nil))))) rfl h
theorem ok__law_spring (T : Tx mg) (D : At K mg "_law_spring" s__law_spring ["script"]) : Dfn P w K mg base "_law_spring" ["script"] 1 (spO K 1 sem__law_spring) := by
  refine dfn D sc__law_spring (len_O rfl) (fun X f cdv A outer s H vs Q E hX hr h => ?_)
  subst hX
  refine ⟨_, (pss_cons (ps_asg (pe_tup (pa_cons pe_int (pa_cons pe_int pa_nil))) (pg_tup rfl (pgs_cons (pg_name (i := 1) sc__law_spring.nd rfl (Or.inl rfl)) (pgs_cons (pg_name (i := 2) sc__law_spring.nd rfl (Or.inl rfl)) pgs_nil)))) (pss_cons (ps_for PassesOwn.never rfl (pi_list (pe_slice sl_list (pvl 0) po_none (po_some pe_int))) (pg_name (i := 3) sc__law_spring.nd rfl (Or.inl rfl)) (pss_cons (ps_if (pt_cmpR opGe (pe_callB call_abs (by rfl) T.b_abs (by decide +kernel) (pa_cons (pvl 3) pa_nil)) (pe_op opPow pe_int pe_int) (nomark _)) (pss_one (ps_set (i := 1) sc__law_spring.nd rfl (Or.inl rfl) (pe_op opAdd (pe_op opMul (pvl 1) (pe_op opPow pe_int pe_int)) (pe_op opMod (pe_callB call_abs (by rfl) T.b_abs (by decide +kernel) (pa_cons (pvl 3) pa_nil)) (pe_op opPow pe_int pe_int))))) pss_nil) (pss_one (ps_set (i := 2) sc__law_spring.nd rfl (Or.inl rfl) (pe_op opMod (pe_op opAdd (pe_op opAdd (pe_op opMul (pvl 2) pe_int) (pe_op opMod (pvl 3) pe_int)) pe_int) pe_int))))) (pss_one (ps_ret (pe_lst (pa_cons (pvl 1) (pa_cons (pvl 2) (pa_cons pe_int pa_nil)))))))), ?_⟩
  exact run_O (fs := fs__law_spring) (ds_seq (ds_asg (de_tup (da_cons (de_c (IsC.int _)) (da_cons (de_c (IsC.int _)) da_nil))) (dg_tup (dgs_cons (dg_name 1) (dgs_cons (dg_name 2) dgs_nil)))) (ds_seq (ds_for (di_list (DEO.frz (do_sl (de_var 0) dp_no (dp_at (de_c (IsC.int _)))))) (dg_name 3) (ds_seq (ds_if (dt_b (de_op r2_ge (de_cb cb_abs (da_cons (de_var 3) da_nil)) (de_op r2_pow (de_c (IsC.int _)) (de_c (IsC.int _))))) (ds_asg (de_op r2_add (de_op r2_mul (de_var 1) (de_op r2_pow (de_c (IsC.int _)) (de_c (IsC.int _)))) (de_op r2_mod (de_cb cb_abs (da_cons (de_var 3) da_nil)) (de_op r2_pow (de_c (IsC.int _)) (de_c (IsC.int _))))) (dg_name 1)) ds_next) (ds_asg (de_op r2_mod (de_op r2_add (de_op r2_add (de_op r2_mul (de_var 2) (de_c (IsC.int _))) (de_op r2_mod (de_var 3) (de_c (IsC.int _)))) (de_c (IsC.int _))) (de_c (IsC.int _))) (dg_name 2)))) (ds_retO (do_lst (da_cons (de_var 1) (da_cons (de_var 2) (da_cons (de_c (IsC.int _)) da_nil))))))) rfl h
theorem ok__law_draw (T : Tx mg) (D : At K mg "_law_draw" s__law_draw ["spring", "many"]) : Dfn P w K mg base "_law_draw" ["spring", "many"] 1 (spM K 2 0 sem__law_draw) := by
  refine dfn D sc__law_draw (len_M rfl) (fun X f cdv A outer s H vs Q E hX hr h => ?_)
  subst hX
  refine ⟨_, (pss_cons (ps_if (pt_cmpR opGt (pe_ix ix_seq (pvl 0) pe_int (fun _ _ => rfl)) pe_int (nomark _)) (pss_cons (ps_set (i := 2) sc__law_draw.nd rfl (Or.inl rfl) (pe_op opMod (pe_ix ix_seq (pvl 0) pe_int (fun _ _ => rfl)) (pvl 1))) (pss_cons (ps_asg (pe_op opFdv (pe_ix ix_seq (pvl 0) pe_int (fun _ _ => rfl)) (pvl 1)) (pg_sub (pvl 0) pe_int set_list)) (pss_one (ps_ret (pvl 2))))) pss_nil) (pss_cons (ps_asg (pe_op opAdd (pe_ix ix_seq (pvl 0) pe_int (fun _ _ => rfl)) pe_int) (pg_sub (pvl 0) pe_int set_list)) (pss_cons (ps_set (i := 3) sc__law_draw.nd rfl (Or.inl rfl) (pe_op opMod (pe_op opMul (pe_ix ix_seq (pvl 0) pe_int (fun _ _ => rfl)) (pe_ix ix_seq (pvl 0) pe_int (fun _ _ => rfl))) pe_int)) (pss_cons (ps_asg (pe_op opMod (pe_op opAdd (pe_op opAdd (pvl 3) (pe_op opMul (pe_op opMul pe_int (pe_ix ix_seq (pvl 0) pe_int (fun _ _ => rfl))) (pe_ix ix_seq (pvl 0) pe_int (fun _ _ => rfl)))) pe_int) pe_int) (pg_sub (pvl 0) pe_int set_list)) (pss_one (ps_ret (pe_op opMod (pe_op opFdv (pe_ix ix_seq (pvl 0) pe_int (fun _ _ => rfl)) pe_int) (pvl 1)))))))), ?_⟩
  exact run_M (fs := fs__law_draw) (ds_seq (ds_if (dt_b (de_op r2_gt (de_op r2_ix (de_var 0) (de_c (IsC.int _))) (de_c (IsC.int _)))) (ds_seq (ds_asg (de_op r2_mod (de_op r2_ix (de_var 0) (de_c (IsC.int _))) (de_var 1)) (dg_name 2)) (ds_seq (ds_setL (i := 0) (de_c (IsC.int _)) (de_op r2_fdv (de_op r2_ix (de_var 0) (de_c (IsC.int _))) (de_var 1))) (ds_ret (de_var 2)))) ds_next) (ds_seq (ds_setL (i := 0) (de_c (IsC.int _)) (de_op r2_add (de_op r2_ix (de_var 0) (de_c (IsC.int _))) (de_c (IsC.int _)))) (ds_seq (ds_asg (de_op r2_mod (de_op r2_mul (de_op r2_ix (de_var 0) (de_c (IsC.int _))) (de_op r2_ix (de_var 0) (de_c (IsC.int _)))) (de_c (IsC.int _))) (dg_name 3)) (ds_seq (ds_setL (i := 0) (de_c (IsC.int _)) (de_op r2_mod (de_op r2_add (de_op r2_add (de_var 3) (de_op r2_mul (de_op r2_mul (de_c (IsC.int _)) (de_op r2_ix (de_var 0) (de_c (IsC.int _)))) (de_op r2_ix (de_var 0) (de_c (IsC.int _))))) (de_c (IsC.int _))) (de_c (IsC.int _)))) (ds_ret (de_op r2_mod (de_op r2_fdv (de_op r2_ix (de_var 0) (de_c (IsC.int _))) (de_c (IsC.int _))) (de_var 1))))))) rfl h
theorem ok__law_mirrored (T : Tx mg) (D : At K mg "_law_mirrored" s__law_mirrored ["line", "state"]) : Dfn P w K mg base "_law_mirrored" ["line", "state"] 1 (spP K 2 sem__law_mirrored) := by
  refine dfn D sc__law_mirrored (len_P rfl) (fun X f cdv A outer s H vs Q E hX hr h => ?_)
  subst hX
  refine ⟨_, (pss_cons (ps_set (i := 2) sc__law_mirrored.nd rfl (Or.inl rfl) pe_dnewK) (pss_cons (PS.or (ps_lock (ps_for PassesOwn.never rfl (pi_keys (pvl 1)) (pg_name (i := 3) sc__law_mirrored.nd rfl (Or.inl rfl)) (pss_cons (ps_dput (hu_of hr) (pvl 2) (pvl 3) (pe_dget (hu_of hr) (pvl 1) (pvl 3) (fun _ _ => rfl)) rfl) (pss_one (ps_if (pt_cmpR opIsNot (pe_dget (hu_of hr) (pvl 1) (pvl 3) (fun _ _ => rfl)) pe_non (nomark _)) (pss_cons (ps_asg (pe_dget (hu_of hr) (pvl 1) (pvl 3) (fun _ _ => rfl)) (pg_tup rfl (pgs_cons (pg_name (i := 4) sc__law_mirrored.nd rfl (Or.inl rfl)) (pgs_cons (pg_name (i := 5) sc__law_mirrored.nd rfl (Or.inl rfl)) pgs_nil)))) (pss_one (ps_dput (hu_of hr) (pvl 2) (pvl 3) (pe_tup (pa_cons (pe_ifExp (pt_cmpR opIs (pvl 5) pe_non (nomark _)) pe_non (pe_op opSub pe_int (pvl 5))) (pa_cons (pe_ifExp (pt_cmpR opIs (pvl 4) pe_non (nomark _)) pe_non (pe_op opSub pe_int (pvl 4))) pa_nil))) rfl))) pss_nil))))) (ps_for PassesOwn.never rfl (pi_keys (pvl 1)) (pg_name (i := 3) sc__law_mirrored.nd rfl (Or.inl rfl)) (pss_cons (ps_dput (hu_of hr) (pvl 2) (pvl 3) (pe_dget (hu_of hr) (pvl 1) (pvl 3) (fun _ _ => rfl)) rfl) (pss_one (ps_if (pt_cmpR opIsNot (pe_dget (hu_of hr) (pvl 1) (pvl 3) (fun _ _ => rfl)) pe_non (nomark _)) (pss_cons (ps_asg (pe_dget (hu_of hr) (pvl 1) (pvl 3) (fun _ _ => rfl)) (pg_tup rfl (pgs_cons (pg_name (i := 4) sc__law_mirrored.nd rfl (Or.inl rfl)) (pgs_cons (pg_name (i := 5) sc__law_mirrored.nd rfl (Or.inl rfl)) pgs_nil)))) (pss_one (ps_dput (hu_of hr) (pvl 2) (pvl 3) (pe_tup (pa_cons (pe_ifExp (pt_cmpR opIs (pvl 5) pe_non (nomark _)) pe_non (pe_op opSub pe_int (pvl 5))) (pa_cons (pe_ifExp (pt_cmpR opIs (pvl 4) pe_non (nomark _)) pe_non (pe_op opSub pe_int (pvl 4))) pa_nil))) rfl))) pss_nil))))) (pss_one (ps_ret (pe_tup (pa_cons (pe_callTy (call_dictX rfl) (by rfl) T.b_dict boot_dict (pa_cons (PE.or (pe_lock (pe_lc (own := [("host", 3), ("place", 6)])  (tt := tYes) rfl sc__law_mirrored.nd (pi_items (pvl 0)) (blkOk_by (own := [("host", 3), ("place", 6)]) (N := nn__law_mirrored) (sc := defScope s__law_mirrored) (by decide +kernel)) (blk_g fun _ _ _ _ _ => (pg_tup rfl (pgs_cons (pg_name (i := 3) sc__law_mirrored.nd rfl (Or.inl rfl)) (pgs_cons (pg_name (i := 6) sc__law_mirrored.nd rfl (Or.inl rfl)) pgs_nil)))) (fun _ _ _ _ _ => pts_nil) (blk_e fun _ _ _ _ _ => (pe_tup (pa_cons (pvl 3) (pa_cons (pe_op opSub pe_int (pvl 6)) pa_nil)))))) (pe_lc (own := [("host", 3), ("place", 6)])  (tt := tYes) rfl sc__law_mirrored.nd (pi_items (pvl 0)) (blkOk_by (own := [("host", 3), ("place", 6)]) (N := nn__law_mirrored) (sc := defScope s__law_mirrored) (by decide +kernel)) (blk_g fun _ _ _ _ _ => (pg_tup rfl (pgs_cons (pg_name (i := 3) sc__law_mirrored.nd rfl (Or.inl rfl)) (pgs_cons (pg_name (i := 6) sc__law_mirrored.nd rfl (Or.inl rfl)) pgs_nil)))) (fun _ _ _ _ _ => pts_nil) (blk_e fun _ _ _ _ _ => (pe_tup (pa_cons (pvl 3) (pa_cons (pe_op opSub pe_int (pvl 6)) pa_nil)))))) pa_nil)) (pa_cons (pvl 2) pa_nil))))))), ?_⟩
  exact run_P (fs := fs__law_mirrored) (ds_seq (ds_asgO (i := 2) do_dnew) (ds_seq (ds_forD .keys 1 (dg_name 3) (ds_seq (ds_put (i := 2) (de_var 3) (de_dget (de_var 1) (de_var 3))) (ds_if (dt_b (de_op r2_isNot (de_dget (de_var 1) (de_var 3)) (de_c IsC.non))) (ds_seq (ds_asg (de_dget (de_var 1) (de_var 3)) (dg_tup (dgs_cons (dg_name 4) (dgs_cons (dg_name 5) dgs_nil)))) (ds_put (i := 2) (de_var 3) (de_tup (da_cons (de_if (dt_b (de_op r2_is (de_var 5) (de_c IsC.non))) (de_c IsC.non) (de_op r2_sub (de_c (IsC.int _)) (de_var 5))) (da_cons (de_if (dt_b (de_op r2_is (de_var 4) (de_c IsC.non))) (de_c IsC.non) (de_op r2_sub (de_c (IsC.int _)) (de_var 4))) da_nil))))) ds_next))) (ds_frz (i := 2) (ds_ret (de_tup (da_cons (DEO.frz (do_cb co_dict (da_cons (DEO.frz (do_lcD .items 0 (dg_all fun _ _ _ _ _ => (dg_tup (dgs_cons (dg_name 3) (dgs_cons (dg_name 6) dgs_nil)))) (by decide) dt_yes (de_all fun _ _ _ _ _ => (de_tup (da_cons (de_var 3) (da_cons (de_op r2_sub (de_c (IsC.int _)) (de_var 6)) da_nil)))))) da_nil))) (da_cons (de_var 2) da_nil))))))) rfl h
theorem ok_is_position (T : Tx mg) (D : At K mg "is_position" s_is_position ["value"]) (D_is_integer : Dfn P w K mg base "is_integer" ["value"] 1 (spP K 1 sem_is_integer)) : Dfn P w K mg base "is_position" ["value"] 2 (spP K 1 sem_is_position) := by
  refine dfn D sc_is_position (len_P rfl) (fun X f cdv A outer s H vs Q E hX hr h => ?_)
  subst hX
  refine ⟨_, (pss_one (ps_ret (pe_and (pe_callD D_is_integer (hr.mono (by decide)) (by rfl) (pa_cons (pvl 0) pa_nil)) (pe_one (pe_chain opLe opLe (pe_un un_neg (pe_glob (v := .int (1000000000000000000000000000000)) (by rfl) (Exists.choose_spec T.g_FARTHEST) ⟨_, rfl⟩)) (pvl 0) (pe_glob (v := .int (1000000000000000000000000000000)) (by rfl) (Exists.choose_spec T.g_FARTHEST) ⟨_, rfl⟩)))))), ?_⟩
  exact run_P (fs := fs_is_position) (ds_ret (de_and (de_callP (n := 1) (da_cons (de_var 0) da_nil)) (de_chain r2_le r2_le (de_neg (de_c (IsC.int _))) (de_var 0) (de_c (IsC.int _))))) rfl h
theorem ok_covers (T : Tx mg) (D : At K mg "covers" s_covers ["interval", "first", "last"]) (D_contains : Dfn P w K mg base "contains" ["interval", "position"] 1 (spP K 2 sem_contains)) : Dfn P w K mg base "covers" ["interval", "first", "last"] 2 (spP K 3 sem_covers) := by
  refine dfn D sc_covers (len_P rfl) (fun X f cdv A outer s H vs Q E hX hr h => ?_)
  subst hX
  refine ⟨_, (pss_one (ps_ret (pe_and (pe_callD D_contains (hr.mono (by decide)) (by rfl) (pa_cons (pvl 0) (pa_cons (pvl 1) pa_nil))) (pe_one (pe_callD D_contains (hr.mono (by decide)) (by rfl) (pa_cons (pvl 0) (pa_cons (pvl 2) pa_nil))))))), ?_⟩
  exact run_P (fs := fs_covers) (ds_ret (de_and (de_callP (n := 2) (da_cons (de_var 0) (da_cons (de_var 1) da_nil))) (de_callP (n := 2) (da_cons (de_var 0) (da_cons (de_var 2) da_nil))))) rfl h
theorem ok_is_end (T : Tx mg) (D : At K mg "is_end" s_is_end ["line", "value"]) (D_is_integer : Dfn P w K mg base "is_integer" ["value"] 1 (spP K 1 sem_is_integer)) : Dfn P w K mg base "is_end" ["line", "value"] 2 (spP K 2 sem_is_end) := by
  refine dfn D sc_is_end (len_P rfl) (fun X f cdv A outer s H vs Q E hX hr h => ?_)
  subst hX
  refine ⟨_, (pss_one (ps_ret (pe_and (pe_callD D_is_integer (hr.mono (by decide)) (by rfl) (pa_cons (pvl 1) pa_nil)) (pe_one (pe_cmpR op_in_seq (pvl 1) (pe_listValues rfl (pvl 0) (by rfl) T.b_list boot_list) rfl))))), ?_⟩
  exact run_P (fs := fs_is_end) (ds_ret (de_and (de_callP (n := 1) (da_cons (de_var 1) da_nil)) (de_op r2_inF (de_var 1) (DEO.frz (do_listVals (de_var 0)))))) rfl h
theorem ok_is_frame (T : Tx mg) (D : At K mg "is_frame" s_is_frame ["line", "value"]) (D_is_host : Dfn P w K mg base "is_host" ["line", "value"] 1 (spP K 2 sem_is_host)) (D_is_pair : Dfn P w K mg base "is_pair" ["value"] 1 (spP K 1 sem_is_pair)) : Dfn P w K mg base "is_frame" ["line", "value"] 2 (spP K 2 sem_is_frame) := by
  refine dfn D sc_is_frame (len_P rfl) (fun X f cdv A outer s H vs Q E hX hr h => ?_)
  subst hX
  refine ⟨_, (pss_cons (ps_if (pt_not (pt_val (pe_callD D_is_pair (hr.mono (by decide)) (by rfl) (pa_cons (pvl 1) pa_nil)))) (pss_one (ps_ret pe_bl)) pss_nil) (pss_cons (ps_asg (pvl 1) (pg_tup rfl (pgs_cons (pg_name (i := 2) sc_is_frame.nd rfl (Or.inl rfl)) (pgs_cons (pg_name (i := 3) sc_is_frame.nd rfl (Or.inl rfl)) pgs_nil)))) (pss_one (ps_ret (pe_and (pe_callD D_is_host (hr.mono (by decide)) (by rfl) (pa_cons (pvl 0) (pa_cons (pvl 2) pa_nil))) (pe_and (pe_callD D_is_host (hr.mono (by decide)) (by rfl) (pa_cons (pvl 0) (pa_cons (pvl 3) pa_nil))) (pe_one (pe_cmpR (opNeX (hu70 hr)) (pvl 2) (pvl 3) (nomark _))))))))), ?_⟩
  exact run_P (fs := fs_is_frame) (ds_seq (ds_if (dt_not (dt_b (de_callP (n := 1) (da_cons (de_var 1) da_nil)))) (ds_ret (de_c (IsC.bl _))) ds_next) (ds_seq (ds_asg (de_var 1) (dg_tup (dgs_cons (dg_name 2) (dgs_cons (dg_name 3) dgs_nil)))) (ds_ret (de_and (de_callP (n := 2) (da_cons (de_var 0) (da_cons (de_var 2) da_nil))) (de_and (de_callP (n := 2) (da_cons (de_var 0) (da_cons (de_var 3) da_nil))) (de_op r2_neX (de_var 2) (de_var 3))))))) rfl h
theorem ok_check_hosts (T : Tx mg) (D : At K mg "check_hosts" s_check_hosts ["line", "sender", "target"]) (D_is_host : Dfn P w K mg base "is_host" ["line", "value"] 1 (spP K 2 sem_is_host)) : Dfn P w K mg base "check_hosts" ["line", "sender", "target"] 2 (spP K 3 sem_check_hosts) := by
  refine dfn D sc_check_hosts (len_P rfl) (fun X f cdv A outer s H vs Q E hX hr h => ?_)
  subst hX
  refine ⟨_, (pss_cons (ps_if (pt_not (pt_val (pe_callD D_is_host (hr.mono (by decide)) (by rfl) (pa_cons (pvl 0) (pa_cons (pvl 1) pa_nil))))) (pss_one ps_never) pss_nil) (pss_one (ps_if (PW.pt (pw_or (pt_not (pt_val (pe_callD D_is_host (hr.mono (by decide)) (by rfl) (pa_cons (pvl 0) (pa_cons (pvl 2) pa_nil))))) (pw_or1 (pt_cmpR (opEqX (hu70 hr)) (pvl 2) (pvl 1) (nomark _))))) (pss_one ps_never) pss_nil))), ?_⟩
  exact run_P (fs := fs_check_hosts) (ds_seq (ds_if (dt_not (dt_b (de_callP (n := 2) (da_cons (de_var 0) (da_cons (de_var 1) da_nil))))) ds_never ds_next) (ds_if (dt_or (dt_not (dt_b (de_callP (n := 2) (da_cons (de_var 0) (da_cons (de_var 2) da_nil))))) (dt_b (de_op r2_eqX (de_var 2) (de_var 1)))) ds_never ds_next)) rfl h
theorem ok_kind_in (T : Tx mg) (D : At K mg "kind_in" s_kind_in ["line", "state", "sender", "target"]) (D_contains : Dfn P w K mg base "contains" ["interval", "position"] 1 (spP K 2 sem_contains)) : Dfn P w K mg base "kind_in" ["line", "state", "sender", "target"] 2 (spP K 4 sem_kind_in) := by
  refine dfn D sc_kind_in (len_P rfl) (fun X f cdv A outer s H vs Q E hX hr h => ?_)
  subst hX
  refine ⟨_, (pss_cons (ps_if (pt_cmpR opIs (pe_dget (hu_of hr) (pvl 1) (pvl 3) (fun _ _ => rfl)) pe_non (nomark _)) (pss_one (ps_ret (pe_glob (v := .str "all") (by rfl) (Exists.choose_spec T.g_ALL) ⟨_, rfl⟩))) pss_nil) (pss_cons (ps_if (pt_val (pe_callD D_contains (hr.mono (by decide)) (by rfl) (pa_cons (pe_dget (hu_of hr) (pvl 1) (pvl 3) (fun _ _ => rfl)) (pa_cons (pe_dget (hu_of hr) (pvl 0) (pvl 2) (fun _ _ => rfl)) pa_nil)))) (pss_one (ps_ret (pe_glob (v := .str "direct") (by rfl) (Exists.choose_spec T.g_DIRECT) ⟨_, rfl⟩))) pss_nil) (pss_one (ps_ret (pe_glob (v := .str "flood") (by rfl) (Exists.choose_spec T.g_FLOOD) ⟨_, rfl⟩))))), ?_⟩
  exact run_P (fs := fs_kind_in) (ds_seq (ds_if (dt_b (de_op r2_is (de_dget (de_var 1) (de_var 3)) (de_c IsC.non))) (ds_ret (de_c (IsC.str _))) ds_next) (ds_seq (ds_if (dt_b (de_callP (n := 2) (da_cons (de_dget (de_var 1) (de_var 3)) (da_cons (de_dget (de_var 0) (de_var 2)) da_nil)))) (ds_ret (de_c (IsC.str _))) ds_next) (ds_ret (de_c (IsC.str _))))) rfl h
theorem ok_frames_to_ends (T : Tx mg) (D : At K mg "frames_to_ends" s_frames_to_ends ["line", "state", "first", "last", "host"]) (D_contains : Dfn P w K mg base "contains" ["interval", "position"] 1 (spP K 2 sem_contains)) : Dfn P w K mg base "frames_to_ends" ["line", "state", "first", "last", "host"] 2 (spP K 5 sem_frames_to_ends) := by
  refine dfn D sc_frames_to_ends (len_P rfl) (fun X f cdv A outer s H vs Q E hX hr h => ?_)
  subst hX
  refine ⟨_, (pss_cons (ps_if (pt_val (pe_callD D_contains (hr.mono (by decide)) (by rfl) (pa_cons (pe_dget (hu_of hr) (pvl 1) (pvl 4) (fun _ _ => rfl)) (pa_cons (pe_dget (hu_of hr) (pvl 0) (pvl 2) (fun _ _ => rfl)) pa_nil)))) (pss_one (ps_ret (pe_lst (pa_cons (pe_tup (pa_cons (pvl 4) (pa_cons (pvl 3) pa_nil))) pa_nil)))) pss_nil) (pss_cons (ps_if (pt_val (pe_callD D_contains (hr.mono (by decide)) (by rfl) (pa_cons (pe_dget (hu_of hr) (pvl 1) (pvl 4) (fun _ _ => rfl)) (pa_cons (pe_dget (hu_of hr) (pvl 0) (pvl 3) (fun _ _ => rfl)) pa_nil)))) (pss_one (ps_ret (pe_lst (pa_cons (pe_tup (pa_cons (pvl 4) (pa_cons (pvl 2) pa_nil))) pa_nil)))) pss_nil) (pss_cons (ps_for PassesOwn.never rfl (pi_tup (pe_tup (pa_cons (pvl 2) (pa_cons (pvl 3) pa_nil)))) (pg_name (i := 5) sc_frames_to_ends.nd rfl (Or.inl rfl)) (pss_one (ps_if (pt_not (pt_val (pe_callD D_contains (hr.mono (by decide)) (by rfl) (pa_cons (pe_dget (hu_of hr) (pvl 1) (pvl 5) (fun _ _ => rfl)) (pa_cons (pe_dget (hu_of hr) (pvl 0) (pvl 4) (fun _ _ => rfl)) pa_nil))))) (pss_one (ps_ret (pe_lst (pa_cons (pe_tup (pa_cons (pvl 4) (pa_cons (pvl 5) pa_nil))) pa_nil)))) pss_nil))) (pss_one (ps_ret (pe_lst (pa_cons (pe_tup (pa_cons (pvl 4) (pa_cons (pvl 2) pa_nil))) (pa_cons (pe_tup (pa_cons (pvl 4) (pa_cons (pvl 3) pa_nil))) pa_nil)))))))), ?_⟩
  exact run_P (fs := fs_frames_to_ends) (ds_seq (ds_if (dt_b (de_callP (n := 2) (da_cons (de_dget (de_var 1) (de_var 4)) (da_cons (de_dget (de_var 0) (de_var 2)) da_nil)))) (ds_ret (DEO.frz (do_lst (da_cons (de_tup (da_cons (de_var 4) (da_cons (de_var 3) da_nil))) da_nil)))) ds_next) (ds_seq (ds_if (dt_b (de_callP (n := 2) (da_cons (de_dget (de_var 1) (de_var 4)) (da_cons (de_dget (de_var 0) (de_var 3)) da_nil)))) (ds_ret (DEO.frz (do_lst (da_cons (de_tup (da_cons (de_var 4) (da_cons (de_var 2) da_nil))) da_nil)))) ds_next) (ds_seq (ds_for (di_tup (de_tup (da_cons (de_var 2) (da_cons (de_var 3) da_nil)))) (dg_name 5) (ds_if (dt_not (dt_b (de_callP (n := 2) (da_cons (de_dget (de_var 1) (de_var 5)) (da_cons (de_dget (de_var 0) (de_var 4)) da_nil))))) (ds_ret (DEO.frz (do_lst (da_cons (de_tup (da_cons (de_var 4) (da_cons (de_var 5) da_nil))) da_nil)))) ds_next)) (ds_ret (DEO.frz (do_lst (da_cons (de_tup (da_cons (de_var 4) (da_cons (de_var 2) da_nil))) (da_cons (de_tup (da_cons (de_var 4) (da_cons (de_var 3) da_nil))) da_nil)))))))) rfl h
theorem ok__law_names (T : Tx mg) (D : At K mg "_law_names" s__law_names ["spring", "many"]) (D__law_draw : Dfn P w K mg base "_law_draw" ["spring", "many"] 1 (spM K 2 0 sem__law_draw)) : Dfn P w K mg base "_law_names" ["spring", "many"] 2 (spM K 2 0 sem__law_names) := by
  refine dfn D sc__law_names (len_M rfl) (fun X f cdv A outer s H vs Q E hX hr h => ?_)
  subst hX
  refine ⟨_, (pss_cons (ps_set (i := 2) sc__law_names.nd rfl (Or.inr rfl) (pe_op opAdd (pe_callTy (call_listX rfl) (by rfl) T.b_list boot_list (pa_cons pe_str pa_nil)) (pe_lst (pa_cons pe_str (pa_cons pe_str (pa_cons pe_str (pa_cons pe_str (pa_cons pe_str (pa_cons pe_str (pa_cons pe_str (pa_cons pe_str pa_nil))))))))))) (pss_cons (ps_set (i := 2) sc__law_names.nd rfl (Or.inr rfl) (pe_op opAdd (pvc 2) (pe_lst (pa_cons pe_str (pa_cons pe_str (pa_cons pe_str (pa_cons pe_str (pa_cons pe_str (pa_cons pe_str pa_nil))))))))) (pss_one (ps_ret (pe_lc (own := [("turn", 3)]) (g := gName 3) (tt := tYes) rfl sc__law_names.nd (pi_range1 (by rfl) T.b_range (pa_cons (pvl 1) pa_nil)) (blkOk_by (own := [("turn", 3)]) (N := nn__law_names) (sc := defScope s__law_names) (by decide +kernel)) (fun _ _ _ _ _ => (pg_name (i := 3) sc__law_names.nd rfl (Or.inl rfl))) (fun _ _ _ _ _ => pts_nil) (blk_e fun _ _ _ _ _ => (pe_bm PySem.F.plainAttrs_list PySem.F.slot_list_pop PySem.F.type_list_pop mt_popAt (pvc 2) (pa_cons (pe_callD D__law_draw (hr.mono (by decide)) (by rfl) (pa_cons (pvc 0) (pa_cons (pe_callB call_lenX (by rfl) T.b_len PySem.boot_len (pa_cons (pvc 2) pa_nil)) pa_nil))) pa_nil)))))))), ?_⟩
  exact run_M (fs := fs__law_names) (ds_seq (ds_asgO (i := 2) (do_op r2_cat (DEO.frz (do_cb co_list (da_cons (de_c (IsC.str _)) da_nil))) (DEO.frz (do_lst (da_cons (de_c (IsC.str _)) (da_cons (de_c (IsC.str _)) (da_cons (de_c (IsC.str _)) (da_cons (de_c (IsC.str _)) (da_cons (de_c (IsC.str _)) (da_cons (de_c (IsC.str _)) (da_cons (de_c (IsC.str _)) (da_cons (de_c (IsC.str _)) da_nil)))))))))))) (ds_seq (ds_asgO (i := 2) (do_op r2_cat (de_var 2) (DEO.frz (do_lst (da_cons (de_c (IsC.str _)) (da_cons (de_c (IsC.str _)) (da_cons (de_c (IsC.str _)) (da_cons (de_c (IsC.str _)) (da_cons (de_c (IsC.str _)) (da_cons (de_c (IsC.str _)) da_nil)))))))))) (ds_ret (DEO.frz (do_lc (di_rng1 (da_cons (de_var 1) da_nil)) (dg_name 3) (by decide) dt_yes (de_all fun _ _ _ _ _ => (de_popAt (i := 2) (de_callM (n := 2) (p := 0) (da_cons (de_var 0) (da_cons (de_cb cb_len (da_cons (de_var 2) da_nil)) da_nil)))))))))) rfl h
theorem ok__law_frames (T : Tx mg) (D : At K mg "_law_frames" s__law_frames ["spring", "line", "many"]) (D__law_draw : Dfn P w K mg base "_law_draw" ["spring", "many"] 1 (spM K 2 0 sem__law_draw)) : Dfn P w K mg base "_law_frames" ["spring", "line", "many"] 2 (spU K [(.i .fl .fl), .f, .f] .fl sem__law_frames) := by
  refine dfn D sc__law_frames (len_U rfl) (fun X f cdv A outer s H vs Q E hX hr h => ?_)
  subst hX
  refine ⟨_, (pss_cons (ps_par (i := 3) (j := 4) (by rfl) sc__law_frames.nd rfl rfl (by decide) rfl rfl (pa_cons (pe_callB (call_sortX rfl) (by rfl) T.b_sorted (by decide +kernel) (pa_cons (pvl 1) pa_nil)) (pa_cons (pe_lst pa_nil) pa_nil)) (by rfl)) (pss_cons (ps_set (i := 5) sc__law_frames.nd rfl (Or.inl rfl) (pe_op opAdd pe_int (pe_callD D__law_draw (hr.mono (by decide)) (by rfl) (pa_cons (pvl 0) (pa_cons (pe_callB call_lenX (by rfl) T.b_len PySem.boot_len (pa_cons (pvl 3) pa_nil)) pa_nil))))) (pss_cons (ps_for PassesOwn.never rfl (pi_range1 (by rfl) T.b_range (pa_cons (pe_op opMul (pvl 2) (pe_callTy call_int1 (by rfl) T.b_int boot_int (pa_cons (pe_cmpR opGt (pe_callB call_lenX (by rfl) T.b_len PySem.boot_len (pa_cons (pvl 3) pa_nil)) pe_int (nomark _)) pa_nil))) pa_nil)) (pg_name (i := 6) sc__law_frames.nd rfl (Or.inl rfl)) (pss_cons (ps_set (i := 7) sc__law_frames.nd rfl (Or.inl rfl) (pe_callD D__law_draw (hr.mono (by decide)) (by rfl) (pa_cons (pvl 0) (pa_cons (pe_ix ix_seq (pe_lst (pa_cons (pe_callB call_lenX (by rfl) T.b_len PySem.boot_len (pa_cons (pvl 3) pa_nil)) (pa_cons (pvl 5) pa_nil))) (pe_callD D__law_draw (hr.mono (by decide)) (by rfl) (pa_cons (pvl 0) (pa_cons pe_int pa_nil))) (fun _ _ => rfl)) pa_nil)))) (pss_cons (ps_set (i := 8) sc__law_frames.nd rfl (Or.inl rfl) (pe_op opMod (pe_op opAdd (pe_op opAdd (pvl 7) pe_int) (pe_callD D__law_draw (hr.mono (by decide)) (by rfl) (pa_cons (pvl 0) (pa_cons (pe_op opSub (pe_callB call_lenX (by rfl) T.b_len PySem.boot_len (pa_cons (pvl 3) pa_nil)) pe_int) pa_nil)))) (pe_callB call_lenX (by rfl) T.b_len PySem.boot_len (pa_cons (pvl 3) pa_nil)))) (pss_one (ps_expr (pe_bm PySem.F.plainAttrs_list PySem.F.slot_list_append PySem.F.type_list_append mt_append (pvl 4) (pa_cons (pe_tup (pa_cons (pe_ix ix_seq (pvl 3) (pvl 7) (fun _ _ => rfl)) (pa_cons (pe_ix ix_seq (pvl 3) (pvl 8) (fun _ _ => rfl)) pa_nil))) pa_nil))))))) (pss_one (ps_ret (pvl 4)))))), ?_⟩
  exact run_U (ps := [(.i .fl .fl), .f, .f]) (r := .fl) rfl (fs := fs__law_frames) (ds_seq (ds_parO (do_consE (DEO.frz (do_cb co_sort (da_cons (de_var 1) da_nil))) (do_consO (do_lst da_nil) do_nil))) (ds_seq (ds_asg (de_op r2_add (de_c (IsC.int _)) (de_callM (n := 2) (p := 0) (da_cons (de_var 0) (da_cons (de_cb cb_len (da_cons (de_var 3) da_nil)) da_nil)))) (dg_name 5)) (ds_seq (ds_for (di_rng1 (da_cons (de_op r2_mul (de_var 2) (de_cb cb_int1 (da_cons (de_op r2_gt (de_cb cb_len (da_cons (de_var 3) da_nil)) (de_c (IsC.int _))) da_nil))) da_nil)) (dg_name 6) (ds_seq (ds_asg (de_callM (n := 2) (p := 0) (da_cons (de_var 0) (da_cons (de_op r2_ix (DEO.frz (do_lst (da_cons (de_cb cb_len (da_cons (de_var 3) da_nil)) (da_cons (de_var 5) da_nil)))) (de_callM (n := 2) (p := 0) (da_cons (de_var 0) (da_cons (de_c (IsC.int _)) da_nil)))) da_nil))) (dg_name 7)) (ds_seq (ds_asg (de_op r2_mod (de_op r2_add (de_op r2_add (de_var 7) (de_c (IsC.int _))) (de_callM (n := 2) (p := 0) (da_cons (de_var 0) (da_cons (de_op r2_sub (de_cb cb_len (da_cons (de_var 3) da_nil)) (de_c (IsC.int _))) da_nil)))) (de_cb cb_len (da_cons (de_var 3) da_nil))) (dg_name 8)) (ds_drop (de_app (i := 4) (de_tup (da_cons (de_op r2_ix (de_var 3) (de_var 7)) (da_cons (de_op r2_ix (de_var 3) (de_var 8)) da_nil)))))))) (ds_retA 4)))) rfl h
theorem ok__law_state (T : Tx mg) (D : At K mg "_law_state" s__law_state ["spring", "line"]) (D__law_draw : Dfn P w K mg base "_law_draw" ["spring", "many"] 1 (spM K 2 0 sem__law_draw)) : Dfn P w K mg base "_law_state" ["spring", "line"] 2 (spU K [(.i .fl .fl), .f] .fl sem__law_state) := by
  refine dfn D sc__law_state (len_U rfl) (fun X f cdv A outer s H vs Q E hX hr h => ?_)
  subst hX
  refine ⟨_, (pss_cons (ps_par3 (i := 2) (j := 3) (l := 4) (by rfl) sc__law_state.nd rfl rfl rfl (by decide) (by decide) (by decide) rfl rfl rfl (pa_cons (pe_callD D__law_draw (hr.mono (by decide)) (by rfl) (pa_cons (pvl 0) (pa_cons pe_int pa_nil))) (pa_cons pe_dnewK (pa_cons (pe_sortValues rfl (pvc 1) (by rfl) T.b_sorted (by decide +kernel)) pa_nil))) (by rfl)) (pss_cons (ps_for PassesOwn.never rfl (pi_list (pe_callB (call_sortX rfl) (by rfl) T.b_sorted (by decide +kernel) (pa_cons (pvc 1) pa_nil))) (pg_name (i := 5) sc__law_state.nd rfl (Or.inr rfl)) (pss_cons (ps_set (i := 6) sc__law_state.nd rfl (Or.inl rfl) (pe_op opAdd (pe_lc (own := [("place", 9)]) (g := gName 9)  rfl sc__law_state.nd (pi_list (pvl 4)) (blkOk_by (own := [("place", 9)]) (N := nn__law_state) (sc := defScope s__law_state) (by decide +kernel)) (fun _ _ _ _ _ => (pg_name (i := 9) sc__law_state.nd rfl (Or.inl rfl))) (blk_t fun _ _ _ _ _ => (pts_one (pt_cmpR opLe (pvl 9) (pe_dget (hu_of hr) (pvc 1) (pvc 5) (fun _ _ => rfl)) (nomark _)))) (blk_e fun _ _ _ _ _ => (pvl 9))) (pe_lst (pa_cons pe_non pa_nil)))) (pss_cons (ps_set (i := 7) sc__law_state.nd rfl (Or.inl rfl) (pe_op opAdd (pe_lst (pa_cons pe_non pa_nil)) (pe_lc (own := [("place", 9)]) (g := gName 9)  rfl sc__law_state.nd (pi_list (pvl 4)) (blkOk_by (own := [("place", 9)]) (N := nn__law_state) (sc := defScope s__law_state) (by decide +kernel)) (fun _ _ _ _ _ => (pg_name (i := 9) sc__law_state.nd rfl (Or.inl rfl))) (blk_t fun _ _ _ _ _ => (pts_one (pt_cmpR opGe (pvl 9) (pe_dget (hu_of hr) (pvc 1) (pvc 5) (fun _ _ => rfl)) (nomark _)))) (blk_e fun _ _ _ _ _ => (pvl 9))))) (pss_cons (ps_set (i := 8) sc__law_state.nd rfl (Or.inl rfl) (pe_callD D__law_draw (hr.mono (by decide)) (by rfl) (pa_cons (pvl 0) (pa_cons (pe_ix ix_seq (pe_lst (pa_cons pe_int (pa_cons pe_int (pa_cons pe_int (pa_cons pe_int pa_nil))))) (pvl 2) (fun _ _ => rfl)) pa_nil)))) (pss_one (ps_if (pt_cmpR (opEqX (hu70 hr)) (pvl 8) pe_int (nomark _)) (pss_one (ps_dput (hu_of hr) (pvl 3) (pvc 5) pe_non rfl)) (pss_one (ps_if (PW.pt (pw_and (pt_cmpR (opEqX (hu70 hr)) (pvl 8) pe_int (nomark _)) (pw_and1 (pt_cmpR opGt (pvl 2) pe_int (nomark _))))) (pss_one (ps_dput (hu_of hr) (pvl 3) (pvc 5) (pe_tup (pa_cons pe_non (pa_cons pe_non pa_nil))) rfl)) (pss_one (ps_if (PW.pt (pw_and (pt_cmpR (opEqX (hu70 hr)) (pvl 8) pe_int (nomark _)) (pw_and1 (pt_cmpR opGt (pvl 2) pe_int (nomark _))))) (pss_one (ps_dput (hu_of hr) (pvl 3) (pvc 5) (pe_tup (pa_cons (pe_dget (hu_of hr) (pvc 1) (pvc 5) (fun _ _ => rfl)) (pa_cons (pe_dget (hu_of hr) (pvc 1) (pvc 5) (fun _ _ => rfl)) pa_nil))) rfl)) (pss_one (ps_dput (hu_of hr) (pvl 3) (pvc 5) (pe_tup (pa_cons (pe_ix ix_seq (pvl 6) (pe_callD D__law_draw (hr.mono (by decide)) (by rfl) (pa_cons (pvl 0) (pa_cons (pe_callB call_lenX (by rfl) T.b_len PySem.boot_len (pa_cons (pvl 6) pa_nil)) pa_nil))) (fun _ _ => rfl)) (pa_cons (pe_ix ix_seq (pvl 7) (pe_callD D__law_draw (hr.mono (by decide)) (by rfl) (pa_cons (pvl 0) (pa_cons (pe_callB call_lenX (by rfl) T.b_len PySem.boot_len (pa_cons (pvl 7) pa_nil)) pa_nil))) (fun _ _ => rfl)) pa_nil))) rfl)))))))))))) (pss_one (ps_ret (pvl 3))))), ?_⟩
  exact run_U (ps := [(.i .fl .fl), .f]) (r := .fl) rfl (fs := fs__law_state) (ds_seq (ds_par3O (do_consE (de_callM (n := 2) (p := 0) (da_cons (de_var 0) (da_cons (de_c (IsC.int _)) da_nil))) (do_consO do_dnew (do_consE (DEO.frz (do_sortVals (de_var 1))) do_nil)))) (ds_seq (ds_for (di_list (DEO.frz (do_cb co_sort (da_cons (de_var 1) da_nil)))) (dg_name 5) (ds_seq (ds_asg (DEO.frz (do_op r2_cat (DEO.frz (do_lc (di_list (de_var 4)) (dg_name 9) (by decide) (dt_all fun _ _ _ _ _ => (dt_b (de_op r2_le (de_var 9) (de_dget (de_var 1) (de_var 5))))) (de_all fun _ _ _ _ _ => (de_var 9)))) (DEO.frz (do_lst (da_cons (de_c IsC.non) da_nil))))) (dg_name 6)) (ds_seq (ds_asg (DEO.frz (do_op r2_cat (DEO.frz (do_lst (da_cons (de_c IsC.non) da_nil))) (DEO.frz (do_lc (di_list (de_var 4)) (dg_name 9) (by decide) (dt_all fun _ _ _ _ _ => (dt_b (de_op r2_ge (de_var 9) (de_dget (de_var 1) (de_var 5))))) (de_all fun _ _ _ _ _ => (de_var 9)))))) (dg_name 7)) (ds_seq (ds_asg (de_callM (n := 2) (p := 0) (da_cons (de_var 0) (da_cons (de_op r2_ix (DEO.frz (do_lst (da_cons (de_c (IsC.int _)) (da_cons (de_c (IsC.int _)) (da_cons (de_c (IsC.int _)) (da_cons (de_c (IsC.int _)) da_nil)))))) (de_var 2)) da_nil))) (dg_name 8)) (ds_if (dt_b (de_op r2_eqX (de_var 8) (de_c (IsC.int _)))) (ds_put (i := 3) (de_var 5) (de_c IsC.non)) (ds_if (dt_and (dt_b (de_op r2_eqX (de_var 8) (de_c (IsC.int _)))) (dt_b (de_op r2_gt (de_var 2) (de_c (IsC.int _))))) (ds_put (i := 3) (de_var 5) (de_tup (da_cons (de_c IsC.non) (da_cons (de_c IsC.non) da_nil)))) (ds_if (dt_and (dt_b (de_op r2_eqX (de_var 8) (de_c (IsC.int _)))) (dt_b (de_op r2_gt (de_var 2) (de_c (IsC.int _))))) (ds_put (i := 3) (de_var 5) (de_tup (da_cons (de_dget (de_var 1) (de_var 5)) (da_cons (de_dget (de_var 1) (de_var 5)) da_nil)))) (ds_put (i := 3) (de_var 5) (de_tup (da_cons (de_op r2_ix (de_var 6) (de_callM (n := 2) (p := 0) (da_cons (de_var 0) (da_cons (de_cb cb_len (da_cons (de_var 6) da_nil)) da_nil)))) (da_cons (de_op r2_ix (de_var 7) (de_callM (n := 2) (p := 0) (da_cons (de_var 0) (da_cons (de_cb cb_len (da_cons (de_var 7) da_nil)) da_nil)))) da_nil))))))))))) (ds_retA 3))) rfl h
theorem ok_is_line (T : Tx mg) (D : At K mg "is_line" s_is_line ["value"]) (D_is_name : Dfn P w K mg base "is_name" ["value"] 1 (spP K 1 sem_is_name)) (D_is_position : Dfn P w K mg base "is_position" ["value"] 2 (spP K 1 sem_is_position)) : Dfn P w K mg base "is_line" ["value"] 3 (spP K 1 sem_is_line) := by
  refine dfn D sc_is_line (len_P rfl) (fun X f cdv A outer s H vs Q E hX hr h => ?_)
  subst hX
  refine ⟨_, (pss_cons (ps_if (PW.pt (pw_or (pt_not (pt_val (pe_callB call_isi (by rfl) T.b_isinstance (by decide +kernel) (pa_cons (pvl 0) (pa_cons (pe_bltn (v := .ty "dict") (by rfl) T.b_dict boot_dict rfl) pa_nil))))) (pw_or1 (pt_not (pt_chain opLe opLe pe_int (pe_callB call_lenX (by rfl) T.b_len PySem.boot_len (pa_cons (pvl 0) pa_nil)) (pe_glob (v := .int (40)) (by rfl) (Exists.choose_spec T.g_MOST_HOSTS) ⟨_, rfl⟩)))))) (pss_one (ps_ret pe_bl)) pss_nil) (pss_cons (PS.or (ps_lock (ps_for PassesOwn.never rfl (pi_items (pvl 0)) (pg_tup rfl (pgs_cons (pg_name (i := 1) sc_is_line.nd rfl (Or.inl rfl)) (pgs_cons (pg_name (i := 2) sc_is_line.nd rfl (Or.inl rfl)) pgs_nil))) (pss_one (ps_if (PW.pt (pw_or (pt_not (pt_val (pe_callD D_is_name (hr.mono (by decide)) (by rfl) (pa_cons (pvl 1) pa_nil)))) (pw_or1 (pt_not (pt_val (pe_callD D_is_position (hr.mono (by decide)) (by rfl) (pa_cons (pvl 2) pa_nil))))))) (pss_one (ps_ret pe_bl)) pss_nil)))) (ps_for PassesOwn.never rfl (pi_items (pvl 0)) (pg_tup rfl (pgs_cons (pg_name (i := 1) sc_is_line.nd rfl (Or.inl rfl)) (pgs_cons (pg_name (i := 2) sc_is_line.nd rfl (Or.inl rfl)) pgs_nil))) (pss_one (ps_if (PW.pt (pw_or (pt_not (pt_val (pe_callD D_is_name (hr.mono (by decide)) (by rfl) (pa_cons (pvl 1) pa_nil)))) (pw_or1 (pt_not (pt_val (pe_callD D_is_position (hr.mono (by decide)) (by rfl) (pa_cons (pvl 2) pa_nil))))))) (pss_one (ps_ret pe_bl)) pss_nil)))) (pss_one (ps_ret (pe_cmpR (opEqX (hu70 hr)) (RZ.pe_lenSetI (by rfl) T.b_len (by rfl) T.b_set (pe_listValues rfl (pvl 0) (by rfl) T.b_list boot_list)) (pe_callB call_lenX (by rfl) T.b_len PySem.boot_len (pa_cons (pvl 0) pa_nil)) (nomark _)))))), ?_⟩
  exact run_P (fs := fs_is_line) (ds_seq (ds_if (dt_or (dt_not (dt_b (de_isi (by decide) (de_var 0)))) (dt_not (dt_b (de_chain r2_le r2_le (de_c (IsC.int _)) (de_cb cb_len (da_cons (de_var 0) da_nil)) (de_c (IsC.int _)))))) (ds_ret (de_c (IsC.bl _))) ds_next) (ds_seq (ds_forD .items 0 (dg_tup (dgs_cons (dg_name 1) (dgs_cons (dg_name 2) dgs_nil))) (ds_if (dt_or (dt_not (dt_b (de_callP (n := 1) (da_cons (de_var 1) da_nil)))) (dt_not (dt_b (de_callP (n := 1) (da_cons (de_var 2) da_nil))))) (ds_ret (de_c (IsC.bl _))) ds_next)) (ds_ret (de_op r2_eqX (de_lenSet (DEO.frz (do_listVals (de_var 0)))) (de_cb cb_len (da_cons (de_var 0) da_nil)))))) rfl h
theorem ok_is_known_interval (T : Tx mg) (D : At K mg "is_known_interval" s_is_known_interval ["line", "host", "value"]) (D_is_end : Dfn P w K mg base "is_end" ["line", "value"] 2 (spP K 2 sem_is_end)) (D_is_pair : Dfn P w K mg base "is_pair" ["value"] 1 (spP K 1 sem_is_pair)) : Dfn P w K mg base "is_known_interval" ["line", "host", "value"] 3 (spP K 3 sem_is_known_interval) := by
  refine dfn D sc_is_known_interval (len_P rfl) (fun X f cdv A outer s H vs Q E hX hr h => ?_)
  subst hX
  refine ⟨_, (pss_cons (ps_if (pt_cmpR opIs (pvl 2) pe_non (nomark _)) (pss_one (ps_ret pe_bl)) pss_nil) (pss_cons (ps_if (pt_not (pt_val (pe_callD D_is_pair (hr.mono (by decide)) (by rfl) (pa_cons (pvl 2) pa_nil)))) (pss_one (ps_ret pe_bl)) pss_nil) (pss_cons (ps_asg (pvl 2) (pg_tup rfl (pgs_cons (pg_name (i := 3) sc_is_known_interval.nd rfl (Or.inl rfl)) (pgs_cons (pg_name (i := 4) sc_is_known_interval.nd rfl (Or.inl rfl)) pgs_nil)))) (pss_cons (ps_set (i := 5) sc_is_known_interval.nd rfl (Or.inl rfl) (pe_dget (hu_of hr) (pvl 0) (pvl 1) (fun _ _ => rfl))) (pss_cons (ps_set (i := 6) sc_is_known_interval.nd rfl (Or.inl rfl) (pe_or (pe_cmpR opIs (pvl 3) pe_non (nomark _)) (pe_one (pe_and (pe_callD D_is_end (hr.mono (by decide)) (by rfl) (pa_cons (pvl 0) (pa_cons (pvl 3) pa_nil))) (pe_one (pe_cmpR opLe (pvl 3) (pvl 5) (nomark _))))))) (pss_cons (ps_set (i := 7) sc_is_known_interval.nd rfl (Or.inl rfl) (pe_or (pe_cmpR opIs (pvl 4) pe_non (nomark _)) (pe_one (pe_and (pe_callD D_is_end (hr.mono (by decide)) (by rfl) (pa_cons (pvl 0) (pa_cons (pvl 4) pa_nil))) (pe_one (pe_cmpR opGe (pvl 4) (pvl 5) (nomark _))))))) (pss_one (ps_ret (pe_and (pvl 6) (pe_one (pvl 7))))))))))), ?_⟩
  exact run_P (fs := fs_is_known_interval) (ds_seq (ds_if (dt_b (de_op r2_is (de_var 2) (de_c IsC.non))) (ds_ret (de_c (IsC.bl _))) ds_next) (ds_seq (ds_if (dt_not (dt_b (de_callP (n := 1) (da_cons (de_var 2) da_nil)))) (ds_ret (de_c (IsC.bl _))) ds_next) (ds_seq (ds_asg (de_var 2) (dg_tup (dgs_cons (dg_name 3) (dgs_cons (dg_name 4) dgs_nil)))) (ds_seq (ds_asg (de_dget (de_var 0) (de_var 1)) (dg_name 5)) (ds_seq (ds_asg (de_or (de_op r2_is (de_var 3) (de_c IsC.non)) (de_and (de_callP (n := 2) (da_cons (de_var 0) (da_cons (de_var 3) da_nil))) (de_op r2_le (de_var 3) (de_var 5)))) (dg_name 6)) (ds_seq (ds_asg (de_or (de_op r2_is (de_var 4) (de_c IsC.non)) (de_and (de_callP (n := 2) (da_cons (de_var 0) (da_cons (de_var 4) da_nil))) (de_op r2_ge (de_var 4) (de_var 5)))) (dg_name 7)) (ds_ret (de_and (de_var 6) (de_var 7))))))))) rfl h
theorem ok_send_one (T : Tx mg) (D : At K mg "send_one" s_send_one ["line", "known", "sender", "target"]) (D_joined : Dfn P w K mg base "joined" ["interval", "other"] 1 (spP K 2 sem_joined)) (D_kind_in : Dfn P w K mg base "kind_in" ["line", "state", "sender", "target"] 2 (spP K 4 sem_kind_in)) (D_reach_of_kind : Dfn P w K mg base "reach_of_kind" ["kind", "start", "end"] 1 (spP K 3 sem_reach_of_kind)) : Dfn P w K mg base "send_one" ["line", "known", "sender", "target"] 3 (spM K 4 1 sem_send_one) := by
  refine dfn D sc_send_one (len_M rfl) (fun X f cdv A outer s H vs Q E hX hr h => ?_)
  subst hX
  refine ⟨_, (pss_cons (ps_set (i := 4) sc_send_one.nd rfl (Or.inl rfl) (pe_callD D_kind_in (hr.mono (by decide)) (by rfl) (pa_cons (pvl 0) (pa_cons (pvl 1) (pa_cons (pvl 2) (pa_cons (pvl 3) pa_nil)))))) (pss_cons (ps_set (i := 5) sc_send_one.nd rfl (Or.inl rfl) (pe_callD D_reach_of_kind (hr.mono (by decide)) (by rfl) (pa_cons (pvl 4) (pa_cons (pe_dget (hu_of hr) (pvl 0) (pvl 2) (fun _ _ => rfl)) (pa_cons (pe_dget (hu_of hr) (pvl 0) (pvl 3) (fun _ _ => rfl)) pa_nil))))) (pss_cons (ps_dput (hu_of hr) (pvl 1) (pvl 2) (pe_callD D_joined (hr.mono (by decide)) (by rfl) (pa_cons (pe_dget (hu_of hr) (pvl 1) (pvl 2) (fun _ _ => rfl)) (pa_cons (pvl 5) pa_nil))) rfl) (pss_one (ps_ret (pe_tup (pa_cons (pvl 4) (pa_cons (pvl 5) pa_nil)))))))), ?_⟩
  exact run_M (fs := fs_send_one) (ds_seq (ds_asg (de_callB (n := 4) (p := 1) (da_cons (de_var 0) (da_cons (de_var 1) (da_cons (de_var 2) (da_cons (de_var 3) da_nil))))) (dg_name 4)) (ds_seq (ds_asg (de_callP (n := 3) (da_cons (de_var 4) (da_cons (de_dget (de_var 0) (de_var 2)) (da_cons (de_dget (de_var 0) (de_var 3)) da_nil)))) (dg_name 5)) (ds_seq (ds_put (i := 1) (de_var 2) (de_callP (n := 2) (da_cons (de_dget (de_var 1) (de_var 2)) (da_cons (de_var 5) da_nil)))) (ds_ret (de_tup (da_cons (de_var 4) (da_cons (de_var 5) da_nil))))))) rfl h
theorem ok__law_line (T : Tx mg) (D : At K mg "_law_line" s__law_line ["spring", "many"]) (D__law_draw : Dfn P w K mg base "_law_draw" ["spring", "many"] 1 (spM K 2 0 sem__law_draw)) (D__law_names : Dfn P w K mg base "_law_names" ["spring", "many"] 2 (spM K 2 0 sem__law_names)) : Dfn P w K mg base "_law_line" ["spring", "many"] 3 (spU K [(.i .fl .fl), .f] .fl sem__law_line) := by
  refine dfn D sc__law_line (len_U rfl) (fun X f cdv A outer s H vs Q E hX hr h => ?_)
  subst hX
  refine ⟨_, (pss_cons (ps_set (i := 2) sc__law_line.nd rfl (Or.inl rfl) (pe_callD D__law_draw (hr.mono (by decide)) (by rfl) (pa_cons (pvl 0) (pa_cons pe_int pa_nil)))) (pss_cons (ps_par (i := 3) (j := 4) (by rfl) sc__law_line.nd rfl rfl (by decide) rfl rfl (pa_cons (pe_ix ix_seq (pe_lst (pa_cons pe_int (pa_cons pe_int (pa_cons (pe_op opPow pe_int pe_int) (pa_cons (pe_op opMul pe_int (pe_op opPow pe_int pe_int)) pa_nil))))) (pvl 2) (fun _ _ => rfl)) (pa_cons (pe_ix ix_seq (pe_lst (pa_cons (pe_un un_neg pe_int) (pa_cons (pe_un un_neg pe_int) (pa_cons (pe_un un_neg (pe_op opPow pe_int pe_int)) (pa_cons (pe_un un_neg (pe_op opPow pe_int pe_int)) pa_nil))))) (pvl 2) (fun _ _ => rfl)) pa_nil)) (by rfl)) (pss_cons (ps_par (i := 5) (j := 6) (by rfl) sc__law_line.nd rfl rfl (by decide) rfl rfl (pa_cons (pe_lst pa_nil) (pa_cons (pe_lst pa_nil) pa_nil)) (by rfl)) (pss_cons (ps_for PassesOwn.never rfl (pi_list (pe_callD D__law_names (hr.mono (by decide)) (by rfl) (pa_cons (pvl 0) (pa_cons (pvl 1) pa_nil)))) (pg_name (i := 7) sc__law_line.nd rfl (Or.inl rfl)) (pss_cons (ps_expr (pe_bm PySem.F.plainAttrs_list PySem.F.slot_list_append PySem.F.type_list_append mt_append (pvl 5) (pa_cons (pe_tup (pa_cons (pvl 7) (pa_cons (pvl 4) pa_nil))) pa_nil))) (pss_one (ps_set (i := 4) sc__law_line.nd rfl (Or.inl rfl) (pe_op opAdd (pe_op opAdd (pvl 4) pe_int) (pe_callD D__law_draw (hr.mono (by decide)) (by rfl) (pa_cons (pvl 0) (pa_cons (pvl 3) pa_nil)))))))) (pss_cons (ps_while PassesOwn.never (pt_cmpR (opNeX (hu70 hr)) (pvl 5) (pe_lst pa_nil) (nomark _)) (pss_one (ps_expr (pe_bm PySem.F.plainAttrs_list PySem.F.slot_list_append PySem.F.type_list_append mt_append (pvl 6) (pa_cons (pe_bm PySem.F.plainAttrs_list PySem.F.slot_list_pop PySem.F.type_list_pop mt_popAt (pvl 5) (pa_cons (pe_callD D__law_draw (hr.mono (by decide)) (by rfl) (pa_cons (pvl 0) (pa_cons (pe_callB call_lenX (by rfl) T.b_len PySem.boot_len (pa_cons (pvl 5) pa_nil)) pa_nil))) pa_nil)) pa_nil))))) (pss_one (ps_ret (pe_callTy (call_dictX rfl) (by rfl) T.b_dict boot_dict (pa_cons (pvl 6) pa_nil))))))))), ?_⟩
  exact run_U (ps := [(.i .fl .fl), .f]) (r := .fl) rfl (fs := fs__law_line) (ds_seq (ds_asg (de_callM (n := 2) (p := 0) (da_cons (de_var 0) (da_cons (de_c (IsC.int _)) da_nil))) (dg_name 2)) (ds_seq (ds_par (da_cons (de_op r2_ix (DEO.frz (do_lst (da_cons (de_c (IsC.int _)) (da_cons (de_c (IsC.int _)) (da_cons (de_op r2_pow (de_c (IsC.int _)) (de_c (IsC.int _))) (da_cons (de_op r2_mul (de_c (IsC.int _)) (de_op r2_pow (de_c (IsC.int _)) (de_c (IsC.int _)))) da_nil)))))) (de_var 2)) (da_cons (de_op r2_ix (DEO.frz (do_lst (da_cons (de_neg (de_c (IsC.int _))) (da_cons (de_neg (de_c (IsC.int _))) (da_cons (de_neg (de_op r2_pow (de_c (IsC.int _)) (de_c (IsC.int _)))) (da_cons (de_neg (de_op r2_pow (de_c (IsC.int _)) (de_c (IsC.int _)))) da_nil)))))) (de_var 2)) da_nil))) (ds_seq (ds_parO (do_consO (do_lst da_nil) (do_consO (do_lst da_nil) do_nil))) (ds_seq (ds_for (di_list (de_callM (n := 2) (p := 0) (da_cons (de_var 0) (da_cons (de_var 1) da_nil)))) (dg_name 7) (ds_seq (ds_drop (de_app (i := 5) (de_tup (da_cons (de_var 7) (da_cons (de_var 4) da_nil))))) (ds_asg (de_op r2_add (de_op r2_add (de_var 4) (de_c (IsC.int _))) (de_callM (n := 2) (p := 0) (da_cons (de_var 0) (da_cons (de_var 3) da_nil)))) (dg_name 4)))) (ds_seq (ds_while 100000 (dt_b (de_op r2_neX (de_var 5) (DEO.frz (do_lst da_nil)))) (ds_drop (de_app (i := 6) (de_popAt (i := 5) (de_callM (n := 2) (p := 0) (da_cons (de_var 0) (da_cons (de_cb cb_len (da_cons (de_var 5) da_nil)) da_nil))))))) (ds_retO (do_cb co_dict (da_cons (de_var 6) da_nil)))))))) rfl h
theorem ok_check_line (T : Tx mg) (D : At K mg "check_line" s_check_line ["line"]) (D_is_line : Dfn P w K mg base "is_line" ["value"] 3 (spP K 1 sem_is_line)) : Dfn P w K mg base "check_line" ["line"] 4 (spP K 1 sem_check_line) := by
  refine dfn D sc_check_line (len_P rfl) (fun X f cdv A outer s H vs Q E hX hr h => ?_)
  subst hX
  refine ⟨_, (pss_one (ps_if (pt_not (pt_val (pe_callD D_is_line (hr.mono (by decide)) (by rfl) (pa_cons (pvl 0) pa_nil)))) (pss_one ps_never) pss_nil)), ?_⟩
  exact run_P (fs := fs_check_line) (ds_if (dt_not (dt_b (de_callP (n := 1) (da_cons (de_var 0) da_nil)))) ds_never ds_next) rfl h
theorem ok_send_each (T : Tx mg) (D : At K mg "send_each" s_send_each ["line", "known", "frames"]) (D_send_one : Dfn P w K mg base "send_one" ["line", "known", "sender", "target"] 3 (spM K 4 1 sem_send_one)) : Dfn P w K mg base "send_each" ["line", "known", "frames"] 4 (spM K 3 1 sem_send_each) := by
  refine dfn D sc_send_each (len_M rfl) (fun X f cdv A outer s H vs Q E hX hr h => ?_)
  subst hX
  refine ⟨_, (pss_cons (ps_set (i := 3) sc_send_each.nd rfl (Or.inl rfl) (pe_lst pa_nil)) (pss_cons (ps_for PassesOwn.never rfl (pi_list (pvl 2)) (pg_tup rfl (pgs_cons (pg_name (i := 4) sc_send_each.nd rfl (Or.inl rfl)) (pgs_cons (pg_name (i := 5) sc_send_each.nd rfl (Or.inl rfl)) pgs_nil))) (pss_one (ps_expr (pe_bm PySem.F.plainAttrs_list PySem.F.slot_list_append PySem.F.type_list_append mt_append (pvl 3) (pa_cons (pe_callD D_send_one (hr.mono (by decide)) (by rfl) (pa_cons (pvl 0) (pa_cons (pvl 1) (pa_cons (pvl 4) (pa_cons (pvl 5) pa_nil))))) pa_nil))))) (pss_one (ps_ret (pvl 3))))), ?_⟩
  exact run_M (fs := fs_send_each) (ds_seq (ds_asgO (i := 3) (do_lst da_nil)) (ds_seq (ds_for (di_list (de_var 2)) (dg_tup (dgs_cons (dg_name 4) (dgs_cons (dg_name 5) dgs_nil))) (ds_drop (de_app (i := 3) (de_callM (n := 4) (p := 1) (da_cons (de_var 0) (da_cons (de_var 1) (da_cons (de_var 4) (da_cons (de_var 5) da_nil)))))))) (ds_ret (de_var 3)))) rfl h
theorem ok_Network__pass_on (T : Tx mg) {C_Network : Addr} (N_Network : ClsN K "Network" C_Network) (A_Network__line : NoAttr K C_Network "_line") (A_Network__known : NoAttr K C_Network "_known") (A_Network__sent : NoAttr K C_Network "_sent") (A_Network__changes : NoAttr K C_Network "_changes") (D : AtM K C_Network "_pass_on" "Network._pass_on" s_Network__pass_on ["self", "sender", "target"]) (D_Network_known : DfnP P w K mg base C_Network "known" ["self"] 1 (spU K [(.i (.io "Network" (.fc "_line" .fr (.fc "_known" .fr (.fc "_sent" .fl (.fc "_changes" .fl .nl))))) (.io "Network" (.fc "_line" .fr (.fc "_known" .fr (.fc "_sent" .fl (.fc "_changes" .fl .nl))))))] .fl sem_Network_known)) (D_send_one : Dfn P w K mg base "send_one" ["line", "known", "sender", "target"] 3 (spM K 4 1 sem_send_one)) : DfnM P w K mg base C_Network "_pass_on" ["self", "sender", "target"] 4 (spU K [(.i (.io "Network" (.fc "_line" .fr (.fc "_known" .fr (.fc "_sent" .fl (.fc "_changes" .fl .nl))))) (.io "Network" (.fc "_line" .fr (.fc "_known" .fr (.fc "_sent" .fl (.fc "_changes" .fl .nl)))))), .f, .f] .fr sem_Network__pass_on) := by
  refine dfnM D sc_Network__pass_on (len_U rfl) (fun X f cdv A outer s H vs Q E hX hr h => ?_)
  subst hX
  obtain ⟨p_Network_known, f_Network_known, fd_Network_known, M_Network_known, B_Network_known, F_Network_known⟩ := D_Network_known.ex
  refine ⟨_, (pss_cons (ps_set (i := 3) sc_Network__pass_on.nd rfl (Or.inl rfl) (pe_prop (pvl 0) N_Network.cl M_Network_known F_Network_known (hr.mono (by decide)) B_Network_known .nil pass0 rfl)) (pss_cons (ps_asg (pe_callD D_send_one (hr.mono (by decide)) (by rfl) (pa_cons (pe_fld (pvl 0) rfl) (pa_cons (pvl 3) (pa_cons (pvl 1) (pa_cons (pvl 2) pa_nil))))) (pg_tup rfl (pgs_cons (pg_name (i := 4) sc_Network__pass_on.nd rfl (Or.inl rfl)) (pgs_cons (pg_name (i := 5) sc_Network__pass_on.nd rfl (Or.inl rfl)) pgs_nil)))) (pss_cons (ps_fld (pvl 0) (pvl 3) rfl) (pss_cons (ps_expr (pe_bm PySem.F.plainAttrs_list PySem.F.slot_list_append PySem.F.type_list_append mt_append (pe_fld (pvl 0) rfl) (pa_cons (pe_tup (pa_cons (pvl 1) (pa_cons (pvl 2) pa_nil))) pa_nil))) (pss_one (ps_ret (pvl 4))))))), ?_⟩
  exact run_U (ps := [(.i (.io "Network" (.fc "_line" .fr (.fc "_known" .fr (.fc "_sent" .fl (.fc "_changes" .fl .nl))))) (.io "Network" (.fc "_line" .fr (.fc "_known" .fr (.fc "_sent" .fl (.fc "_changes" .fl .nl)))))), .f, .f]) (r := .fr) rfl (fs := fs_Network__pass_on) (ds_seq (ds_asgO (i := 3) (do_n (den_prop (i := 0) (ps := [(.i (.io "Network" (.fc "_line" .fr (.fc "_known" .fr (.fc "_sent" .fl (.fc "_changes" .fl .nl))))) (.io "Network" (.fc "_line" .fr (.fc "_known" .fr (.fc "_sent" .fl (.fc "_changes" .fl .nl))))))]) (r := .fl) N_Network rfl rfl))) (ds_seq (ds_asg (de_callM (n := 4) (p := 1) (da_cons (de_fld (i := 0) N_Network A_Network__line) (da_cons (de_var 3) (da_cons (de_var 1) (da_cons (de_var 2) da_nil))))) (dg_tup (dgs_cons (dg_name 4) (dgs_cons (dg_name 5) dgs_nil)))) (ds_seq (ds_frz (i := 3) (ds_setF (i := 0) (s := .fr) N_Network A_Network__known (den_e (de_var 3)))) (ds_seq (ds_drop (de_appF (i := 0) N_Network A_Network__sent (se_tup (sa_cons (se_var 1) (sa_cons (se_var 2) sa_nil))))) (ds_ret (de_var 4)))))) rfl h
theorem ok_is_state (T : Tx mg) (D : At K mg "is_state" s_is_state ["line", "value"]) (D_check_line : Dfn P w K mg base "check_line" ["line"] 4 (spP K 1 sem_check_line)) (D_has_hosts_of : Dfn P w K mg base "has_hosts_of" ["line", "value"] 1 (spP K 2 sem_has_hosts_of)) (D_is_known_interval : Dfn P w K mg base "is_known_interval" ["line", "host", "value"] 3 (spP K 3 sem_is_known_interval)) : Dfn P w K mg base "is_state" ["line", "value"] 5 (spP K 2 sem_is_state) := by
  refine dfn D sc_is_state (len_P rfl) (fun X f cdv A outer s H vs Q E hX hr h => ?_)
  subst hX
  refine ⟨_, (pss_cons (ps_expr (pe_callD D_check_line (hr.mono (by decide)) (by rfl) (pa_cons (pvc 0) pa_nil))) (pss_cons (ps_if (pt_not (pt_val (pe_callD D_has_hosts_of (hr.mono (by decide)) (by rfl) (pa_cons (pvc 0) (pa_cons (pvc 1) pa_nil))))) (pss_one (ps_ret pe_bl)) pss_nil) (pss_one (ps_ret (pe_callB (cr_all rfl) (by rfl) T.b_all (by decide +kernel) (pa_cons (PE.or (pe_lock (pe_lc (own := [("host", 2)]) (g := gName 2) (tt := tYes) rfl sc_is_state.nd (pi_keys (pvc 0)) (blkOk_by (own := [("host", 2)]) (N := nn_is_state) (sc := defScope s_is_state) (by decide +kernel)) (fun _ _ _ _ _ => (pg_name (i := 2) sc_is_state.nd rfl (Or.inl rfl))) (fun _ _ _ _ _ => pts_nil) (blk_e fun _ _ _ _ _ => (pe_callD D_is_known_interval (hr.mono (by decide)) (by rfl) (pa_cons (pvc 0) (pa_cons (pvl 2) (pa_cons (pe_dget (hu_of hr) (pvc 1) (pvl 2) (fun _ _ => rfl)) pa_nil))))))) (pe_lc (own := [("host", 2)]) (g := gName 2) (tt := tYes) rfl sc_is_state.nd (pi_keys (pvc 0)) (blkOk_by (own := [("host", 2)]) (N := nn_is_state) (sc := defScope s_is_state) (by decide +kernel)) (fun _ _ _ _ _ => (pg_name (i := 2) sc_is_state.nd rfl (Or.inl rfl))) (fun _ _ _ _ _ => pts_nil) (blk_e fun _ _ _ _ _ => (pe_callD D_is_known_interval (hr.mono (by decide)) (by rfl) (pa_cons (pvc 0) (pa_cons (pvl 2) (pa_cons (pe_dget (hu_of hr) (pvc 1) (pvl 2) (fun _ _ => rfl)) pa_nil))))))) pa_nil)))))), ?_⟩
  exact run_P (fs := fs_is_state) (ds_seq (ds_drop (de_callP (n := 1) (da_cons (de_var 0) da_nil))) (ds_seq (ds_if (dt_not (dt_b (de_callP (n := 2) (da_cons (de_var 0) (da_cons (de_var 1) da_nil))))) (ds_ret (de_c (IsC.bl _))) ds_next) (ds_ret (de_cb cb_all (da_cons (DEO.frz (do_lcD .keys 0 (dg_name 2) (by decide) dt_yes (de_all fun _ _ _ _ _ => (de_callP (n := 3) (da_cons (de_var 0) (da_cons (de_var 2) (da_cons (de_dget (de_var 1) (de_var 2)) da_nil))))))) da_nil))))) rfl h
theorem ok_is_frames (T : Tx mg) (D : At K mg "is_frames" s_is_frames ["line", "value"]) (D_check_line : Dfn P w K mg base "check_line" ["line"] 4 (spP K 1 sem_check_line)) (D_is_frame : Dfn P w K mg base "is_frame" ["line", "value"] 2 (spP K 2 sem_is_frame)) (D_is_list : Dfn P w K mg base "is_list" ["value"] 1 (spP K 1 sem_is_list)) : Dfn P w K mg base "is_frames" ["line", "value"] 5 (spP K 2 sem_is_frames) := by
  refine dfn D sc_is_frames (len_P rfl) (fun X f cdv A outer s H vs Q E hX hr h => ?_)
  subst hX
  refine ⟨_, (pss_cons (ps_expr (pe_callD D_check_line (hr.mono (by decide)) (by rfl) (pa_cons (pvc 0) pa_nil))) (pss_cons (ps_if (PW.pt (pw_or (pt_not (pt_val (pe_callD D_is_list (hr.mono (by decide)) (by rfl) (pa_cons (pvl 1) pa_nil)))) (pw_or1 (pt_cmpR opGt (pe_callB call_lenX (by rfl) T.b_len PySem.boot_len (pa_cons (pvl 1) pa_nil)) (pe_glob (v := .int (300)) (by rfl) (Exists.choose_spec T.g_MOST_FRAMES) ⟨_, rfl⟩) (nomark _))))) (pss_one (ps_ret pe_bl)) pss_nil) (pss_one (ps_ret (pe_callB (cr_all rfl) (by rfl) T.b_all (by decide +kernel) (pa_cons (pe_lc (own := [("item", 2)]) (g := gName 2) (tt := tYes) rfl sc_is_frames.nd (pi_list (pvl 1)) (blkOk_by (own := [("item", 2)]) (N := nn_is_frames) (sc := defScope s_is_frames) (by decide +kernel)) (fun _ _ _ _ _ => (pg_name (i := 2) sc_is_frames.nd rfl (Or.inl rfl))) (fun _ _ _ _ _ => pts_nil) (blk_e fun _ _ _ _ _ => (pe_callD D_is_frame (hr.mono (by decide)) (by rfl) (pa_cons (pvc 0) (pa_cons (pvl 2) pa_nil))))) pa_nil)))))), ?_⟩
  exact run_P (fs := fs_is_frames) (ds_seq (ds_drop (de_callP (n := 1) (da_cons (de_var 0) da_nil))) (ds_seq (ds_if (dt_or (dt_not (dt_b (de_callP (n := 1) (da_cons (de_var 1) da_nil)))) (dt_b (de_op r2_gt (de_cb cb_len (da_cons (de_var 1) da_nil)) (de_c (IsC.int _))))) (ds_ret (de_c (IsC.bl _))) ds_next) (ds_ret (de_cb cb_all (da_cons (DEO.frz (do_lc (di_list (de_var 1)) (dg_name 2) (by decide) dt_yes (de_all fun _ _ _ _ _ => (de_callP (n := 2) (da_cons (de_var 0) (da_cons (de_var 2) da_nil)))))) da_nil))))) rfl h
theorem ok_in_order (T : Tx mg) (D : At K mg "in_order" s_in_order ["line"]) (D_check_line : Dfn P w K mg base "check_line" ["line"] 4 (spP K 1 sem_check_line)) : Dfn P w K mg base "in_order" ["line"] 5 (spP K 1 sem_in_order) := by
  refine dfn D sc_in_order (len_P rfl) (fun X f cdv A outer s H vs Q E hX hr h => ?_)
  subst hX
  refine ⟨_, (pss_cons (ps_expr (pe_callD D_check_line (hr.mono (by decide)) (by rfl) (pa_cons (pvl 0) pa_nil))) (pss_cons (ps_set (i := 1) sc_in_order.nd rfl (Or.inl rfl) (pe_callB cr_sortedF (by rfl) T.b_sorted (by decide +kernel) (pa_cons (PE.or (pe_lock (pe_lc (own := [("host", 3), ("position", 4)])  (tt := tYes) rfl sc_in_order.nd (pi_items (pvl 0)) (blkOk_by (own := [("host", 3), ("position", 4)]) (N := nn_in_order) (sc := defScope s_in_order) (by decide +kernel)) (blk_g fun _ _ _ _ _ => (pg_tup rfl (pgs_cons (pg_name (i := 3) sc_in_order.nd rfl (Or.inl rfl)) (pgs_cons (pg_name (i := 4) sc_in_order.nd rfl (Or.inl rfl)) pgs_nil)))) (fun _ _ _ _ _ => pts_nil) (blk_e fun _ _ _ _ _ => (pe_tup (pa_cons (pvl 4) (pa_cons (pvl 3) pa_nil)))))) (pe_lc (own := [("host", 3), ("position", 4)])  (tt := tYes) rfl sc_in_order.nd (pi_items (pvl 0)) (blkOk_by (own := [("host", 3), ("position", 4)]) (N := nn_in_order) (sc := defScope s_in_order) (by decide +kernel)) (blk_g fun _ _ _ _ _ => (pg_tup rfl (pgs_cons (pg_name (i := 3) sc_in_order.nd rfl (Or.inl rfl)) (pgs_cons (pg_name (i := 4) sc_in_order.nd rfl (Or.inl rfl)) pgs_nil)))) (fun _ _ _ _ _ => pts_nil) (blk_e fun _ _ _ _ _ => (pe_tup (pa_cons (pvl 4) (pa_cons (pvl 3) pa_nil)))))) pa_nil))) (pss_one (ps_ret (pe_lc (own := [("place", 2)]) (g := gName 2) (tt := tYes) rfl sc_in_order.nd (pi_list (pvl 1)) (blkOk_by (own := [("place", 2)]) (N := nn_in_order) (sc := defScope s_in_order) (by decide +kernel)) (fun _ _ _ _ _ => (pg_name (i := 2) sc_in_order.nd rfl (Or.inl rfl))) (fun _ _ _ _ _ => pts_nil) (blk_e fun _ _ _ _ _ => (pe_ix ix_seq (pvl 2) pe_int (fun _ _ => rfl)))))))), ?_⟩
  exact run_P (fs := fs_in_order) (ds_seq (ds_drop (de_callP (n := 1) (da_cons (de_var 0) da_nil))) (ds_seq (ds_asg (DEO.frz (do_cb co_sortP (da_cons (DEO.frz (do_lcD .items 0 (dg_all fun _ _ _ _ _ => (dg_tup (dgs_cons (dg_name 3) (dgs_cons (dg_name 4) dgs_nil)))) (by decide) dt_yes (de_all fun _ _ _ _ _ => (de_tup (da_cons (de_var 4) (da_cons (de_var 3) da_nil)))))) da_nil))) (dg_name 1)) (ds_ret (DEO.frz (do_lc (di_list (de_var 1)) (dg_name 2) (by decide) dt_yes (de_all fun _ _ _ _ _ => (de_op r2_ix (de_var 2) (de_c (IsC.int _))))))))) rfl h
theorem ok_Network___init__ (T : Tx mg) {C_Network : Addr} (N_Network : ClsN K "Network" C_Network) (A_Network__line : NoAttr K C_Network "_line") (A_Network__known : NoAttr K C_Network "_known") (A_Network__sent : NoAttr K C_Network "_sent") (A_Network__changes : NoAttr K C_Network "_changes") (D : AtI K mg "Network" C_Network "__init__" "Network.__init__" s_Network___init__ ["self", "line"]) (D_check_line : Dfn P w K mg base "check_line" ["line"] 4 (spP K 1 sem_check_line)) (D_silent_state : Dfn P w K mg base "silent_state" ["line"] 1 (spO K 1 sem_silent_state)) : DfnI P w K mg base "Network" C_Network ["self", "line"] 5 (spU K [(.i (.io "Network" .nl) (.io "Network" (.fc "_line" .fr (.fc "_known" .fr (.fc "_sent" .fl (.fc "_changes" .fl .nl)))))), .f] .fr sem_Network___init__) := by
  refine dfnI D sc_Network___init__ (len_U rfl) (fun X f cdv A outer s H vs Q E hX hr h => ?_)
  subst hX
  refine ⟨_, (pss_cons (ps_expr (pe_callD D_check_line (hr.mono (by decide)) (by rfl) (pa_cons (pvc 1) pa_nil))) (pss_cons (ps_fld (pvl 0) (pe_dc (own := [("host", 2)]) (g := gName 2) (tt := tYes) rfl sc_Network___init__.nd (pi_list (pe_callB (call_sortX rfl) (by rfl) T.b_sorted (by decide +kernel) (pa_cons (pvc 1) pa_nil))) (blkOk_by (own := [("host", 2)]) (N := nn_Network___init__) (sc := defScope s_Network___init__) (by decide +kernel)) (fun _ _ _ _ _ => (pg_name (i := 2) sc_Network___init__.nd rfl (Or.inl rfl))) (fun _ _ _ _ _ => pts_nil) (blk_e fun _ _ _ _ _ => (pvl 2)) (blk_e fun _ _ _ _ _ => (pe_dget (hu_of hr) (pvc 1) (pvl 2) (fun _ _ => rfl)))) rfl) (pss_cons (ps_fld (pvl 0) (pe_callD D_silent_state (hr.mono (by decide)) (by rfl) (pa_cons (pe_fld (pvl 0) rfl) pa_nil)) rfl) (pss_cons (ps_fld (pvl 0) (pe_lst pa_nil) rfl) (pss_one (ps_fld (pvl 0) (pe_lst pa_nil) rfl)))))), ?_⟩
  exact run_U (ps := [(.i (.io "Network" .nl) (.io "Network" (.fc "_line" .fr (.fc "_known" .fr (.fc "_sent" .fl (.fc "_changes" .fl .nl)))))), .f]) (r := .fr) rfl (fs := fs_Network___init__) (ds_seq (ds_drop (de_callP (n := 1) (da_cons (de_var 1) da_nil))) (ds_seq (ds_setF (i := 0) (s := .fr) N_Network A_Network__line (den_e (DEO.frz (do_dc (di_list (DEO.frz (do_cb co_sort (da_cons (de_var 1) da_nil)))) (dg_name 2) (by decide) dt_yes (de_all fun _ _ _ _ _ => (de_var 2)) (de_all fun _ _ _ _ _ => (de_dget (de_var 1) (de_var 2))))))) (ds_seq (ds_setF (i := 0) (s := .fr) N_Network A_Network__known (den_e (DEO.frz (do_call (n := 1) (da_cons (de_fld (i := 0) N_Network A_Network__line) da_nil))))) (ds_seq (ds_setF (i := 0) (s := .fl) N_Network A_Network__sent (den_o (do_lst da_nil))) (ds_setF (i := 0) (s := .fl) N_Network A_Network__changes (den_o (do_lst da_nil))))))) rfl h
theorem ok_Network_send (T : Tx mg) {C_Network : Addr} (N_Network : ClsN K "Network" C_Network) (A_Network__line : NoAttr K C_Network "_line") (A_Network__known : NoAttr K C_Network "_known") (A_Network__sent : NoAttr K C_Network "_sent") (A_Network__changes : NoAttr K C_Network "_changes") (D : AtM K C_Network "send" "Network.send" s_Network_send ["self", "sender", "target"]) (D_Network__begin_change : DfnM P w K mg base C_Network "_begin_change" ["self"] 1 (spU K [(.i (.io "Network" (.fc "_line" .fr (.fc "_known" .fr (.fc "_sent" .fl (.fc "_changes" .fl .nl))))) (.io "Network" (.fc "_line" .fr (.fc "_known" .fr (.fc "_sent" .fl (.fc "_changes" .fl .nl))))))] .fr sem_Network__begin_change)) (D_Network__pass_on : DfnM P w K mg base C_Network "_pass_on" ["self", "sender", "target"] 4 (spU K [(.i (.io "Network" (.fc "_line" .fr (.fc "_known" .fr (.fc "_sent" .fl (.fc "_changes" .fl .nl))))) (.io "Network" (.fc "_line" .fr (.fc "_known" .fr (.fc "_sent" .fl (.fc "_changes" .fl .nl)))))), .f, .f] .fr sem_Network__pass_on)) (D_check_hosts : Dfn P w K mg base "check_hosts" ["line", "sender", "target"] 2 (spP K 3 sem_check_hosts)) : DfnM P w K mg base C_Network "send" ["self", "sender", "target"] 5 (spU K [(.i (.io "Network" (.fc "_line" .fr (.fc "_known" .fr (.fc "_sent" .fl (.fc "_changes" .fl .nl))))) (.io "Network" (.fc "_line" .fr (.fc "_known" .fr (.fc "_sent" .fl (.fc "_changes" .fl .nl)))))), .f, .f] .fr sem_Network_send) := by
  refine dfnM D sc_Network_send (len_U rfl) (fun X f cdv A outer s H vs Q E hX hr h => ?_)
  subst hX
  obtain ⟨f_Network__begin_change, fd_Network__begin_change, M_Network__begin_change, B_Network__begin_change, F_Network__begin_change⟩ := D_Network__begin_change.ex
  obtain ⟨f_Network__pass_on, fd_Network__pass_on, M_Network__pass_on, B_Network__pass_on, F_Network__pass_on⟩ := D_Network__pass_on.ex
  refine ⟨_, (pss_cons (ps_expr (pe_callD D_check_hosts (hr.mono (by decide)) (by rfl) (pa_cons (pe_fld (pvl 0) rfl) (pa_cons (pvl 1) (pa_cons (pvl 2) pa_nil))))) (pss_cons (ps_expr (pe_meth0 (pvl 0) N_Network.cl M_Network__begin_change F_Network__begin_change (hr.mono (by decide)) B_Network__begin_change .nil pass0)) (pss_one (ps_ret (pe_meth (pvl 0) N_Network.cl M_Network__pass_on F_Network__pass_on (hr.mono (by decide)) B_Network__pass_on .nil pass0 (pa_cons (pvl 1) (pa_cons (pvl 2) pa_nil))))))), ?_⟩
  exact run_U (ps := [(.i (.io "Network" (.fc "_line" .fr (.fc "_known" .fr (.fc "_sent" .fl (.fc "_changes" .fl .nl))))) (.io "Network" (.fc "_line" .fr (.fc "_known" .fr (.fc "_sent" .fl (.fc "_changes" .fl .nl)))))), .f, .f]) (r := .fr) rfl (fs := fs_Network_send) (ds_seq (ds_drop (de_callP (n := 3) (da_cons (de_fld (i := 0) N_Network A_Network__line) (da_cons (de_var 1) (da_cons (de_var 2) da_nil))))) (ds_seq (ds_drop (de_n (s := .fr) rfl (den_meth (i := 0) (ps := [(.i (.io "Network" (.fc "_line" .fr (.fc "_known" .fr (.fc "_sent" .fl (.fc "_changes" .fl .nl))))) (.io "Network" (.fc "_line" .fr (.fc "_known" .fr (.fc "_sent" .fl (.fc "_changes" .fl .nl))))))]) (r := .fr) N_Network rfl rfl du_nil))) (ds_ret (de_n (s := .fr) rfl (den_meth (i := 0) (ps := [(.i (.io "Network" (.fc "_line" .fr (.fc "_known" .fr (.fc "_sent" .fl (.fc "_changes" .fl .nl))))) (.io "Network" (.fc "_line" .fr (.fc "_known" .fr (.fc "_sent" .fl (.fc "_changes" .fl .nl)))))), .f, .f]) (r := .fr) N_Network rfl rfl (du_e (de_var 1) (du_e (de_var 2) du_nil))))))) rfl h
theorem ok_check_state (T : Tx mg) (D : At K mg "check_state" s_check_state ["line", "state"]) (D_is_state : Dfn P w K mg base "is_state" ["line", "value"] 5 (spP K 2 sem_is_state)) : Dfn P w K mg base "check_state" ["line", "state"] 6 (spP K 2 sem_check_state) := by
  refine dfn D sc_check_state (len_P rfl) (fun X f cdv A outer s H vs Q E hX hr h => ?_)
  subst hX
  refine ⟨_, (pss_one (ps_if (pt_not (pt_val (pe_callD D_is_state (hr.mono (by decide)) (by rfl) (pa_cons (pvl 0) (pa_cons (pvl 1) pa_nil))))) (pss_one ps_never) pss_nil)), ?_⟩
  exact run_P (fs := fs_check_state) (ds_if (dt_not (dt_b (de_callP (n := 2) (da_cons (de_var 0) (da_cons (de_var 1) da_nil))))) ds_never ds_next) rfl h
theorem ok_check_frames (T : Tx mg) (D : At K mg "check_frames" s_check_frames ["line", "frames"]) (D_is_frames : Dfn P w K mg base "is_frames" ["line", "value"] 5 (spP K 2 sem_is_frames)) : Dfn P w K mg base "check_frames" ["line", "frames"] 6 (spP K 2 sem_check_frames) := by
  refine dfn D sc_check_frames (len_P rfl) (fun X f cdv A outer s H vs Q E hX hr h => ?_)
  subst hX
  refine ⟨_, (pss_one (ps_if (pt_not (pt_val (pe_callD D_is_frames (hr.mono (by decide)) (by rfl) (pa_cons (pvl 0) (pa_cons (pvl 1) pa_nil))))) (pss_one ps_never) pss_nil)), ?_⟩
  exact run_P (fs := fs_check_frames) (ds_if (dt_not (dt_b (de_callP (n := 2) (da_cons (de_var 0) (da_cons (de_var 1) da_nil))))) ds_never ds_next) rfl h
theorem ok_lacking (T : Tx mg) (D : At K mg "lacking" s_lacking ["line", "state"]) (D_check_state : Dfn P w K mg base "check_state" ["line", "state"] 6 (spP K 2 sem_check_state)) (D_covers : Dfn P w K mg base "covers" ["interval", "first", "last"] 2 (spP K 3 sem_covers)) (D_in_order : Dfn P w K mg base "in_order" ["line"] 5 (spP K 1 sem_in_order)) : Dfn P w K mg base "lacking" ["line", "state"] 7 (spO K 2 sem_lacking) := by
  refine dfn D sc_lacking (len_O rfl) (fun X f cdv A outer s H vs Q E hX hr h => ?_)
  subst hX
  refine ⟨_, (pss_cons (ps_expr (pe_callD D_check_state (hr.mono (by decide)) (by rfl) (pa_cons (pvl 0) (pa_cons (pvc 1) pa_nil)))) (pss_cons (ps_set (i := 2) sc_lacking.nd rfl (Or.inl rfl) (pe_callD D_in_order (hr.mono (by decide)) (by rfl) (pa_cons (pvl 0) pa_nil))) (pss_cons (ps_if (pt_cmpR (opEqX (hu70 hr)) (pe_callB call_lenX (by rfl) T.b_len PySem.boot_len (pa_cons (pvl 2) pa_nil)) pe_int (nomark _)) (pss_one (ps_ret (pe_lst pa_nil))) pss_nil) (pss_cons (ps_set (i := 3) sc_lacking.nd rfl (Or.inr rfl) (pe_dget (hu_of hr) (pvl 0) (pe_ix ix_seq (pvl 2) pe_int (fun _ _ => rfl)) (fun _ _ => rfl))) (pss_cons (ps_set (i := 4) sc_lacking.nd rfl (Or.inr rfl) (pe_dget (hu_of hr) (pvl 0) (pe_ix ix_seq (pvl 2) (pe_un un_neg pe_int) (fun _ _ => rfl)) (fun _ _ => rfl))) (pss_one (ps_ret (pe_lc (own := [("host", 5)]) (g := gName 5)  rfl sc_lacking.nd (pi_list (pvl 2)) (blkOk_by (own := [("host", 5)]) (N := nn_lacking) (sc := defScope s_lacking) (by decide +kernel)) (fun _ _ _ _ _ => (pg_name (i := 5) sc_lacking.nd rfl (Or.inl rfl))) (blk_t fun _ _ _ _ _ => (pts_one (pt_not (pt_val (pe_callD D_covers (hr.mono (by decide)) (by rfl) (pa_cons (pe_dget (hu_of hr) (pvc 1) (pvl 5) (fun _ _ => rfl)) (pa_cons (pvc 3) (pa_cons (pvc 4) pa_nil)))))))) (blk_e fun _ _ _ _ _ => (pvl 5)))))))))), ?_⟩
  exact run_O (fs := fs_lacking) (ds_seq (ds_drop (de_callP (n := 2) (da_cons (de_var 0) (da_cons (de_var 1) da_nil)))) (ds_seq (ds_asg (de_callP (n := 1) (da_cons (de_var 0) da_nil)) (dg_name 2)) (ds_seq (ds_if (dt_b (de_op r2_eqX (de_cb cb_len (da_cons (de_var 2) da_nil)) (de_c (IsC.int _)))) (ds_retO (do_lst da_nil)) ds_next) (ds_seq (ds_asg (de_dget (de_var 0) (de_op r2_ix (de_var 2) (de_c (IsC.int _)))) (dg_name 3)) (ds_seq (ds_asg (de_dget (de_var 0) (de_op r2_ix (de_var 2) (de_neg (de_c (IsC.int _))))) (dg_name 4)) (ds_retO (do_lc (di_list (de_var 2)) (dg_name 5) (by decide) (dt_all fun _ _ _ _ _ => (dt_not (dt_b (de_callP (n := 3) (da_cons (de_dget (de_var 1) (de_var 5)) (da_cons (de_var 3) (da_cons (de_var 4) da_nil))))))) (de_all fun _ _ _ _ _ => (de_var 5))))))))) rfl h
theorem ok_starting_state (T : Tx mg) (D : At K mg "starting_state" s_starting_state ["line", "start"]) (D_check_state : Dfn P w K mg base "check_state" ["line", "state"] 6 (spP K 2 sem_check_state)) (D_silent_state : Dfn P w K mg base "silent_state" ["line"] 1 (spO K 1 sem_silent_state)) : Dfn P w K mg base "starting_state" ["line", "start"] 7 (spO K 2 sem_starting_state) := by
  refine dfn D sc_starting_state (len_O rfl) (fun X f cdv A outer s H vs Q E hX hr h => ?_)
  subst hX
  refine ⟨_, (pss_cons (ps_if (pt_cmpR opIs (pvl 1) pe_non (nomark _)) (pss_one (ps_ret (pe_callD D_silent_state (hr.mono (by decide)) (by rfl) (pa_cons (pvl 0) pa_nil)))) pss_nil) (pss_cons (ps_expr (pe_callD D_check_state (hr.mono (by decide)) (by rfl) (pa_cons (pvl 0) (pa_cons (pvl 1) pa_nil)))) (pss_one (ps_ret (pe_callTy (call_dictX rfl) (by rfl) T.b_dict boot_dict (pa_cons (pvl 1) pa_nil)))))), ?_⟩
  exact run_O (fs := fs_starting_state) (ds_seq (ds_if (dt_b (de_op r2_is (de_var 1) (de_c IsC.non))) (ds_retO (do_call (n := 1) (da_cons (de_var 0) da_nil))) ds_next) (ds_seq (ds_drop (de_callP (n := 2) (da_cons (de_var 0) (da_cons (de_var 1) da_nil)))) (ds_retO (do_cb co_dict (da_cons (de_var 1) da_nil))))) rfl h
theorem ok_is_quiet (T : Tx mg) (D : At K mg "is_quiet" s_is_quiet ["line", "state"]) (D_lacking : Dfn P w K mg base "lacking" ["line", "state"] 7 (spO K 2 sem_lacking)) : Dfn P w K mg base "is_quiet" ["line", "state"] 8 (spP K 2 sem_is_quiet) := by
  refine dfn D sc_is_quiet (len_P rfl) (fun X f cdv A outer s H vs Q E hX hr h => ?_)
  subst hX
  refine ⟨_, (pss_one (ps_ret (pe_cmpR (opEqX (hu70 hr)) (pe_callB call_lenX (by rfl) T.b_len PySem.boot_len (pa_cons (pe_callD D_lacking (hr.mono (by decide)) (by rfl) (pa_cons (pvl 0) (pa_cons (pvl 1) pa_nil))) pa_nil)) pe_int (nomark _)))), ?_⟩
  exact run_P (fs := fs_is_quiet) (ds_ret (de_op r2_eqX (de_cb cb_len (da_cons (DEO.frz (do_call (n := 2) (da_cons (de_var 0) (da_cons (de_var 1) da_nil)))) da_nil)) (de_c (IsC.int _)))) rfl h
theorem ok_kinds_of (T : Tx mg) (D : AtK K mg "kinds_of" s_kinds_of ["line", "frames", "start"] 2 ["start"] [.non]) (D_check_frames : Dfn P w K mg base "check_frames" ["line", "frames"] 6 (spP K 2 sem_check_frames)) (D_send_each : Dfn P w K mg base "send_each" ["line", "known", "frames"] 4 (spM K 3 1 sem_send_each)) (D_starting_state : Dfn P w K mg base "starting_state" ["line", "start"] 7 (spO K 2 sem_starting_state)) : DfnK P w K mg base "kinds_of" ["line", "frames", "start"] 2 ["start"] [.non] 8 (spO K 3 sem_kinds_of) := by
  refine dfnK D sc_kinds_of (len_O rfl) (fun X f cdv A outer s H vs Q E hX hr h => ?_)
  subst hX
  refine ⟨_, (pss_cons (ps_expr (pe_callD D_check_frames (hr.mono (by decide)) (by rfl) (pa_cons (pvl 0) (pa_cons (pvl 1) pa_nil)))) (pss_cons (ps_set (i := 3) sc_kinds_of.nd rfl (Or.inl rfl) (pe_callD D_send_each (hr.mono (by decide)) (by rfl) (pa_cons (pvl 0) (pa_cons (pe_callD D_starting_state (hr.mono (by decide)) (by rfl) (pa_cons (pvl 0) (pa_cons (pvl 2) pa_nil))) (pa_cons (pvl 1) pa_nil))))) (pss_one (ps_ret (pe_lc (own := [("kind", 4), ("_", 5)])  (tt := tYes) rfl sc_kinds_of.nd (pi_list (pvl 3)) (blkOk_by (own := [("kind", 4), ("_", 5)]) (N := nn_kinds_of) (sc := defScope s_kinds_of) (by decide +kernel)) (blk_g fun _ _ _ _ _ => (pg_tup rfl (pgs_cons (pg_name (i := 4) sc_kinds_of.nd rfl (Or.inl rfl)) (pgs_cons (pg_name (i := 5) sc_kinds_of.nd rfl (Or.inl rfl)) pgs_nil)))) (fun _ _ _ _ _ => pts_nil) (blk_e fun _ _ _ _ _ => (pvl 4))))))), ?_⟩
  exact run_O (fs := fs_kinds_of) (ds_seq (ds_drop (de_callP (n := 2) (da_cons (de_var 0) (da_cons (de_var 1) da_nil)))) (ds_seq (ds_asg (de_callMO (n := 3) (p := 1) (do_consE (de_var 0) (do_consO (do_call (n := 2) (da_cons (de_var 0) (da_cons (de_var 2) da_nil))) (do_consE (de_var 1) do_nil)))) (dg_name 3)) (ds_retO (do_lc (di_list (de_var 3)) (dg_all fun _ _ _ _ _ => (dg_tup (dgs_cons (dg_name 4) (dgs_cons (dg_name 5) dgs_nil)))) (by decide) dt_yes (de_all fun _ _ _ _ _ => (de_var 4)))))) rfl h
theorem ok_known_after (T : Tx mg) (D : AtK K mg "known_after" s_known_after ["line", "frames", "start"] 2 ["start"] [.non]) (D_check_frames : Dfn P w K mg base "check_frames" ["line", "frames"] 6 (spP K 2 sem_check_frames)) (D_send_each : Dfn P w K mg base "send_each" ["line", "known", "frames"] 4 (spM K 3 1 sem_send_each)) (D_starting_state : Dfn P w K mg base "starting_state" ["line", "start"] 7 (spO K 2 sem_starting_state)) : DfnK P w K mg base "known_after" ["line", "frames", "start"] 2 ["start"] [.non] 8 (spO K 3 sem_known_after) := by
  refine dfnK D sc_known_after (len_O rfl) (fun X f cdv A outer s H vs Q E hX hr h => ?_)
  subst hX
  refine ⟨_, (pss_cons (ps_expr (pe_callD D_check_frames (hr.mono (by decide)) (by rfl) (pa_cons (pvl 0) (pa_cons (pvl 1) pa_nil)))) (pss_cons (ps_set (i := 3) sc_known_after.nd rfl (Or.inr rfl) (pe_callD D_starting_state (hr.mono (by decide)) (by rfl) (pa_cons (pvl 0) (pa_cons (pvl 2) pa_nil)))) (pss_cons (ps_expr (pe_callD D_send_each (hr.mono (by decide)) (by rfl) (pa_cons (pvl 0) (pa_cons (pvc 3) (pa_cons (pvl 1) pa_nil))))) (pss_one (ps_ret (pe_dc (own := [("host", 4)]) (g := gName 4) (tt := tYes) rfl sc_known_after.nd (pi_list (pe_callB (call_sortX rfl) (by rfl) T.b_sorted (by decide +kernel) (pa_cons (pvc 3) pa_nil))) (blkOk_by (own := [("host", 4)]) (N := nn_known_after) (sc := defScope s_known_after) (by decide +kernel)) (fun _ _ _ _ _ => (pg_name (i := 4) sc_known_after.nd rfl (Or.inl rfl))) (fun _ _ _ _ _ => pts_nil) (blk_e fun _ _ _ _ _ => (pvl 4)) (blk_e fun _ _ _ _ _ => (pe_dget (hu_of hr) (pvc 3) (pvl 4) (fun _ _ => rfl))))))))), ?_⟩
  exact run_O (fs := fs_known_after) (ds_seq (ds_drop (de_callP (n := 2) (da_cons (de_var 0) (da_cons (de_var 1) da_nil)))) (ds_seq (ds_asgO (i := 3) (do_call (n := 2) (da_cons (de_var 0) (da_cons (de_var 2) da_nil)))) (ds_seq (ds_drop (de_callM (n := 3) (p := 1) (da_cons (de_var 0) (da_cons (de_var 3) (da_cons (de_var 1) da_nil))))) (ds_frz (i := 3) (ds_retO (do_dc (di_list (DEO.frz (do_cb co_sort (da_cons (de_var 3) da_nil)))) (dg_name 4) (by decide) dt_yes (de_all fun _ _ _ _ _ => (de_var 4)) (de_all fun _ _ _ _ _ => (de_dget (de_var 3) (de_var 4))))))))) rfl h
theorem ok_quiet_plan (T : Tx mg) (D : At K mg "quiet_plan" s_quiet_plan ["line", "state"]) (D_frames_to_ends : Dfn P w K mg base "frames_to_ends" ["line", "state", "first", "last", "host"] 2 (spP K 5 sem_frames_to_ends)) (D_in_order : Dfn P w K mg base "in_order" ["line"] 5 (spP K 1 sem_in_order)) (D_inner_plan : Dfn P w K mg base "inner_plan" ["state", "to_ends"] 1 (spO K 2 sem_inner_plan)) (D_lacking : Dfn P w K mg base "lacking" ["line", "state"] 7 (spO K 2 sem_lacking)) : Dfn P w K mg base "quiet_plan" ["line", "state"] 8 (spO K 2 sem_quiet_plan) := by
  refine dfn D sc_quiet_plan (len_O rfl) (fun X f cdv A outer s H vs Q E hX hr h => ?_)
  subst hX
  refine ⟨_, (pss_cons (ps_set (i := 2) sc_quiet_plan.nd rfl (Or.inl rfl) (pe_callD D_lacking (hr.mono (by decide)) (by rfl) (pa_cons (pvc 0) (pa_cons (pvc 1) pa_nil)))) (pss_cons (ps_set (i := 3) sc_quiet_plan.nd rfl (Or.inl rfl) (pe_callD D_in_order (hr.mono (by decide)) (by rfl) (pa_cons (pvc 0) pa_nil))) (pss_cons (ps_set (i := 4) sc_quiet_plan.nd rfl (Or.inr rfl) (pe_ix ix_seq (pvl 3) pe_int (fun _ _ => rfl))) (pss_cons (ps_set (i := 5) sc_quiet_plan.nd rfl (Or.inr rfl) (pe_ix ix_seq (pvl 3) (pe_un un_neg pe_int) (fun _ _ => rfl))) (pss_cons (ps_setLc (i := 6) (own := [("host", 8)]) (g := gName 8)  rfl sc_quiet_plan.nd rfl rfl (sw_true rfl rfl rfl (by decide +kernel)) (pi_list (pvl 2)) (blkOk_by (own := [("host", 8)]) (N := nn_quiet_plan) (sc := defScope s_quiet_plan) (by decide +kernel)) (fun _ _ _ _ _ => (pg_name (i := 8) sc_quiet_plan.nd rfl (Or.inl rfl))) (blk_t fun _ _ _ _ _ => (pts_one (pt_cmpR op_notIn_seq (pvl 8) (pe_tup (pa_cons (pvc 4) (pa_cons (pvc 5) pa_nil))) rfl))) (blk_e fun _ _ _ _ _ => (pvl 8))) (pss_cons (ps_set (i := 7) sc_quiet_plan.nd rfl (Or.inl rfl) (pe_callD D_inner_plan (hr.mono (by decide)) (by rfl) (pa_cons (pvc 1) (pa_cons (pe_dc (own := [("host", 8)]) (g := gName 8) (tt := tYes) rfl sc_quiet_plan.nd (pi_list (pvl 6)) (blkOk_by (own := [("host", 8)]) (N := nn_quiet_plan) (sc := defScope s_quiet_plan) (by decide +kernel)) (fun _ _ _ _ _ => (pg_name (i := 8) sc_quiet_plan.nd rfl (Or.inl rfl))) (fun _ _ _ _ _ => pts_nil) (blk_e fun _ _ _ _ _ => (pvl 8)) (blk_e fun _ _ _ _ _ => (pe_callD D_frames_to_ends (hr.mono (by decide)) (by rfl) (pa_cons (pvc 0) (pa_cons (pvc 1) (pa_cons (pvc 4) (pa_cons (pvc 5) (pa_cons (pvl 8) pa_nil)))))))) pa_nil)))) (pss_cons (ps_if (pt_cmpR op_in_seq (pvc 4) (pvl 2) rfl) (pss_one (ps_expr (pe_bm PySem.F.plainAttrs_list PySem.F.slot_list_append PySem.F.type_list_append mt_append (pvl 7) (pa_cons (pe_tup (pa_cons (pvc 4) (pa_cons (pvc 5) pa_nil))) pa_nil)))) pss_nil) (pss_cons (ps_if (pt_cmpR op_in_seq (pvc 5) (pvl 2) rfl) (pss_one (ps_expr (pe_bm PySem.F.plainAttrs_list PySem.F.slot_list_append PySem.F.type_list_append mt_append (pvl 7) (pa_cons (pe_tup (pa_cons (pvc 5) (pa_cons (pvc 4) pa_nil))) pa_nil)))) pss_nil) (pss_one (ps_ret (pvl 7))))))))))), ?_⟩
  exact run_O (fs := fs_quiet_plan) (ds_seq (ds_asg (DEO.frz (do_call (n := 2) (da_cons (de_var 0) (da_cons (de_var 1) da_nil)))) (dg_name 2)) (ds_seq (ds_asg (de_callP (n := 1) (da_cons (de_var 0) da_nil)) (dg_name 3)) (ds_seq (ds_asg (de_op r2_ix (de_var 3) (de_c (IsC.int _))) (dg_name 4)) (ds_seq (ds_asg (de_op r2_ix (de_var 3) (de_neg (de_c (IsC.int _)))) (dg_name 5)) (ds_seq (ds_asg (DEO.frz (do_lc (di_list (de_var 2)) (dg_name 8) (by decide) (dt_all fun _ _ _ _ _ => (dt_b (de_op r2_notInF (de_var 8) (de_tup (da_cons (de_var 4) (da_cons (de_var 5) da_nil)))))) (de_all fun _ _ _ _ _ => (de_var 8)))) (dg_name 6)) (ds_seq (ds_asgO (i := 7) (do_call (n := 2) (da_cons (de_var 1) (da_cons (DEO.frz (do_dc (di_list (de_var 6)) (dg_name 8) (by decide) dt_yes (de_all fun _ _ _ _ _ => (de_var 8)) (de_all fun _ _ _ _ _ => (de_callP (n := 5) (da_cons (de_var 0) (da_cons (de_var 1) (da_cons (de_var 4) (da_cons (de_var 5) (da_cons (de_var 8) da_nil))))))))) da_nil)))) (ds_seq (ds_if (dt_b (de_op r2_inF (de_var 4) (de_var 2))) (ds_drop (de_app (i := 7) (de_tup (da_cons (de_var 4) (da_cons (de_var 5) da_nil))))) ds_next) (ds_seq (ds_if (dt_b (de_op r2_inF (de_var 5) (de_var 2))) (ds_drop (de_app (i := 7) (de_tup (da_cons (de_var 5) (da_cons (de_var 4) da_nil))))) ds_next) (ds_retA 7))))))))) rfl h
theorem ok_fewest_frames (T : Tx mg) (D : At K mg "fewest_frames" s_fewest_frames ["line", "state"]) (D_quiet_plan : Dfn P w K mg base "quiet_plan" ["line", "state"] 8 (spO K 2 sem_quiet_plan)) : Dfn P w K mg base "fewest_frames" ["line", "state"] 9 (spP K 2 sem_fewest_frames) := by
  refine dfn D sc_fewest_frames (len_P rfl) (fun X f cdv A outer s H vs Q E hX hr h => ?_)
  subst hX
  refine ⟨_, (pss_one (ps_ret (pe_callB call_lenX (by rfl) T.b_len PySem.boot_len (pa_cons (pe_callD D_quiet_plan (hr.mono (by decide)) (by rfl) (pa_cons (pvl 0) (pa_cons (pvl 1) pa_nil))) pa_nil)))), ?_⟩
  exact run_P (fs := fs_fewest_frames) (ds_ret (de_cb cb_len (da_cons (DEO.frz (do_call (n := 2) (da_cons (de_var 0) (da_cons (de_var 1) da_nil)))) da_nil))) rfl h
theorem ok__law_network_right (T : Tx mg) {C_Network : Addr} (N_Network : ClsN K "Network" C_Network) (A_Network__line : NoAttr K C_Network "_line") (A_Network__known : NoAttr K C_Network "_known") (A_Network__sent : NoAttr K C_Network "_sent") (A_Network__changes : NoAttr K C_Network "_changes") (D : At K mg "_law_network_right" s__law_network_right ["spring", "line", "frames"]) (D_Network___init__ : DfnI P w K mg base "Network" C_Network ["self", "line"] 5 (spU K [(.i (.io "Network" .nl) (.io "Network" (.fc "_line" .fr (.fc "_known" .fr (.fc "_sent" .fl (.fc "_changes" .fl .nl)))))), .f] .fr sem_Network___init__)) (D_Network_known : DfnP P w K mg base C_Network "known" ["self"] 1 (spU K [(.i (.io "Network" (.fc "_line" .fr (.fc "_known" .fr (.fc "_sent" .fl (.fc "_changes" .fl .nl))))) (.io "Network" (.fc "_line" .fr (.fc "_known" .fr (.fc "_sent" .fl (.fc "_changes" .fl .nl))))))] .fl sem_Network_known)) (D_Network_send : DfnM P w K mg base C_Network "send" ["self", "sender", "target"] 5 (spU K [(.i (.io "Network" (.fc "_line" .fr (.fc "_known" .fr (.fc "_sent" .fl (.fc "_changes" .fl .nl))))) (.io "Network" (.fc "_line" .fr (.fc "_known" .fr (.fc "_sent" .fl (.fc "_changes" .fl .nl)))))), .f, .f] .fr sem_Network_send)) (D__law_frames : Dfn P w K mg base "_law_frames" ["spring", "line", "many"] 2 (spU K [(.i .fl .fl), .f, .f] .fl sem__law_frames)) (D_is_quiet : Dfn P w K mg base "is_quiet" ["line", "state"] 8 (spP K 2 sem_is_quiet)) (D_known_after : DfnK P w K mg base "known_after" ["line", "frames", "start"] 2 ["start"] [.non] 8 (spO K 3 sem_known_after)) (D_quiet_plan : Dfn P w K mg base "quiet_plan" ["line", "state"] 8 (spO K 2 sem_quiet_plan)) : Dfn P w K mg base "_law_network_right" ["spring", "line", "frames"] 9 (spM K 3 0 sem__law_network_right) := by
  refine dfn D sc__law_network_right (len_M rfl) (fun X f cdv A outer s H vs Q E hX hr h => ?_)
  subst hX
  obtain ⟨f_Network___init__, fd_Network___init__, M_Network___init__, G_Network___init__, B_Network___init__, F_Network___init__⟩ := D_Network___init__.ex
  obtain ⟨p_Network_known, f_Network_known, fd_Network_known, M_Network_known, B_Network_known, F_Network_known⟩ := D_Network_known.ex
  obtain ⟨f_Network_send, fd_Network_send, M_Network_send, B_Network_send, F_Network_send⟩ := D_Network_send.ex
  refine ⟨_, (pss_cons (ps_set (i := 3) sc__law_network_right.nd rfl (Or.inr rfl) (pe_make M_Network___init__ F_Network___init__ (hr.mono (by decide)) (by rfl) G_Network___init__ B_Network___init__ .nil pass0 (pa_cons (pvl 1) pa_nil))) (pss_cons (ps_for PassesOwn.never rfl (pi_list (pvl 2)) (pg_tup rfl (pgs_cons (pg_name (i := 4) sc__law_network_right.nd rfl (Or.inl rfl)) (pgs_cons (pg_name (i := 5) sc__law_network_right.nd rfl (Or.inl rfl)) pgs_nil))) (pss_one (ps_expr (pe_meth (pvc 3) N_Network.cl M_Network_send F_Network_send (hr.mono (by decide)) B_Network_send .nil pass0 (pa_cons (pvl 4) (pa_cons (pvl 5) pa_nil)))))) (pss_cons (ps_set (i := 6) sc__law_network_right.nd rfl (Or.inl rfl) (pe_callD D_quiet_plan (hr.mono (by decide)) (by rfl) (pa_cons (pvl 1) (pa_cons (pe_prop (pvc 3) N_Network.cl M_Network_known F_Network_known (hr.mono (by decide)) B_Network_known .nil pass0 rfl) pa_nil)))) (pss_cons (ps_for PassesOwn.never rfl (pi_list (pvl 6)) (pg_tup rfl (pgs_cons (pg_name (i := 4) sc__law_network_right.nd rfl (Or.inl rfl)) (pgs_cons (pg_name (i := 5) sc__law_network_right.nd rfl (Or.inl rfl)) pgs_nil))) (pss_one (ps_expr (pe_meth (pvc 3) N_Network.cl M_Network_send F_Network_send (hr.mono (by decide)) B_Network_send .nil pass0 (pa_cons (pvl 4) (pa_cons (pvl 5) pa_nil)))))) (pss_cons (ps_if (PW.pt (pw_or (pt_not (pt_val (pe_callD D_is_quiet (hr.mono (by decide)) (by rfl) (pa_cons (pvl 1) (pa_cons (pe_prop (pvc 3) N_Network.cl M_Network_known F_Network_known (hr.mono (by decide)) B_Network_known .nil pass0 rfl) pa_nil))))) (pw_or1 (pt_cmpR (opNeX (hu70 hr)) (pe_prop (pvc 3) N_Network.cl M_Network_known F_Network_known (hr.mono (by decide)) B_Network_known .nil pass0 rfl) (pe_callKD D_known_after (hr.mono (by decide)) (by rfl) (pa_cons (pvl 1) (pa_cons (pe_op opAdd (pvl 2) (pvl 6)) pa_nil))) (nomark _))))) (pss_one (ps_ret pe_bl)) pss_nil) (pss_cons (ps_set (i := 7) sc__law_network_right.nd rfl (Or.inl rfl) (pe_callD D__law_frames (hr.mono (by decide)) (by rfl) (pa_cons (pvl 0) (pa_cons (pvl 1) (pa_cons pe_int pa_nil))))) (pss_one (ps_ret (pe_cmpR (opEqX (hu70 hr)) (pe_lc (own := [("sender", 4), ("target", 5)])  (tt := tYes) rfl sc__law_network_right.nd (pi_list (pvl 7)) (blkOk_by (own := [("sender", 4), ("target", 5)]) (N := nn__law_network_right) (sc := defScope s__law_network_right) (by decide +kernel)) (blk_g fun _ _ _ _ _ => (pg_tup rfl (pgs_cons (pg_name (i := 4) sc__law_network_right.nd rfl (Or.inl rfl)) (pgs_cons (pg_name (i := 5) sc__law_network_right.nd rfl (Or.inl rfl)) pgs_nil)))) (fun _ _ _ _ _ => pts_nil) (blk_e fun _ _ _ _ _ => (pe_meth (pvc 3) N_Network.cl M_Network_send F_Network_send (hr.mono (by decide)) B_Network_send .nil pass0 (pa_cons (pvl 4) (pa_cons (pvl 5) pa_nil))))) (pe_op opMul (pe_lst (pa_cons pe_str pa_nil)) (pe_callB call_lenX (by rfl) T.b_len PySem.boot_len (pa_cons (pvl 7) pa_nil))) (nomark _)))))))))), ?_⟩
  exact run_M (fs := fs__law_network_right) (ds_seq (ds_asgN (i := 3) (s := (.io "Network" (.fc "_line" .fr (.fc "_known" .fr (.fc "_sent" .fl (.fc "_changes" .fl .nl)))))) (den_make (n := 1) (fs := (.fc "_line" .fr (.fc "_known" .fr (.fc "_sent" .fl (.fc "_changes" .fl .nl))))) N_Network rfl (da_cons (de_var 1) da_nil))) (ds_seq (ds_for (di_list (de_var 2)) (dg_tup (dgs_cons (dg_name 4) (dgs_cons (dg_name 5) dgs_nil))) (ds_drop (de_n (s := .fr) rfl (den_meth (i := 3) (ps := [(.i (.io "Network" (.fc "_line" .fr (.fc "_known" .fr (.fc "_sent" .fl (.fc "_changes" .fl .nl))))) (.io "Network" (.fc "_line" .fr (.fc "_known" .fr (.fc "_sent" .fl (.fc "_changes" .fl .nl)))))), .f, .f]) (r := .fr) N_Network rfl rfl (du_e (de_var 4) (du_e (de_var 5) du_nil)))))) (ds_seq (ds_asg (DEO.frz (do_call (n := 2) (da_cons (de_var 1) (da_cons (DEO.frz (do_n (den_prop (i := 3) (ps := [(.i (.io "Network" (.fc "_line" .fr (.fc "_known" .fr (.fc "_sent" .fl (.fc "_changes" .fl .nl))))) (.io "Network" (.fc "_line" .fr (.fc "_known" .fr (.fc "_sent" .fl (.fc "_changes" .fl .nl))))))]) (r := .fl) N_Network rfl rfl))) da_nil)))) (dg_name 6)) (ds_seq (ds_for (di_list (de_var 6)) (dg_tup (dgs_cons (dg_name 4) (dgs_cons (dg_name 5) dgs_nil))) (ds_drop (de_n (s := .fr) rfl (den_meth (i := 3) (ps := [(.i (.io "Network" (.fc "_line" .fr (.fc "_known" .fr (.fc "_sent" .fl (.fc "_changes" .fl .nl))))) (.io "Network" (.fc "_line" .fr (.fc "_known" .fr (.fc "_sent" .fl (.fc "_changes" .fl .nl)))))), .f, .f]) (r := .fr) N_Network rfl rfl (du_e (de_var 4) (du_e (de_var 5) du_nil)))))) (ds_seq (ds_if (dt_or (dt_not (dt_b (de_callP (n := 2) (da_cons (de_var 1) (da_cons (DEO.frz (do_n (den_prop (i := 3) (ps := [(.i (.io "Network" (.fc "_line" .fr (.fc "_known" .fr (.fc "_sent" .fl (.fc "_changes" .fl .nl))))) (.io "Network" (.fc "_line" .fr (.fc "_known" .fr (.fc "_sent" .fl (.fc "_changes" .fl .nl))))))]) (r := .fl) N_Network rfl rfl))) da_nil))))) (dt_b (de_op r2_neX (DEO.frz (do_n (den_prop (i := 3) (ps := [(.i (.io "Network" (.fc "_line" .fr (.fc "_known" .fr (.fc "_sent" .fl (.fc "_changes" .fl .nl))))) (.io "Network" (.fc "_line" .fr (.fc "_known" .fr (.fc "_sent" .fl (.fc "_changes" .fl .nl))))))]) (r := .fl) N_Network rfl rfl))) (DEO.frz (do_call (n := 3) (da_more (.cons IsC.non .nil) (da_cons (de_var 1) (da_cons (DEO.frz (do_op r2_cat (de_var 2) (de_var 6))) da_nil)))))))) (ds_ret (de_c (IsC.bl _))) ds_next) (ds_seq (ds_asg (DEO.frz (do_n (den_callU (ps := [(.i .fl .fl), .f, .f]) (r := .fl) rfl rfl (du_e (de_var 0) (du_e (de_var 1) (du_e (de_c (IsC.int _)) du_nil)))))) (dg_name 7)) (ds_ret (de_op r2_eqX (DEO.frz (do_lc (di_list (de_var 7)) (dg_all fun _ _ _ _ _ => (dg_tup (dgs_cons (dg_name 4) (dgs_cons (dg_name 5) dgs_nil)))) (by decide) dt_yes (de_all fun _ _ _ _ _ => (de_n (s := .fr) rfl (den_meth (i := 3) (ps := [(.i (.io "Network" (.fc "_line" .fr (.fc "_known" .fr (.fc "_sent" .fl (.fc "_changes" .fl .nl))))) (.io "Network" (.fc "_line" .fr (.fc "_known" .fr (.fc "_sent" .fl (.fc "_changes" .fl .nl)))))), .f, .f]) (r := .fr) N_Network rfl rfl (du_e (de_var 4) (du_e (de_var 5) du_nil))))))) (DEO.frz (do_op r2_rep (DEO.frz (do_lst (da_cons (de_c (IsC.str _)) da_nil))) (de_cb cb_len (da_cons (de_var 7) da_nil)))))))))))) rfl h
theorem ok__law_plan_right (T : Tx mg) (D : At K mg "_law_plan_right" s__law_plan_right ["spring", "line", "state"]) (D__law_frames : Dfn P w K mg base "_law_frames" ["spring", "line", "many"] 2 (spU K [(.i .fl .fl), .f, .f] .fl sem__law_frames)) (D__law_mirrored : Dfn P w K mg base "_law_mirrored" ["line", "state"] 1 (spP K 2 sem__law_mirrored)) (D_fewest_frames : Dfn P w K mg base "fewest_frames" ["line", "state"] 9 (spP K 2 sem_fewest_frames)) (D_is_quiet : Dfn P w K mg base "is_quiet" ["line", "state"] 8 (spP K 2 sem_is_quiet)) (D_kinds_of : DfnK P w K mg base "kinds_of" ["line", "frames", "start"] 2 ["start"] [.non] 8 (spO K 3 sem_kinds_of)) (D_known_after : DfnK P w K mg base "known_after" ["line", "frames", "start"] 2 ["start"] [.non] 8 (spO K 3 sem_known_after)) (D_lacking : Dfn P w K mg base "lacking" ["line", "state"] 7 (spO K 2 sem_lacking)) (D_quiet_plan : Dfn P w K mg base "quiet_plan" ["line", "state"] 8 (spO K 2 sem_quiet_plan)) : Dfn P w K mg base "_law_plan_right" ["spring", "line", "state"] 10 (spM K 3 0 sem__law_plan_right) := by
  refine dfn D sc__law_plan_right (len_M rfl) (fun X f cdv A outer s H vs Q E hX hr h => ?_)
  subst hX
  refine ⟨_, (pss_cons (ps_par (i := 3) (j := 4) (by rfl) sc__law_plan_right.nd rfl rfl (by decide) rfl rfl (pa_cons (pe_callD D_quiet_plan (hr.mono (by decide)) (by rfl) (pa_cons (pvl 1) (pa_cons (pvl 2) pa_nil))) (pa_cons (pe_callD D_fewest_frames (hr.mono (by decide)) (by rfl) (pa_cons (pvl 1) (pa_cons (pvl 2) pa_nil))) pa_nil)) (by rfl)) (pss_cons (ps_if (PW.pt (pw_or (pt_cmpR (opNeX (hu70 hr)) (pe_callB call_lenX (by rfl) T.b_len PySem.boot_len (pa_cons (pvl 3) pa_nil)) (pvl 4) (nomark _)) (pw_or (pt_cmpR (opNeX (hu70 hr)) (pe_cmpR (opEqX (hu70 hr)) (pvl 4) pe_int (nomark _)) (pe_callD D_is_quiet (hr.mono (by decide)) (by rfl) (pa_cons (pvl 1) (pa_cons (pvl 2) pa_nil))) (nomark _)) (pw_or1 (pt_cmpR (opNeX (hu70 hr)) (pe_cmpR (opEqX (hu70 hr)) (pvl 4) pe_int (nomark _)) (pe_cmpR (opEqX (hu70 hr)) (pe_callD D_lacking (hr.mono (by decide)) (by rfl) (pa_cons (pvl 1) (pa_cons (pvl 2) pa_nil))) (pe_lst pa_nil) (nomark _)) (nomark _)))))) (pss_one (ps_ret pe_bl)) pss_nil) (pss_cons (ps_set (i := 5) sc__law_plan_right.nd rfl (Or.inl rfl) (pvl 2)) (pss_cons (ps_for PassesOwn.never rfl (pi_enum (by rfl) T.b_enumerate (pa_cons (pvl 3) pa_nil)) (pg_tup rfl (pgs_cons (pg_name (i := 6) sc__law_plan_right.nd rfl (Or.inl rfl)) (pgs_cons (pg_name (i := 7) sc__law_plan_right.nd rfl (Or.inl rfl)) pgs_nil))) (pss_cons (ps_for PassesOwn.never rfl (pi_list (pe_callD D__law_frames (hr.mono (by decide)) (by rfl) (pa_cons (pvl 0) (pa_cons (pvl 1) (pa_cons (pe_callTy call_int1 (by rfl) T.b_int boot_int (pa_cons (pe_cmpR (opEqX (hu70 hr)) (pe_op opMod (pvl 6) pe_int) pe_int (nomark _)) pa_nil)) pa_nil))))) (pg_name (i := 8) sc__law_plan_right.nd rfl (Or.inl rfl)) (pss_one (ps_if (pt_cmpR opLt (pe_callD D_fewest_frames (hr.mono (by decide)) (by rfl) (pa_cons (pvl 1) (pa_cons (pe_callKN D_known_after (hr.mono (by decide)) (by rfl) (pa_cons (pvl 1) (pa_cons (pe_lst (pa_cons (pvl 8) pa_nil)) pa_nil)) (pk_cons (pvl 5) pk_nil)) pa_nil))) (pe_op opSub (pe_op opSub (pvl 4) (pvl 6)) pe_int) (nomark _)) (pss_one (ps_ret pe_bl)) pss_nil))) (pss_cons (ps_set (i := 5) sc__law_plan_right.nd rfl (Or.inl rfl) (pe_callKN D_known_after (hr.mono (by decide)) (by rfl) (pa_cons (pvl 1) (pa_cons (pe_lst (pa_cons (pvl 7) pa_nil)) pa_nil)) (pk_cons (pvl 5) pk_nil))) (pss_one (ps_if (pt_cmpR (opNeX (hu70 hr)) (pe_callD D_fewest_frames (hr.mono (by decide)) (by rfl) (pa_cons (pvl 1) (pa_cons (pvl 5) pa_nil))) (pe_op opSub (pe_op opSub (pvl 4) (pvl 6)) pe_int) (nomark _)) (pss_one (ps_ret pe_bl)) pss_nil))))) (pss_cons (ps_set (i := 9) sc__law_plan_right.nd rfl (Or.inl rfl) (pe_op opAdd (pvl 3) (pe_callD D__law_frames (hr.mono (by decide)) (by rfl) (pa_cons (pvl 0) (pa_cons (pvl 1) (pa_cons pe_int pa_nil)))))) (pss_cons (ps_if (PW.pt (pw_or (pt_not (pt_val (pe_callD D_is_quiet (hr.mono (by decide)) (by rfl) (pa_cons (pvl 1) (pa_cons (pvl 5) pa_nil))))) (pw_or1 (pt_cmpR (opNeX (hu70 hr)) (pe_callKN D_kinds_of (hr.mono (by decide)) (by rfl) (pa_cons (pvl 1) (pa_cons (pvl 9) pa_nil)) (pk_cons (pvl 5) pk_nil)) (pe_op opMul (pe_lst (pa_cons pe_str pa_nil)) (pe_callB call_lenX (by rfl) T.b_len PySem.boot_len (pa_cons (pvl 9) pa_nil))) (nomark _))))) (pss_one (ps_ret pe_bl)) pss_nil) (pss_cons (ps_asg (pe_callD D__law_mirrored (hr.mono (by decide)) (by rfl) (pa_cons (pvl 1) (pa_cons (pvl 2) pa_nil))) (pg_tup rfl (pgs_cons (pg_name (i := 10) sc__law_plan_right.nd rfl (Or.inl rfl)) (pgs_cons (pg_name (i := 8) sc__law_plan_right.nd rfl (Or.inl rfl)) pgs_nil)))) (pss_one (ps_ret (pe_cmpR (opEqX (hu70 hr)) (pe_callD D_fewest_frames (hr.mono (by decide)) (by rfl) (pa_cons (pvl 10) (pa_cons (pvl 8) pa_nil))) (pvl 4) (nomark _))))))))))), ?_⟩
  exact run_M (fs := fs__law_plan_right) (ds_seq (ds_par (da_cons (DEO.frz (do_call (n := 2) (da_cons (de_var 1) (da_cons (de_var 2) da_nil)))) (da_cons (de_callP (n := 2) (da_cons (de_var 1) (da_cons (de_var 2) da_nil))) da_nil))) (ds_seq (ds_if (dt_or (dt_b (de_op r2_neX (de_cb cb_len (da_cons (de_var 3) da_nil)) (de_var 4))) (dt_or (dt_b (de_op r2_neX (de_op r2_eqX (de_var 4) (de_c (IsC.int _))) (de_callP (n := 2) (da_cons (de_var 1) (da_cons (de_var 2) da_nil))))) (dt_b (de_op r2_neX (de_op r2_eqX (de_var 4) (de_c (IsC.int _))) (de_op r2_eqX (DEO.frz (do_call (n := 2) (da_cons (de_var 1) (da_cons (de_var 2) da_nil)))) (DEO.frz (do_lst da_nil))))))) (ds_ret (de_c (IsC.bl _))) ds_next) (ds_seq (ds_asg (de_var 2) (dg_name 5)) (ds_seq (ds_for (di_enum (da_cons (de_var 3) da_nil)) (dg_tup (dgs_cons (dg_name 6) (dgs_cons (dg_name 7) dgs_nil))) (ds_seq (ds_for (di_list (DEO.frz (do_n (den_callU (ps := [(.i .fl .fl), .f, .f]) (r := .fl) rfl rfl (du_e (de_var 0) (du_e (de_var 1) (du_e (de_cb cb_int1 (da_cons (de_op r2_eqX (de_op r2_mod (de_var 6) (de_c (IsC.int _))) (de_c (IsC.int _))) da_nil)) du_nil))))))) (dg_name 8) (ds_if (dt_b (de_op r2_lt (de_callP (n := 2) (da_cons (de_var 1) (da_cons (DEO.frz (do_call (n := 3) (da_app (n := 2) (m := 1) (da_cons (de_var 1) (da_cons (DEO.frz (do_lst (da_cons (de_var 8) da_nil))) da_nil)) (da_cons (de_var 5) da_nil)))) da_nil))) (de_op r2_sub (de_op r2_sub (de_var 4) (de_var 6)) (de_c (IsC.int _))))) (ds_ret (de_c (IsC.bl _))) ds_next)) (ds_seq (ds_asg (DEO.frz (do_call (n := 3) (da_app (n := 2) (m := 1) (da_cons (de_var 1) (da_cons (DEO.frz (do_lst (da_cons (de_var 7) da_nil))) da_nil)) (da_cons (de_var 5) da_nil)))) (dg_name 5)) (ds_if (dt_b (de_op r2_neX (de_callP (n := 2) (da_cons (de_var 1) (da_cons (de_var 5) da_nil))) (de_op r2_sub (de_op r2_sub (de_var 4) (de_var 6)) (de_c (IsC.int _))))) (ds_ret (de_c (IsC.bl _))) ds_next)))) (ds_seq (ds_asg (DEO.frz (do_op r2_cat (de_var 3) (DEO.frz (do_n (den_callU (ps := [(.i .fl .fl), .f, .f]) (r := .fl) rfl rfl (du_e (de_var 0) (du_e (de_var 1) (du_e (de_c (IsC.int _)) du_nil)))))))) (dg_name 9)) (ds_seq (ds_if (dt_or (dt_not (dt_b (de_callP (n := 2) (da_cons (de_var 1) (da_cons (de_var 5) da_nil))))) (dt_b (de_op r2_neX (DEO.frz (do_call (n := 3) (da_app (n := 2) (m := 1) (da_cons (de_var 1) (da_cons (de_var 9) da_nil)) (da_cons (de_var 5) da_nil)))) (DEO.frz (do_op r2_rep (DEO.frz (do_lst (da_cons (de_c (IsC.str _)) da_nil))) (de_cb cb_len (da_cons (de_var 9) da_nil))))))) (ds_ret (de_c (IsC.bl _))) ds_next) (ds_seq (ds_asg (de_callP (n := 2) (da_cons (de_var 1) (da_cons (de_var 2) da_nil))) (dg_tup (dgs_cons (dg_name 10) (dgs_cons (dg_name 8) dgs_nil)))) (ds_ret (de_op r2_eqX (de_callP (n := 2) (da_cons (de_var 10) (da_cons (de_var 8) da_nil))) (de_var 4)))))))))) rfl h
theorem ok_law (T : Tx mg) (hm : ∃ o, base.get? sysModules = some o) (D : At K mg "law" s_law ["script"]) (D__law_draw : Dfn P w K mg base "_law_draw" ["spring", "many"] 1 (spM K 2 0 sem__law_draw)) (D__law_frames : Dfn P w K mg base "_law_frames" ["spring", "line", "many"] 2 (spU K [(.i .fl .fl), .f, .f] .fl sem__law_frames)) (D__law_line : Dfn P w K mg base "_law_line" ["spring", "many"] 3 (spU K [(.i .fl .fl), .f] .fl sem__law_line)) (D__law_network_right : Dfn P w K mg base "_law_network_right" ["spring", "line", "frames"] 9 (spM K 3 0 sem__law_network_right)) (D__law_plan_right : Dfn P w K mg base "_law_plan_right" ["spring", "line", "state"] 10 (spM K 3 0 sem__law_plan_right)) (D__law_spring : Dfn P w K mg base "_law_spring" ["script"] 1 (spO K 1 sem__law_spring)) (D__law_state : Dfn P w K mg base "_law_state" ["spring", "line"] 2 (spU K [(.i .fl .fl), .f] .fl sem__law_state)) (D_known_after : DfnK P w K mg base "known_after" ["line", "frames", "start"] 2 ["start"] [.non] 8 (spO K 3 sem_known_after)) : DfnG P w K mg base "law" ["script"] 11 (spP K 1 sem_law) := by
  refine dfnG hm D sc_law (len_P rfl) (fun X G f cdv A outer s H vs Q E hX hr h => ?_)
  subst hX
  refine ⟨_, (pss_cons (ps_set (i := 1) sc_law.nd rfl (Or.inl rfl) (pe_callD D__law_spring (hr.mono (by decide)) (by rfl) (pa_cons (pvl 0) pa_nil))) (pss_cons (ps_for PassesOwn.never rfl (pi_range1 (by rfl) T.b_range (pa_cons (pe_op opAdd pe_int (pe_callB (call_min2 rfl) (by rfl) T.b_min (by decide +kernel) (pa_cons pe_int (pa_cons (pe_callB call_lenX (by rfl) T.b_len PySem.boot_len (pa_cons (pvl 0) pa_nil)) pa_nil)))) pa_nil)) (pg_name (i := 2) sc_law.nd rfl (Or.inl rfl)) (pss_cons (ps_set (i := 3) sc_law.nd rfl (Or.inl rfl) (pe_callD D__law_line (hr.mono (by decide)) (by rfl) (pa_cons (pvl 1) (pa_cons (pe_ix ix_seq (pe_lst (pa_cons (pe_op opAdd pe_int (pe_callD D__law_draw (hr.mono (by decide)) (by rfl) (pa_cons (pvl 1) (pa_cons pe_int pa_nil)))) (pa_cons (pe_op opAdd pe_int (pe_callD D__law_draw (hr.mono (by decide)) (by rfl) (pa_cons (pvl 1) (pa_cons pe_int pa_nil)))) pa_nil))) (pe_op opMod (pvl 2) pe_int) (fun _ _ => rfl)) pa_nil)))) (pss_cons (ps_set (i := 4) sc_law.nd rfl (Or.inl rfl) (pe_callD D__law_frames (hr.mono (by decide)) (by rfl) (pa_cons (pvl 1) (pa_cons (pvl 3) (pa_cons (pe_callD D__law_draw (hr.mono (by decide)) (by rfl) (pa_cons (pvl 1) (pa_cons pe_int pa_nil))) pa_nil))))) (pss_cons (ps_for PassesOwn.never rfl (pi_list (pe_lst (pa_cons (pe_callD D__law_state (hr.mono (by decide)) (by rfl) (pa_cons (pvl 1) (pa_cons (pvl 3) pa_nil))) (pa_cons (pe_callKD D_known_after (hr.mono (by decide)) (by rfl) (pa_cons (pvl 3) (pa_cons (pvl 4) pa_nil))) pa_nil)))) (pg_name (i := 5) sc_law.nd rfl (Or.inl rfl)) (pss_one (ps_if (pt_not (pt_val (pe_callD D__law_plan_right (hr.mono (by decide)) (by rfl) (pa_cons (pvl 1) (pa_cons (pvl 3) (pa_cons (pvl 5) pa_nil)))))) (pss_one (ps_ret pe_bl)) pss_nil))) (pss_one (ps_if (pt_not (pt_val (pe_callD D__law_network_right (hr.mono (by decide)) (by rfl) (pa_cons (pvl 1) (pa_cons (pvl 3) (pa_cons (pvl 4) pa_nil)))))) (pss_one (ps_ret pe_bl)) pss_nil)))))) (pss_one (ps_ret pe_bl)))), ?_⟩
  exact run_P (fs := fs_law) (ds_seq (ds_asgO (i := 1) (do_call (n := 1) (da_cons (de_var 0) da_nil))) (ds_seq (ds_for (di_rng1 (da_cons (de_op r2_add (de_c (IsC.int _)) (de_cb cb_min2 (da_cons (de_c (IsC.int _)) (da_cons (de_cb cb_len (da_cons (de_var 0) da_nil)) da_nil)))) da_nil)) (dg_name 2) (ds_seq (ds_asg (DEO.frz (do_n (den_callU (ps := [(.i .fl .fl), .f]) (r := .fl) rfl rfl (du_e (de_var 1) (du_e (de_op r2_ix (DEO.frz (do_lst (da_cons (de_op r2_add (de_c (IsC.int _)) (de_callM (n := 2) (p := 0) (da_cons (de_var 1) (da_cons (de_c (IsC.int _)) da_nil)))) (da_cons (de_op r2_add (de_c (IsC.int _)) (de_callM (n := 2) (p := 0) (da_cons (de_var 1) (da_cons (de_c (IsC.int _)) da_nil)))) da_nil)))) (de_op r2_mod (de_var 2) (de_c (IsC.int _)))) du_nil))))) (dg_name 3)) (ds_seq (ds_asg (DEO.frz (do_n (den_callU (ps := [(.i .fl .fl), .f, .f]) (r := .fl) rfl rfl (du_e (de_var 1) (du_e (de_var 3) (du_e (de_callM (n := 2) (p := 0) (da_cons (de_var 1) (da_cons (de_c (IsC.int _)) da_nil))) du_nil)))))) (dg_name 4)) (ds_seq (ds_for (di_list (DEO.frz (do_lst (da_cons (DEO.frz (do_n (den_callU (ps := [(.i .fl .fl), .f]) (r := .fl) rfl rfl (du_e (de_var 1) (du_e (de_var 3) du_nil))))) (da_cons (DEO.frz (do_call (n := 3) (da_more (.cons IsC.non .nil) (da_cons (de_var 3) (da_cons (de_var 4) da_nil))))) da_nil))))) (dg_name 5) (ds_if (dt_not (dt_b (de_callM (n := 3) (p := 0) (da_cons (de_var 1) (da_cons (de_var 3) (da_cons (de_var 5) da_nil)))))) (ds_ret (de_c (IsC.bl _))) ds_next)) (ds_if (dt_not (dt_b (de_callM (n := 3) (p := 0) (da_cons (de_var 1) (da_cons (de_var 3) (da_cons (de_var 4) da_nil)))))) (ds_ret (de_c (IsC.bl _))) ds_next))))) (ds_ret (de_c (IsC.bl _))))) rfl h
end

theorem all_at {P : Program} {w : World} {K : PySem.W.Frag} {h : Heap} {mg : Str → Option Value} (X : K.In h) (G : h.Ns mainGlobals mg)
    (v_FARTHEST : ∃ t, mg "FARTHEST" = some (.int (1000000000000000000000000000000) t))
    {C_Network : Addr} (aC_Network : PySem.W.nsIn K mainGlobals "Network" = some (some (.ref C_Network)))
    (pg_Network : PySem.W.plainGet K C_Network Str.empty = true) (hd_Network : PySem.W.hasDictIn K C_Network = true) (po_Network : PySem.W.plainOver K C_Network = true) (sa_Network : PySem.W.findIn K (.ref C_Network) "__setattr__" = some (some (.builtin "object.__setattr__"))) (mk_Network : PySem.W.makesIn K C_Network = true) (kc_Network : PySem.W.keepIn K (.ref C_Network) = true)
    (nA_Network__line : PySem.W.findIn K (.ref C_Network) "_line" = some none)
    (nA_Network__known : PySem.W.findIn K (.ref C_Network) "_known" = some none)
    (nA_Network__sent : PySem.W.findIn K (.ref C_Network) "_sent" = some none)
    (nA_Network__changes : PySem.W.findIn K (.ref C_Network) "_changes" = some none)
    {f0 : Addr} {p0 q0 : Option Addr} {r0 : Array (Option Value)} {t0 u0 v0 x0 y0 z0 : Value}
    (n0 : PySem.W.nsIn K mainGlobals "is_integer" = some (some (.ref f0)))
    (l0 : K.lookup f0 = some ⟨t0, p0, .func (PySem.W.fnOf "is_integer" "is_integer" (defArgs s_is_integer) (defBody s_is_integer) (defScope s_is_integer) .none u0 v0 x0 q0 y0 z0), r0⟩)
    (c0 : PySem.W.codeIn K y0 "is_integer" = true) (k0 : PySem.W.keepIn K (.ref f0) = true)
    {f1 : Addr} {p1 q1 : Option Addr} {r1 : Array (Option Value)} {t1 u1 v1 x1 y1 z1 : Value}
    (n1 : PySem.W.nsIn K mainGlobals "is_name" = some (some (.ref f1)))
    (l1 : K.lookup f1 = some ⟨t1, p1, .func (PySem.W.fnOf "is_name" "is_name" (defArgs s_is_name) (defBody s_is_name) (defScope s_is_name) .none u1 v1 x1 q1 y1 z1), r1⟩)
    (c1 : PySem.W.codeIn K y1 "is_name" = true) (k1 : PySem.W.keepIn K (.ref f1) = true)
    {f2 : Addr} {p2 q2 : Option Addr} {r2 : Array (Option Value)} {t2 u2 v2 x2 y2 z2 : Value}
    (n2 : PySem.W.nsIn K mainGlobals "is_list" = some (some (.ref f2)))
    (l2 : K.lookup f2 = some ⟨t2, p2, .func (PySem.W.fnOf "is_list" "is_list" (defArgs s_is_list) (defBody s_is_list) (defScope s_is_list) .none u2 v2 x2 q2 y2 z2), r2⟩)
    (c2 : PySem.W.codeIn K y2 "is_list" = true) (k2 : PySem.W.keepIn K (.ref f2) = true)
    {f3 : Addr} {p3 q3 : Option Addr} {r3 : Array (Option Value)} {t3 u3 v3 x3 y3 z3 : Value}
    (n3 : PySem.W.nsIn K mainGlobals "is_pair" = some (some (.ref f3)))
    (l3 : K.lookup f3 = some ⟨t3, p3, .func (PySem.W.fnOf "is_pair" "is_pair" (defArgs s_is_pair) (defBody s_is_pair) (defScope s_is_pair) .none u3 v3 x3 q3 y3 z3), r3⟩)
    (c3 : PySem.W.codeIn K y3 "is_pair" = true) (k3 : PySem.W.keepIn K (.ref f3) = true)
    {f4 : Addr} {p4 q4 : Option Addr} {r4 : Array (Option Value)} {t4 u4 v4 x4 y4 z4 : Value}
    (n4 : PySem.W.nsIn K mainGlobals "contains" = some (some (.ref f4)))
    (l4 : K.lookup f4 = some ⟨t4, p4, .func (PySem.W.fnOf "contains" "contains" (defArgs s_contains) (defBody s_contains) (defScope s_contains) .none u4 v4 x4 q4 y4 z4), r4⟩)
    (c4 : PySem.W.codeIn K y4 "contains" = true) (k4 : PySem.W.keepIn K (.ref f4) = true)
    {f5 : Addr} {p5 q5 : Option Addr} {r5 : Array (Option Value)} {t5 u5 v5 x5 y5 z5 : Value}
    (n5 : PySem.W.nsIn K mainGlobals "joined" = some (some (.ref f5)))
    (l5 : K.lookup f5 = some ⟨t5, p5, .func (PySem.W.fnOf "joined" "joined" (defArgs s_joined) (defBody s_joined) (defScope s_joined) .none u5 v5 x5 q5 y5 z5), r5⟩)
    (c5 : PySem.W.codeIn K y5 "joined" = true) (k5 : PySem.W.keepIn K (.ref f5) = true)
    {f6 : Addr} {p6 q6 : Option Addr} {r6 : Array (Option Value)} {t6 u6 v6 x6 y6 z6 : Value}
    (n6 : PySem.W.nsIn K mainGlobals "has_hosts_of" = some (some (.ref f6)))
    (l6 : K.lookup f6 = some ⟨t6, p6, .func (PySem.W.fnOf "has_hosts_of" "has_hosts_of" (defArgs s_has_hosts_of) (defBody s_has_hosts_of) (defScope s_has_hosts_of) .none u6 v6 x6 q6 y6 z6), r6⟩)
    (c6 : PySem.W.codeIn K y6 "has_hosts_of" = true) (k6 : PySem.W.keepIn K (.ref f6) = true)
    {f7 : Addr} {p7 q7 : Option Addr} {r7 : Array (Option Value)} {t7 u7 v7 x7 y7 z7 : Value}
    (n7 : PySem.W.nsIn K mainGlobals "is_host" = some (some (.ref f7)))
    (l7 : K.lookup f7 = some ⟨t7, p7, .func (PySem.W.fnOf "is_host" "is_host" (defArgs s_is_host) (defBody s_is_host) (defScope s_is_host) .none u7 v7 x7 q7 y7 z7), r7⟩)
    (c7 : PySem.W.codeIn K y7 "is_host" = true) (k7 : PySem.W.keepIn K (.ref f7) = true)
    {f8 : Addr} {p8 q8 : Option Addr} {r8 : Array (Option Value)} {t8 u8 v8 x8 y8 z8 : Value}
    (n8 : PySem.W.nsIn K mainGlobals "silent_state" = some (some (.ref f8)))
    (l8 : K.lookup f8 = some ⟨t8, p8, .func (PySem.W.fnOf "silent_state" "silent_state" (defArgs s_silent_state) (defBody s_silent_state) (defScope s_silent_state) .none u8 v8 x8 q8 y8 z8), r8⟩)
    (c8 : PySem.W.codeIn K y8 "silent_state" = true) (k8 : PySem.W.keepIn K (.ref f8) = true)
    {f9 : Addr} {p9 q9 : Option Addr} {r9 : Array (Option Value)} {t9 u9 v9 x9 y9 z9 : Value}
    (n9 : PySem.W.nsIn K mainGlobals "reach_of_kind" = some (some (.ref f9)))
    (l9 : K.lookup f9 = some ⟨t9, p9, .func (PySem.W.fnOf "reach_of_kind" "reach_of_kind" (defArgs s_reach_of_kind) (defBody s_reach_of_kind) (defScope s_reach_of_kind) .none u9 v9 x9 q9 y9 z9), r9⟩)
    (c9 : PySem.W.codeIn K y9 "reach_of_kind" = true) (k9 : PySem.W.keepIn K (.ref f9) = true)
    {f10 : Addr} {p10 q10 : Option Addr} {r10 : Array (Option Value)} {t10 u10 v10 x10 y10 z10 : Value}
    (n10 : PySem.W.nsIn K mainGlobals "inner_plan" = some (some (.ref f10)))
    (l10 : K.lookup f10 = some ⟨t10, p10, .func (PySem.W.fnOf "inner_plan" "inner_plan" (defArgs s_inner_plan) (defBody s_inner_plan) (defScope s_inner_plan) .none u10 v10 x10 q10 y10 z10), r10⟩)
    (c10 : PySem.W.codeIn K y10 "inner_plan" = true) (k10 : PySem.W.keepIn K (.ref f10) = true)
    {f11 pr11 : Addr} {rs11 : List Value} {p11 q11 : Option Addr} {r11 : Array (Option Value)} {t11 u11 v11 x11 y11 z11 : Value}
    (n11 : PySem.W.findIn K (.ref C_Network) "known" = some (some (.ref pr11))) (sp11 : PySem.W.specialIn K (.ref pr11) "__get__" = some (some (.builtin "property.__get__"))) (tk11 : PySem.W.takesIn K (.ref pr11) = some true) (rc11 : PySem.W.recIn K pr11 "property" = some (.ref f11 :: rs11))
    (l11 : K.lookup f11 = some ⟨t11, p11, .func (PySem.W.fnOf "known" "Network.known" (defArgs s_Network_known) (defBody s_Network_known) (defScope s_Network_known) .none u11 v11 x11 q11 y11 z11), r11⟩)
    (c11 : PySem.W.codeIn K y11 "Network.known" = true) (k11 : PySem.W.keepIn K (.ref f11) = true)
    {f12 : Addr} {p12 q12 : Option Addr} {r12 : Array (Option Value)} {t12 u12 v12 x12 y12 z12 : Value}
    (n12 : PySem.W.findIn K (.ref C_Network) "_begin_change" = some (some (.ref f12))) (i12 : PySem.W.isFn K (.ref f12) = true)
    (l12 : K.lookup f12 = some ⟨t12, p12, .func (PySem.W.fnOf "_begin_change" "Network._begin_change" (defArgs s_Network__begin_change) (defBody s_Network__begin_change) (defScope s_Network__begin_change) .none u12 v12 x12 q12 y12 z12), r12⟩)
    (c12 : PySem.W.codeIn K y12 "Network._begin_change" = true) (k12 : PySem.W.keepIn K (.ref f12) = true)
    {f13 : Addr} {p13 q13 : Option Addr} {r13 : Array (Option Value)} {t13 u13 v13 x13 y13 z13 : Value}
    (n13 : PySem.W.nsIn K mainGlobals "_law_spring" = some (some (.ref f13)))
    (l13 : K.lookup f13 = some ⟨t13, p13, .func (PySem.W.fnOf "_law_spring" "_law_spring" (defArgs s__law_spring) (defBody s__law_spring) (defScope s__law_spring) .none u13 v13 x13 q13 y13 z13), r13⟩)
    (c13 : PySem.W.codeIn K y13 "_law_spring" = true) (k13 : PySem.W.keepIn K (.ref f13) = true)
    {f14 : Addr} {p14 q14 : Option Addr} {r14 : Array (Option Value)} {t14 u14 v14 x14 y14 z14 : Value}
    (n14 : PySem.W.nsIn K mainGlobals "_law_draw" = some (some (.ref f14)))
    (l14 : K.lookup f14 = some ⟨t14, p14, .func (PySem.W.fnOf "_law_draw" "_law_draw" (defArgs s__law_draw) (defBody s__law_draw) (defScope s__law_draw) .none u14 v14 x14 q14 y14 z14), r14⟩)
    (c14 : PySem.W.codeIn K y14 "_law_draw" = true) (k14 : PySem.W.keepIn K (.ref f14) = true)
    {f15 : Addr} {p15 q15 : Option Addr} {r15 : Array (Option Value)} {t15 u15 v15 x15 y15 z15 : Value}
    (n15 : PySem.W.nsIn K mainGlobals "_law_mirrored" = some (some (.ref f15)))
    (l15 : K.lookup f15 = some ⟨t15, p15, .func (PySem.W.fnOf "_law_mirrored" "_law_mirrored" (defArgs s__law_mirrored) (defBody s__law_mirrored) (defScope s__law_mirrored) .none u15 v15 x15 q15 y15 z15), r15⟩)
    (c15 : PySem.W.codeIn K y15 "_law_mirrored" = true) (k15 : PySem.W.keepIn K (.ref f15) = true)
    {f16 : Addr} {p16 q16 : Option Addr} {r16 : Array (Option Value)} {t16 u16 v16 x16 y16 z16 : Value}
    (n16 : PySem.W.nsIn K mainGlobals "is_position" = some (some (.ref f16)))
    (l16 : K.lookup f16 = some ⟨t16, p16, .func (PySem.W.fnOf "is_position" "is_position" (defArgs s_is_position) (defBody s_is_position) (defScope s_is_position) .none u16 v16 x16 q16 y16 z16), r16⟩)
    (c16 : PySem.W.codeIn K y16 "is_position" = true) (k16 : PySem.W.keepIn K (.ref f16) = true)
    {f17 : Addr} {p17 q17 : Option Addr} {r17 : Array (Option Value)} {t17 u17 v17 x17 y17 z17 : Value}
    (n17 : PySem.W.nsIn K mainGlobals "covers" = some (some (.ref f17)))
    (l17 : K.lookup f17 = some ⟨t17, p17, .func (PySem.W.fnOf "covers" "covers" (defArgs s_covers) (defBody s_covers) (defScope s_covers) .none u17 v17 x17 q17 y17 z17), r17⟩)
    (c17 : PySem.W.codeIn K y17 "covers" = true) (k17 : PySem.W.keepIn K (.ref f17) = true)
    {f18 : Addr} {p18 q18 : Option Addr} {r18 : Array (Option Value)} {t18 u18 v18 x18 y18 z18 : Value}
    (n18 : PySem.W.nsIn K mainGlobals "is_end" = some (some (.ref f18)))
    (l18 : K.lookup f18 = some ⟨t18, p18, .func (PySem.W.fnOf "is_end" "is_end" (defArgs s_is_end) (defBody s_is_end) (defScope s_is_end) .none u18 v18 x18 q18 y18 z18), r18⟩)
    (c18 : PySem.W.codeIn K y18 "is_end" = true) (k18 : PySem.W.keepIn K (.ref f18) = true)
    {f19 : Addr} {p19 q19 : Option Addr} {r19 : Array (Option Value)} {t19 u19 v19 x19 y19 z19 : Value}
    (n19 : PySem.W.nsIn K mainGlobals "is_frame" = some (some (.ref f19)))
    (l19 : K.lookup f19 = some ⟨t19, p19, .func (PySem.W.fnOf "is_frame" "is_frame" (defArgs s_is_frame) (defBody s_is_frame) (defScope s_is_frame) .none u19 v19 x19 q19 y19 z19), r19⟩)
    (c19 : PySem.W.codeIn K y19 "is_frame" = true) (k19 : PySem.W.keepIn K (.ref f19) = true)
    {f20 : Addr} {p20 q20 : Option Addr} {r20 : Array (Option Value)} {t20 u20 v20 x20 y20 z20 : Value}
    (n20 : PySem.W.nsIn K mainGlobals "check_hosts" = some (some (.ref f20)))
    (l20 : K.lookup f20 = some ⟨t20, p20, .func (PySem.W.fnOf "check_hosts" "check_hosts" (defArgs s_check_hosts) (defBody s_check_hosts) (defScope s_check_hosts) .none u20 v20 x20 q20 y20 z20), r20⟩)
    (c20 : PySem.W.codeIn K y20 "check_hosts" = true) (k20 : PySem.W.keepIn K (.ref f20) = true)
    {f21 : Addr} {p21 q21 : Option Addr} {r21 : Array (Option Value)} {t21 u21 v21 x21 y21 z21 : Value}
    (n21 : PySem.W.nsIn K mainGlobals "kind_in" = some (some (.ref f21)))
    (l21 : K.lookup f21 = some ⟨t21, p21, .func (PySem.W.fnOf "kind_in" "kind_in" (defArgs s_kind_in) (defBody s_kind_in) (defScope s_kind_in) .none u21 v21 x21 q21 y21 z21), r21⟩)
    (c21 : PySem.W.codeIn K y21 "kind_in" = true) (k21 : PySem.W.keepIn K (.ref f21) = true)
    {f22 : Addr} {p22 q22 : Option Addr} {r22 : Array (Option Value)} {t22 u22 v22 x22 y22 z22 : Value}
    (n22 : PySem.W.nsIn K mainGlobals "frames_to_ends" = some (some (.ref f22)))
    (l22 : K.lookup f22 = some ⟨t22, p22, .func (PySem.W.fnOf "frames_to_ends" "frames_to_ends" (defArgs s_frames_to_ends) (defBody s_frames_to_ends) (defScope s_frames_to_ends) .none u22 v22 x22 q22 y22 z22), r22⟩)
    (c22 : PySem.W.codeIn K y22 "frames_to_ends" = true) (k22 : PySem.W.keepIn K (.ref f22) = true)
    {f23 : Addr} {p23 q23 : Option Addr} {r23 : Array (Option Value)} {t23 u23 v23 x23 y23 z23 : Value}
    (n23 : PySem.W.nsIn K mainGlobals "_law_names" = some (some (.ref f23)))
    (l23 : K.lookup f23 = some ⟨t23, p23, .func (PySem.W.fnOf "_law_names" "_law_names" (defArgs s__law_names) (defBody s__law_names) (defScope s__law_names) .none u23 v23 x23 q23 y23 z23), r23⟩)
    (c23 : PySem.W.codeIn K y23 "_law_names" = true) (k23 : PySem.W.keepIn K (.ref f23) = true)
    {f24 : Addr} {p24 q24 : Option Addr} {r24 : Array (Option Value)} {t24 u24 v24 x24 y24 z24 : Value}
    (n24 : PySem.W.nsIn K mainGlobals "_law_frames" = some (some (.ref f24)))
    (l24 : K.lookup f24 = some ⟨t24, p24, .func (PySem.W.fnOf "_law_frames" "_law_frames" (defArgs s__law_frames) (defBody s__law_frames) (defScope s__law_frames) .none u24 v24 x24 q24 y24 z24), r24⟩)
    (c24 : PySem.W.codeIn K y24 "_law_frames" = true) (k24 : PySem.W.keepIn K (.ref f24) = true)
    {f25 : Addr} {p25 q25 : Option Addr} {r25 : Array (Option Value)} {t25 u25 v25 x25 y25 z25 : Value}
    (n25 : PySem.W.nsIn K mainGlobals "_law_state" = some (some (.ref f25)))
    (l25 : K.lookup f25 = some ⟨t25, p25, .func (PySem.W.fnOf "_law_state" "_law_state" (defArgs s__law_state) (defBody s__law_state) (defScope s__law_state) .none u25 v25 x25 q25 y25 z25), r25⟩)
    (c25 : PySem.W.codeIn K y25 "_law_state" = true) (k25 : PySem.W.keepIn K (.ref f25) = true)
    {f26 : Addr} {p26 q26 : Option Addr} {r26 : Array (Option Value)} {t26 u26 v26 x26 y26 z26 : Value}
    (n26 : PySem.W.nsIn K mainGlobals "is_line" = some (some (.ref f26)))
    (l26 : K.lookup f26 = some ⟨t26, p26, .func (PySem.W.fnOf "is_line" "is_line" (defArgs s_is_line) (defBody s_is_line) (defScope s_is_line) .none u26 v26 x26 q26 y26 z26), r26⟩)
    (c26 : PySem.W.codeIn K y26 "is_line" = true) (k26 : PySem.W.keepIn K (.ref f26) = true)
    {f27 : Addr} {p27 q27 : Option Addr} {r27 : Array (Option Value)} {t27 u27 v27 x27 y27 z27 : Value}
    (n27 : PySem.W.nsIn K mainGlobals "is_known_interval" = some (some (.ref f27)))
    (l27 : K.lookup f27 = some ⟨t27, p27, .func (PySem.W.fnOf "is_known_interval" "is_known_interval" (defArgs s_is_known_interval) (defBody s_is_known_interval) (defScope s_is_known_interval) .none u27 v27 x27 q27 y27 z27), r27⟩)
    (c27 : PySem.W.codeIn K y27 "is_known_interval" = true) (k27 : PySem.W.keepIn K (.ref f27) = true)
    {f28 : Addr} {p28 q28 : Option Addr} {r28 : Array (Option Value)} {t28 u28 v28 x28 y28 z28 : Value}
    (n28 : PySem.W.nsIn K mainGlobals "send_one" = some (some (.ref f28)))
    (l28 : K.lookup f28 = some ⟨t28, p28, .func (PySem.W.fnOf "send_one" "send_one" (defArgs s_send_one) (defBody s_send_one) (defScope s_send_one) .none u28 v28 x28 q28 y28 z28), r28⟩)
    (c28 : PySem.W.codeIn K y28 "send_one" = true) (k28 : PySem.W.keepIn K (.ref f28) = true)
    {f29 : Addr} {p29 q29 : Option Addr} {r29 : Array (Option Value)} {t29 u29 v29 x29 y29 z29 : Value}
    (n29 : PySem.W.nsIn K mainGlobals "_law_line" = some (some (.ref f29)))
    (l29 : K.lookup f29 = some ⟨t29, p29, .func (PySem.W.fnOf "_law_line" "_law_line" (defArgs s__law_line) (defBody s__law_line) (defScope s__law_line) .none u29 v29 x29 q29 y29 z29), r29⟩)
    (c29 : PySem.W.codeIn K y29 "_law_line" = true) (k29 : PySem.W.keepIn K (.ref f29) = true)
    {f30 : Addr} {p30 q30 : Option Addr} {r30 : Array (Option Value)} {t30 u30 v30 x30 y30 z30 : Value}
    (n30 : PySem.W.nsIn K mainGlobals "check_line" = some (some (.ref f30)))
    (l30 : K.lookup f30 = some ⟨t30, p30, .func (PySem.W.fnOf "check_line" "check_line" (defArgs s_check_line) (defBody s_check_line) (defScope s_check_line) .none u30 v30 x30 q30 y30 z30), r30⟩)
    (c30 : PySem.W.codeIn K y30 "check_line" = true) (k30 : PySem.W.keepIn K (.ref f30) = true)
    {f31 : Addr} {p31 q31 : Option Addr} {r31 : Array (Option Value)} {t31 u31 v31 x31 y31 z31 : Value}
    (n31 : PySem.W.nsIn K mainGlobals "send_each" = some (some (.ref f31)))
    (l31 : K.lookup f31 = some ⟨t31, p31, .func (PySem.W.fnOf "send_each" "send_each" (defArgs s_send_each) (defBody s_send_each) (defScope s_send_each) .none u31 v31 x31 q31 y31 z31), r31⟩)
    (c31 : PySem.W.codeIn K y31 "send_each" = true) (k31 : PySem.W.keepIn K (.ref f31) = true)
    {f32 : Addr} {p32 q32 : Option Addr} {r32 : Array (Option Value)} {t32 u32 v32 x32 y32 z32 : Value}
    (n32 : PySem.W.findIn K (.ref C_Network) "_pass_on" = some (some (.ref f32))) (i32 : PySem.W.isFn K (.ref f32) = true)
    (l32 : K.lookup f32 = some ⟨t32, p32, .func (PySem.W.fnOf "_pass_on" "Network._pass_on" (defArgs s_Network__pass_on) (defBody s_Network__pass_on) (defScope s_Network__pass_on) .none u32 v32 x32 q32 y32 z32), r32⟩)
    (c32 : PySem.W.codeIn K y32 "Network._pass_on" = true) (k32 : PySem.W.keepIn K (.ref f32) = true)
    {f33 : Addr} {p33 q33 : Option Addr} {r33 : Array (Option Value)} {t33 u33 v33 x33 y33 z33 : Value}
    (n33 : PySem.W.nsIn K mainGlobals "is_state" = some (some (.ref f33)))
    (l33 : K.lookup f33 = some ⟨t33, p33, .func (PySem.W.fnOf "is_state" "is_state" (defArgs s_is_state) (defBody s_is_state) (defScope s_is_state) .none u33 v33 x33 q33 y33 z33), r33⟩)
    (c33 : PySem.W.codeIn K y33 "is_state" = true) (k33 : PySem.W.keepIn K (.ref f33) = true)
    {f34 : Addr} {p34 q34 : Option Addr} {r34 : Array (Option Value)} {t34 u34 v34 x34 y34 z34 : Value}
    (n34 : PySem.W.nsIn K mainGlobals "is_frames" = some (some (.ref f34)))
    (l34 : K.lookup f34 = some ⟨t34, p34, .func (PySem.W.fnOf "is_frames" "is_frames" (defArgs s_is_frames) (defBody s_is_frames) (defScope s_is_frames) .none u34 v34 x34 q34 y34 z34), r34⟩)
    (c34 : PySem.W.codeIn K y34 "is_frames" = true) (k34 : PySem.W.keepIn K (.ref f34) = true)
    {f35 : Addr} {p35 q35 : Option Addr} {r35 : Array (Option Value)} {t35 u35 v35 x35 y35 z35 : Value}
    (n35 : PySem.W.nsIn K mainGlobals "in_order" = some (some (.ref f35)))
    (l35 : K.lookup f35 = some ⟨t35, p35, .func (PySem.W.fnOf "in_order" "in_order" (defArgs s_in_order) (defBody s_in_order) (defScope s_in_order) .none u35 v35 x35 q35 y35 z35), r35⟩)
    (c35 : PySem.W.codeIn K y35 "in_order" = true) (k35 : PySem.W.keepIn K (.ref f35) = true)
    {f36 : Addr} {p36 q36 : Option Addr} {r36 : Array (Option Value)} {t36 u36 v36 x36 y36 z36 : Value}
    (n36 : PySem.W.findIn K (.ref C_Network) "__init__" = some (some (.ref f36))) (i36 : PySem.W.isFn K (.ref f36) = true)
    (l36 : K.lookup f36 = some ⟨t36, p36, .func (PySem.W.fnOf "__init__" "Network.__init__" (defArgs s_Network___init__) (defBody s_Network___init__) (defScope s_Network___init__) .none u36 v36 x36 q36 y36 z36), r36⟩)
    (c36 : PySem.W.codeIn K y36 "Network.__init__" = true) (k36 : PySem.W.keepIn K (.ref f36) = true)
    {f37 : Addr} {p37 q37 : Option Addr} {r37 : Array (Option Value)} {t37 u37 v37 x37 y37 z37 : Value}
    (n37 : PySem.W.findIn K (.ref C_Network) "send" = some (some (.ref f37))) (i37 : PySem.W.isFn K (.ref f37) = true)
    (l37 : K.lookup f37 = some ⟨t37, p37, .func (PySem.W.fnOf "send" "Network.send" (defArgs s_Network_send) (defBody s_Network_send) (defScope s_Network_send) .none u37 v37 x37 q37 y37 z37), r37⟩)
    (c37 : PySem.W.codeIn K y37 "Network.send" = true) (k37 : PySem.W.keepIn K (.ref f37) = true)
    {f38 : Addr} {p38 q38 : Option Addr} {r38 : Array (Option Value)} {t38 u38 v38 x38 y38 z38 : Value}
    (n38 : PySem.W.nsIn K mainGlobals "check_state" = some (some (.ref f38)))
    (l38 : K.lookup f38 = some ⟨t38, p38, .func (PySem.W.fnOf "check_state" "check_state" (defArgs s_check_state) (defBody s_check_state) (defScope s_check_state) .none u38 v38 x38 q38 y38 z38), r38⟩)
    (c38 : PySem.W.codeIn K y38 "check_state" = true) (k38 : PySem.W.keepIn K (.ref f38) = true)
    {f39 : Addr} {p39 q39 : Option Addr} {r39 : Array (Option Value)} {t39 u39 v39 x39 y39 z39 : Value}
    (n39 : PySem.W.nsIn K mainGlobals "check_frames" = some (some (.ref f39)))
    (l39 : K.lookup f39 = some ⟨t39, p39, .func (PySem.W.fnOf "check_frames" "check_frames" (defArgs s_check_frames) (defBody s_check_frames) (defScope s_check_frames) .none u39 v39 x39 q39 y39 z39), r39⟩)
    (c39 : PySem.W.codeIn K y39 "check_frames" = true) (k39 : PySem.W.keepIn K (.ref f39) = true)
    {f40 : Addr} {p40 q40 : Option Addr} {r40 : Array (Option Value)} {t40 u40 v40 x40 y40 z40 : Value}
    (n40 : PySem.W.nsIn K mainGlobals "lacking" = some (some (.ref f40)))
    (l40 : K.lookup f40 = some ⟨t40, p40, .func (PySem.W.fnOf "lacking" "lacking" (defArgs s_lacking) (defBody s_lacking) (defScope s_lacking) .none u40 v40 x40 q40 y40 z40), r40⟩)
    (c40 : PySem.W.codeIn K y40 "lacking" = true) (k40 : PySem.W.keepIn K (.ref f40) = true)
    {f41 : Addr} {p41 q41 : Option Addr} {r41 : Array (Option Value)} {t41 u41 v41 x41 y41 z41 : Value}
    (n41 : PySem.W.nsIn K mainGlobals "starting_state" = some (some (.ref f41)))
    (l41 : K.lookup f41 = some ⟨t41, p41, .func (PySem.W.fnOf "starting_state" "starting_state" (defArgs s_starting_state) (defBody s_starting_state) (defScope s_starting_state) .none u41 v41 x41 q41 y41 z41), r41⟩)
    (c41 : PySem.W.codeIn K y41 "starting_state" = true) (k41 : PySem.W.keepIn K (.ref f41) = true)
    {f42 : Addr} {p42 q42 : Option Addr} {r42 : Array (Option Value)} {t42 u42 v42 x42 y42 z42 : Value}
    (n42 : PySem.W.nsIn K mainGlobals "is_quiet" = some (some (.ref f42)))
    (l42 : K.lookup f42 = some ⟨t42, p42, .func (PySem.W.fnOf "is_quiet" "is_quiet" (defArgs s_is_quiet) (defBody s_is_quiet) (defScope s_is_quiet) .none u42 v42 x42 q42 y42 z42), r42⟩)
    (c42 : PySem.W.codeIn K y42 "is_quiet" = true) (k42 : PySem.W.keepIn K (.ref f42) = true)
    {f43 d43 : Addr} {p43 q43 : Option Addr} {r43 : Array (Option Value)} {t43 v43 x43 y43 z43 : Value}
    (n43 : PySem.W.nsIn K mainGlobals "kinds_of" = some (some (.ref f43)))
    (l43 : K.lookup f43 = some ⟨t43, p43, .func (PySem.W.fnOf "kinds_of" "kinds_of" (defArgs s_kinds_of) (defBody s_kinds_of) (defScope s_kinds_of) .none (.ref d43) v43 x43 q43 y43 z43), r43⟩)
    (c43 : PySem.W.codeIn K y43 "kinds_of" = true) (k43 : PySem.W.keepIn K (.ref f43) = true)
    (s43 : PySem.W.nsIn K d43 "start" = some (some .none))
    {f44 d44 : Addr} {p44 q44 : Option Addr} {r44 : Array (Option Value)} {t44 v44 x44 y44 z44 : Value}
    (n44 : PySem.W.nsIn K mainGlobals "known_after" = some (some (.ref f44)))
    (l44 : K.lookup f44 = some ⟨t44, p44, .func (PySem.W.fnOf "known_after" "known_after" (defArgs s_known_after) (defBody s_known_after) (defScope s_known_after) .none (.ref d44) v44 x44 q44 y44 z44), r44⟩)
    (c44 : PySem.W.codeIn K y44 "known_after" = true) (k44 : PySem.W.keepIn K (.ref f44) = true)
    (s44 : PySem.W.nsIn K d44 "start" = some (some .none))
    {f45 : Addr} {p45 q45 : Option Addr} {r45 : Array (Option Value)} {t45 u45 v45 x45 y45 z45 : Value}
    (n45 : PySem.W.nsIn K mainGlobals "quiet_plan" = some (some (.ref f45)))
    (l45 : K.lookup f45 = some ⟨t45, p45, .func (PySem.W.fnOf "quiet_plan" "quiet_plan" (defArgs s_quiet_plan) (defBody s_quiet_plan) (defScope s_quiet_plan) .none u45 v45 x45 q45 y45 z45), r45⟩)
    (c45 : PySem.W.codeIn K y45 "quiet_plan" = true) (k45 : PySem.W.keepIn K (.ref f45) = true)
    {f46 : Addr} {p46 q46 : Option Addr} {r46 : Array (Option Value)} {t46 u46 v46 x46 y46 z46 : Value}
    (n46 : PySem.W.nsIn K mainGlobals "fewest_frames" = some (some (.ref f46)))
    (l46 : K.lookup f46 = some ⟨t46, p46, .func (PySem.W.fnOf "fewest_frames" "fewest_frames" (defArgs s_fewest_frames) (defBody s_fewest_frames) (defScope s_fewest_frames) .none u46 v46 x46 q46 y46 z46), r46⟩)
    (c46 : PySem.W.codeIn K y46 "fewest_frames" = true) (k46 : PySem.W.keepIn K (.ref f46) = true)
    {f47 : Addr} {p47 q47 : Option Addr} {r47 : Array (Option Value)} {t47 u47 v47 x47 y47 z47 : Value}
    (n47 : PySem.W.nsIn K mainGlobals "_law_network_right" = some (some (.ref f47)))
    (l47 : K.lookup f47 = some ⟨t47, p47, .func (PySem.W.fnOf "_law_network_right" "_law_network_right" (defArgs s__law_network_right) (defBody s__law_network_right) (defScope s__law_network_right) .none u47 v47 x47 q47 y47 z47), r47⟩)
    (c47 : PySem.W.codeIn K y47 "_law_network_right" = true) (k47 : PySem.W.keepIn K (.ref f47) = true)
    {f48 : Addr} {p48 q48 : Option Addr} {r48 : Array (Option Value)} {t48 u48 v48 x48 y48 z48 : Value}
    (n48 : PySem.W.nsIn K mainGlobals "_law_plan_right" = some (some (.ref f48)))
    (l48 : K.lookup f48 = some ⟨t48, p48, .func (PySem.W.fnOf "_law_plan_right" "_law_plan_right" (defArgs s__law_plan_right) (defBody s__law_plan_right) (defScope s__law_plan_right) .none u48 v48 x48 q48 y48 z48), r48⟩)
    (c48 : PySem.W.codeIn K y48 "_law_plan_right" = true) (k48 : PySem.W.keepIn K (.ref f48) = true)
    {f49 : Addr} {p49 q49 : Option Addr} {r49 : Array (Option Value)} {t49 u49 v49 x49 y49 z49 : Value}
    (n49 : PySem.W.nsIn K mainGlobals "law" = some (some (.ref f49)))
    (l49 : K.lookup f49 = some ⟨t49, p49, .func (PySem.W.fnOf "law" "law" (defArgs s_law) (defBody s_law) (defScope s_law) .none u49 v49 x49 q49 y49 z49), r49⟩)
    (c49 : PySem.W.codeIn K y49 "law" = true) (k49 : PySem.W.keepIn K (.ref f49) = true)
    (b_abs : PySem.W.nsIn K mainGlobals "abs" = some none)
    (b_all : PySem.W.nsIn K mainGlobals "all" = some none)
    (b_bool : PySem.W.nsIn K mainGlobals "bool" = some none)
    (b_dict : PySem.W.nsIn K mainGlobals "dict" = some none)
    (b_enumerate : PySem.W.nsIn K mainGlobals "enumerate" = some none)
    (b_int : PySem.W.nsIn K mainGlobals "int" = some none)
    (b_isinstance : PySem.W.nsIn K mainGlobals "isinstance" = some none)
    (b_len : PySem.W.nsIn K mainGlobals "len" = some none)
    (b_list : PySem.W.nsIn K mainGlobals "list" = some none)
    (b_max : PySem.W.nsIn K mainGlobals "max" = some none)
    (b_min : PySem.W.nsIn K mainGlobals "min" = some none)
    (b_range : PySem.W.nsIn K mainGlobals "range" = some none)
    (b_set : PySem.W.nsIn K mainGlobals "set" = some none)
    (b_sorted : PySem.W.nsIn K mainGlobals "sorted" = some none)
    (b_str : PySem.W.nsIn K mainGlobals "str" = some none)
    (b_tuple : PySem.W.nsIn K mainGlobals "tuple" = some none)
    (b_type : PySem.W.nsIn K mainGlobals "type" = some none)
    {t_ALL : _} (g_ALL : PySem.W.nsIn K mainGlobals "ALL" = some (some (.str "all" t_ALL)))
    {t_DIRECT : _} (g_DIRECT : PySem.W.nsIn K mainGlobals "DIRECT" = some (some (.str "direct" t_DIRECT)))
    {t_FLOOD : _} (g_FLOOD : PySem.W.nsIn K mainGlobals "FLOOD" = some (some (.str "flood" t_FLOOD)))
    {t_MOST_FRAMES : _} (g_MOST_FRAMES : PySem.W.nsIn K mainGlobals "MOST_FRAMES" = some (some (.int (300) t_MOST_FRAMES)))
    {t_MOST_HOSTS : _} (g_MOST_HOSTS : PySem.W.nsIn K mainGlobals "MOST_HOSTS" = some (some (.int (40) t_MOST_HOSTS)))
    {t_MOST_LETTERS : _} (g_MOST_LETTERS : PySem.W.nsIn K mainGlobals "MOST_LETTERS" = some (some (.int (8) t_MOST_LETTERS)))
    : ∀ base : Heap, (∃ o, base.get? sysModules = some o) → DfnG P w K mg base "law" ["script"] 11 (sp_lawD K) := by
  intro base hm
  have T : Tx mg := ⟨PySem.W.mg_none_of X G b_abs, PySem.W.mg_none_of X G b_all, PySem.W.mg_none_of X G b_bool, PySem.W.mg_none_of X G b_dict, PySem.W.mg_none_of X G b_enumerate, PySem.W.mg_none_of X G b_int, PySem.W.mg_none_of X G b_isinstance, PySem.W.mg_none_of X G b_len, PySem.W.mg_none_of X G b_list, PySem.W.mg_none_of X G b_max, PySem.W.mg_none_of X G b_min, PySem.W.mg_none_of X G b_range, PySem.W.mg_none_of X G b_set, PySem.W.mg_none_of X G b_sorted, PySem.W.mg_none_of X G b_str, PySem.W.mg_none_of X G b_tuple, PySem.W.mg_none_of X G b_type, ⟨_, PySem.W.mg_of X G g_ALL⟩, ⟨_, PySem.W.mg_of X G g_DIRECT⟩, v_FARTHEST, ⟨_, PySem.W.mg_of X G g_FLOOD⟩, ⟨_, PySem.W.mg_of X G g_MOST_FRAMES⟩, ⟨_, PySem.W.mg_of X G g_MOST_HOSTS⟩, ⟨_, PySem.W.mg_of X G g_MOST_LETTERS⟩⟩
  have N_Network : ClsN K "Network" C_Network := ⟨aC_Network, ⟨pg_Network, hd_Network, po_Network, sa_Network⟩⟩
  have A0 : At K mg "is_integer" s_is_integer ["value"] := At.mk' X G n0 l0 c0 k0 fun _ _ _ _ _ _ us hl => match us, hl with | [_], _ => rfl
  have D_is_integer := ok_is_integer (P := P) (w := w) (K := K) (mg := mg) (base := base) T A0
  have A1 : At K mg "is_name" s_is_name ["value"] := At.mk' X G n1 l1 c1 k1 fun _ _ _ _ _ _ us hl => match us, hl with | [_], _ => rfl
  have D_is_name := ok_is_name (P := P) (w := w) (K := K) (mg := mg) (base := base) T A1
  have A2 : At K mg "is_list" s_is_list ["value"] := At.mk' X G n2 l2 c2 k2 fun _ _ _ _ _ _ us hl => match us, hl with | [_], _ => rfl
  have D_is_list := ok_is_list (P := P) (w := w) (K := K) (mg := mg) (base := base) T A2
  have A3 : At K mg "is_pair" s_is_pair ["value"] := At.mk' X G n3 l3 c3 k3 fun _ _ _ _ _ _ us hl => match us, hl with | [_], _ => rfl
  have D_is_pair := ok_is_pair (P := P) (w := w) (K := K) (mg := mg) (base := base) T A3
  have A4 : At K mg "contains" s_contains ["interval", "position"] := At.mk' X G n4 l4 c4 k4 fun _ _ _ _ _ _ us hl => match us, hl with | [_, _], _ => rfl
  have D_contains := ok_contains (P := P) (w := w) (K := K) (mg := mg) (base := base) T A4
  have A5 : At K mg "joined" s_joined ["interval", "other"] := At.mk' X G n5 l5 c5 k5 fun _ _ _ _ _ _ us hl => match us, hl with | [_, _], _ => rfl
  have D_joined := ok_joined (P := P) (w := w) (K := K) (mg := mg) (base := base) T A5
  have A6 : At K mg "has_hosts_of" s_has_hosts_of ["line", "value"] := At.mk' X G n6 l6 c6 k6 fun _ _ _ _ _ _ us hl => match us, hl with | [_, _], _ => rfl
  have D_has_hosts_of := ok_has_hosts_of (P := P) (w := w) (K := K) (mg := mg) (base := base) T A6
  have A7 : At K mg "is_host" s_is_host ["line", "value"] := At.mk' X G n7 l7 c7 k7 fun _ _ _ _ _ _ us hl => match us, hl with | [_, _], _ => rfl
  have D_is_host := ok_is_host (P := P) (w := w) (K := K) (mg := mg) (base := base) T A7
  have A8 : At K mg "silent_state" s_silent_state ["line"] := At.mk' X G n8 l8 c8 k8 fun _ _ _ _ _ _ us hl => match us, hl with | [_], _ => rfl
  have D_silent_state := ok_silent_state (P := P) (w := w) (K := K) (mg := mg) (base := base) T A8
  have A9 : At K mg "reach_of_kind" s_reach_of_kind ["kind", "start", "end"] := At.mk' X G n9 l9 c9 k9 fun _ _ _ _ _ _ us hl => match us, hl with | [_, _, _], _ => rfl
  have D_reach_of_kind := ok_reach_of_kind (P := P) (w := w) (K := K) (mg := mg) (base := base) T A9
  have A10 : At K mg "inner_plan" s_inner_plan ["state", "to_ends"] := At.mk' X G n10 l10 c10 k10 fun _ _ _ _ _ _ us hl => match us, hl with | [_, _], _ => rfl
  have D_inner_plan := ok_inner_plan (P := P) (w := w) (K := K) (mg := mg) (base := base) T A10
  have A11 : AtP K C_Network "known" "Network.known" s_Network_known ["self"] := ⟨⟨_, _, _, ⟨n11, sp11, tk11, _, rc11⟩, fun_mk (st := s_Network_known) l11 c11 k11, (fun_mk (st := s_Network_known) l11 c11 k11).binds (ps := ["self"]) fun _ _ _ _ _ _ us hl => match us, hl with | [_], _ => rfl⟩⟩
  have D_Network_known := ok_Network_known (P := P) (w := w) (K := K) (mg := mg) (base := base) T N_Network nA_Network__line nA_Network__known nA_Network__sent nA_Network__changes A11
  have A12 : AtM K C_Network "_begin_change" "Network._begin_change" s_Network__begin_change ["self"] := ⟨⟨_, _, ⟨n12, i12, k12⟩, fun_mk (st := s_Network__begin_change) l12 c12 k12, (fun_mk (st := s_Network__begin_change) l12 c12 k12).binds (ps := ["self"]) fun _ _ _ _ _ _ us hl => match us, hl with | [_], _ => rfl⟩⟩
  have D_Network__begin_change := ok_Network__begin_change (P := P) (w := w) (K := K) (mg := mg) (base := base) T N_Network nA_Network__line nA_Network__known nA_Network__sent nA_Network__changes A12
  have A13 : At K mg "_law_spring" s__law_spring ["script"] := At.mk' X G n13 l13 c13 k13 fun _ _ _ _ _ _ us hl => match us, hl with | [_], _ => rfl
  have D__law_spring := ok__law_spring (P := P) (w := w) (K := K) (mg := mg) (base := base) T A13
  have A14 : At K mg "_law_draw" s__law_draw ["spring", "many"] := At.mk' X G n14 l14 c14 k14 fun _ _ _ _ _ _ us hl => match us, hl with | [_, _], _ => rfl
  have D__law_draw := ok__law_draw (P := P) (w := w) (K := K) (mg := mg) (base := base) T A14
  have A15 : At K mg "_law_mirrored" s__law_mirrored ["line", "state"] := At.mk' X G n15 l15 c15 k15 fun _ _ _ _ _ _ us hl => match us, hl with | [_, _], _ => rfl
  have D__law_mirrored := ok__law_mirrored (P := P) (w := w) (K := K) (mg := mg) (base := base) T A15
  have A16 : At K mg "is_position" s_is_position ["value"] := At.mk' X G n16 l16 c16 k16 fun _ _ _ _ _ _ us hl => match us, hl with | [_], _ => rfl
  have D_is_position := ok_is_position (P := P) (w := w) (K := K) (mg := mg) (base := base) T A16 D_is_integer
  have A17 : At K mg "covers" s_covers ["interval", "first", "last"] := At.mk' X G n17 l17 c17 k17 fun _ _ _ _ _ _ us hl => match us, hl with | [_, _, _], _ => rfl
  have D_covers := ok_covers (P := P) (w := w) (K := K) (mg := mg) (base := base) T A17 D_contains
  have A18 : At K mg "is_end" s_is_end ["line", "value"] := At.mk' X G n18 l18 c18 k18 fun _ _ _ _ _ _ us hl => match us, hl with | [_, _], _ => rfl
  have D_is_end := ok_is_end (P := P) (w := w) (K := K) (mg := mg) (base := base) T A18 D_is_integer
  have A19 : At K mg "is_frame" s_is_frame ["line", "value"] := At.mk' X G n19 l19 c19 k19 fun _ _ _ _ _ _ us hl => match us, hl with | [_, _], _ => rfl
  have D_is_frame := ok_is_frame (P := P) (w := w) (K := K) (mg := mg) (base := base) T A19 D_is_host D_is_pair
  have A20 : At K mg "check_hosts" s_check_hosts ["line", "sender", "target"] := At.mk' X G n20 l20 c20 k20 fun _ _ _ _ _ _ us hl => match us, hl with | [_, _, _], _ => rfl
  have D_check_hosts := ok_check_hosts (P := P) (w := w) (K := K) (mg := mg) (base := base) T A20 D_is_host
  have A21 : At K mg "kind_in" s_kind_in ["line", "state", "sender", "target"] := At.mk' X G n21 l21 c21 k21 fun _ _ _ _ _ _ us hl => match us, hl with | [_, _, _, _], _ => rfl
  have D_kind_in := ok_kind_in (P := P) (w := w) (K := K) (mg := mg) (base := base) T A21 D_contains
  have A22 : At K mg "frames_to_ends" s_frames_to_ends ["line", "state", "first", "last", "host"] := At.mk' X G n22 l22 c22 k22 fun _ _ _ _ _ _ us hl => match us, hl with | [_, _, _, _, _], _ => rfl
  have D_frames_to_ends := ok_frames_to_ends (P := P) (w := w) (K := K) (mg := mg) (base := base) T A22 D_contains
  have A23 : At K mg "_law_names" s__law_names ["spring", "many"] := At.mk' X G n23 l23 c23 k23 fun _ _ _ _ _ _ us hl => match us, hl with | [_, _], _ => rfl
  have D__law_names := ok__law_names (P := P) (w := w) (K := K) (mg := mg) (base := base) T A23 D__law_draw
  have A24 : At K mg "_law_frames" s__law_frames ["spring", "line", "many"] := At.mk' X G n24 l24 c24 k24 fun _ _ _ _ _ _ us hl => match us, hl with | [_, _, _], _ => rfl
  have D__law_frames := ok__law_frames (P := P) (w := w) (K := K) (mg := mg) (base := base) T A24 D__law_draw
  have A25 : At K mg "_law_state" s__law_state ["spring", "line"] := At.mk' X G n25 l25 c25 k25 fun _ _ _ _ _ _ us hl => match us, hl with | [_, _], _ => rfl
  have D__law_state := ok__law_state (P := P) (w := w) (K := K) (mg := mg) (base := base) T A25 D__law_draw
  have A26 : At K mg "is_line" s_is_line ["value"] := At.mk' X G n26 l26 c26 k26 fun _ _ _ _ _ _ us hl => match us, hl with | [_], _ => rfl
  have D_is_line := ok_is_line (P := P) (w := w) (K := K) (mg := mg) (base := base) T A26 D_is_name D_is_position
  have A27 : At K mg "is_known_interval" s_is_known_interval ["line", "host", "value"] := At.mk' X G n27 l27 c27 k27 fun _ _ _ _ _ _ us hl => match us, hl with | [_, _, _], _ => rfl
  have D_is_known_interval := ok_is_known_interval (P := P) (w := w) (K := K) (mg := mg) (base := base) T A27 D_is_end D_is_pair
  have A28 : At K mg "send_one" s_send_one ["line", "known", "sender", "target"] := At.mk' X G n28 l28 c28 k28 fun _ _ _ _ _ _ us hl => match us, hl with | [_, _, _, _], _ => rfl
  have D_send_one := ok_send_one (P := P) (w := w) (K := K) (mg := mg) (base := base) T A28 D_joined D_kind_in D_reach_of_kind
  have A29 : At K mg "_law_line" s__law_line ["spring", "many"] := At.mk' X G n29 l29 c29 k29 fun _ _ _ _ _ _ us hl => match us, hl with | [_, _], _ => rfl
  have D__law_line := ok__law_line (P := P) (w := w) (K := K) (mg := mg) (base := base) T A29 D__law_draw D__law_names
  have A30 : At K mg "check_line" s_check_line ["line"] := At.mk' X G n30 l30 c30 k30 fun _ _ _ _ _ _ us hl => match us, hl with | [_], _ => rfl
  have D_check_line := ok_check_line (P := P) (w := w) (K := K) (mg := mg) (base := base) T A30 D_is_line
  have A31 : At K mg "send_each" s_send_each ["line", "known", "frames"] := At.mk' X G n31 l31 c31 k31 fun _ _ _ _ _ _ us hl => match us, hl with | [_, _, _], _ => rfl
  have D_send_each := ok_send_each (P := P) (w := w) (K := K) (mg := mg) (base := base) T A31 D_send_one
  have A32 : AtM K C_Network "_pass_on" "Network._pass_on" s_Network__pass_on ["self", "sender", "target"] := ⟨⟨_, _, ⟨n32, i32, k32⟩, fun_mk (st := s_Network__pass_on) l32 c32 k32, (fun_mk (st := s_Network__pass_on) l32 c32 k32).binds (ps := ["self", "sender", "target"]) fun _ _ _ _ _ _ us hl => match us, hl with | [_, _, _], _ => rfl⟩⟩
  have D_Network__pass_on := ok_Network__pass_on (P := P) (w := w) (K := K) (mg := mg) (base := base) T N_Network nA_Network__line nA_Network__known nA_Network__sent nA_Network__changes A32 D_Network_known D_send_one
  have A33 : At K mg "is_state" s_is_state ["line", "value"] := At.mk' X G n33 l33 c33 k33 fun _ _ _ _ _ _ us hl => match us, hl with | [_, _], _ => rfl
  have D_is_state := ok_is_state (P := P) (w := w) (K := K) (mg := mg) (base := base) T A33 D_check_line D_has_hosts_of D_is_known_interval
  have A34 : At K mg "is_frames" s_is_frames ["line", "value"] := At.mk' X G n34 l34 c34 k34 fun _ _ _ _ _ _ us hl => match us, hl with | [_, _], _ => rfl
  have D_is_frames := ok_is_frames (P := P) (w := w) (K := K) (mg := mg) (base := base) T A34 D_check_line D_is_frame D_is_list
  have A35 : At K mg "in_order" s_in_order ["line"] := At.mk' X G n35 l35 c35 k35 fun _ _ _ _ _ _ us hl => match us, hl with | [_], _ => rfl
  have D_in_order := ok_in_order (P := P) (w := w) (K := K) (mg := mg) (base := base) T A35 D_check_line
  have A36 : AtI K mg "Network" C_Network "__init__" "Network.__init__" s_Network___init__ ["self", "line"] := ⟨⟨_, _, ⟨mk_Network, n36, i36, kc_Network⟩, PySem.W.mg_of X G aC_Network, fun_mk (st := s_Network___init__) l36 c36 k36, (fun_mk (st := s_Network___init__) l36 c36 k36).binds (ps := ["self", "line"]) fun _ _ _ _ _ _ us hl => match us, hl with | [_, _], _ => rfl⟩⟩
  have D_Network___init__ := ok_Network___init__ (P := P) (w := w) (K := K) (mg := mg) (base := base) T N_Network nA_Network__line nA_Network__known nA_Network__sent nA_Network__changes A36 D_check_line D_silent_state
  have A37 : AtM K C_Network "send" "Network.send" s_Network_send ["self", "sender", "target"] := ⟨⟨_, _, ⟨n37, i37, k37⟩, fun_mk (st := s_Network_send) l37 c37 k37, (fun_mk (st := s_Network_send) l37 c37 k37).binds (ps := ["self", "sender", "target"]) fun _ _ _ _ _ _ us hl => match us, hl with | [_, _, _], _ => rfl⟩⟩
  have D_Network_send := ok_Network_send (P := P) (w := w) (K := K) (mg := mg) (base := base) T N_Network nA_Network__line nA_Network__known nA_Network__sent nA_Network__changes A37 D_Network__begin_change D_Network__pass_on D_check_hosts
  have A38 : At K mg "check_state" s_check_state ["line", "state"] := At.mk' X G n38 l38 c38 k38 fun _ _ _ _ _ _ us hl => match us, hl with | [_, _], _ => rfl
  have D_check_state := ok_check_state (P := P) (w := w) (K := K) (mg := mg) (base := base) T A38 D_is_state
  have A39 : At K mg "check_frames" s_check_frames ["line", "frames"] := At.mk' X G n39 l39 c39 k39 fun _ _ _ _ _ _ us hl => match us, hl with | [_, _], _ => rfl
  have D_check_frames := ok_check_frames (P := P) (w := w) (K := K) (mg := mg) (base := base) T A39 D_is_frames
  have A40 : At K mg "lacking" s_lacking ["line", "state"] := At.mk' X G n40 l40 c40 k40 fun _ _ _ _ _ _ us hl => match us, hl with | [_, _], _ => rfl
  have D_lacking := ok_lacking (P := P) (w := w) (K := K) (mg := mg) (base := base) T A40 D_check_state D_covers D_in_order
  have A41 : At K mg "starting_state" s_starting_state ["line", "start"] := At.mk' X G n41 l41 c41 k41 fun _ _ _ _ _ _ us hl => match us, hl with | [_, _], _ => rfl
  have D_starting_state := ok_starting_state (P := P) (w := w) (K := K) (mg := mg) (base := base) T A41 D_check_state D_silent_state
  have A42 : At K mg "is_quiet" s_is_quiet ["line", "state"] := At.mk' X G n42 l42 c42 k42 fun _ _ _ _ _ _ us hl => match us, hl with | [_, _], _ => rfl
  have D_is_quiet := ok_is_quiet (P := P) (w := w) (K := K) (mg := mg) (base := base) T A42 D_lacking
  have A43 : AtK K mg "kinds_of" s_kinds_of ["line", "frames", "start"] 2 ["start"] [.non] := AtK.mk1 X G n43 l43 c43 k43 s43 rfl (fun _ _ _ _ _ us ks h1 h2 => match us, ks, h1, h2 with | [_, _], [_], _, _ => ⟨_, _, _, _, _, _, rfl, rfl, rfl⟩) (fun _ _ _ _ _ us ks h1 h2 => match us, ks, h1, h2 with | [_, _], [_], _, _ => rfl)
  have D_kinds_of := ok_kinds_of (P := P) (w := w) (K := K) (mg := mg) (base := base) T A43 D_check_frames D_send_each D_starting_state
  have A44 : AtK K mg "known_after" s_known_after ["line", "frames", "start"] 2 ["start"] [.non] := AtK.mk1 X G n44 l44 c44 k44 s44 rfl (fun _ _ _ _ _ us ks h1 h2 => match us, ks, h1, h2 with | [_, _], [_], _, _ => ⟨_, _, _, _, _, _, rfl, rfl, rfl⟩) (fun _ _ _ _ _ us ks h1 h2 => match us, ks, h1, h2 with | [_, _], [_], _, _ => rfl)
  have D_known_after := ok_known_after (P := P) (w := w) (K := K) (mg := mg) (base := base) T A44 D_check_frames D_send_each D_starting_state
  have A45 : At K mg "quiet_plan" s_quiet_plan ["line", "state"] := At.mk' X G n45 l45 c45 k45 fun _ _ _ _ _ _ us hl => match us, hl with | [_, _], _ => rfl
  have D_quiet_plan := ok_quiet_plan (P := P) (w := w) (K := K) (mg := mg) (base := base) T A45 D_frames_to_ends D_in_order D_inner_plan D_lacking
  have A46 : At K mg "fewest_frames" s_fewest_frames ["line", "state"] := At.mk' X G n46 l46 c46 k46 fun _ _ _ _ _ _ us hl => match us, hl with | [_, _], _ => rfl
  have D_fewest_frames := ok_fewest_frames (P := P) (w := w) (K := K) (mg := mg) (base := base) T A46 D_quiet_plan
  have A47 : At K mg "_law_network_right" s__law_network_right ["spring", "line", "frames"] := At.mk' X G n47 l47 c47 k47 fun _ _ _ _ _ _ us hl => match us, hl with | [_, _, _], _ => rfl
  have D__law_network_right := ok__law_network_right (P := P) (w := w) (K := K) (mg := mg) (base := base) T N_Network nA_Network__line nA_Network__known nA_Network__sent nA_Network__changes A47 D_Network___init__ D_Network_known D_Network_send D__law_frames D_is_quiet D_known_after D_quiet_plan
  have A48 : At K mg "_law_plan_right" s__law_plan_right ["spring", "line", "state"] := At.mk' X G n48 l48 c48 k48 fun _ _ _ _ _ _ us hl => match us, hl with | [_, _, _], _ => rfl
  have D__law_plan_right := ok__law_plan_right (P := P) (w := w) (K := K) (mg := mg) (base := base) T A48 D__law_frames D__law_mirrored D_fewest_frames D_is_quiet D_kinds_of D_known_after D_lacking D_quiet_plan
  have A49 : At K mg "law" s_law ["script"] := At.mk' X G n49 l49 c49 k49 fun _ _ _ _ _ _ us hl => match us, hl with | [_], _ => rfl
  have D_law := ok_law (P := P) (w := w) (K := K) (mg := mg) (base := base) T hm A49 D__law_draw D__law_frames D__law_line D__law_network_right D__law_plan_right D__law_spring D__law_state D_known_after
  obtain ⟨f, fd, a1, a2, a3, F⟩ := D_law.ex
  exact ⟨f, fd, a1, a2, a3, ⟨fun vs H Q E hs => F.len vs H Q E (law_sp law_true hs), fun A outer s H args us vs Q E r1 r2 r3 r4 r5 hs => F.run A outer s H args us vs Q E r1 r2 r3 r4 r5 (law_sp law_true hs)⟩⟩
end FD.k55
open PySem PySem.W PyProof.Rows
theorem PySem.Challenge.cw_floodline_k55_whole_quiet_networks_holds : PySem.Challenge.rw_floodline_k55_whole_quiet_networks.Holds := by
  w_on; o_law; k_head; (case hw => w_witness2)
  k_fill
  refine FL.law_end (l := PySem.Challenge.rw_floodline_k55_whole_quiet_networks) (n := 63) (k := 11) (x := "script") (sp := fun K => FD.sp_lawD K) rfl (by decide) rfl ⟨rfl, by decide, by decide⟩ (fun w h Y => PySem.W.kIn_of Y) (by decide +kernel) ?F ?c
  case c => exact fun K H a ns hl hS => ⟨a, ns, rfl, hS, hl, fun _ => rfl⟩
  case F =>
    intro w mg h KX G V
    have v_FARTHEST : ∃ t, mg "FARTHEST" = some (.int (1000000000000000000000000000000) t) := by
      obtain ⟨v, e, r⟩ := V.2.val ("FARTHEST", WData.int (1000000000000000000000000000000)) (by simp)
      obtain ⟨t, q, -⟩ := readsW_int_inv r
      rw [q] at e
      exact ⟨t, e⟩
    refine' FD.k55.all_at KX G v_FARTHEST ?aC_Network ?pg_Network ?hd_Network ?po_Network ?sa_Network ?mk_Network ?kc_Network ?nA_Network__line ?nA_Network__known ?nA_Network__sent ?nA_Network__changes ?n0 ?l0 ?c0 ?k0 ?n1 ?l1 ?c1 ?k1 ?n2 ?l2 ?c2 ?k2 ?n3 ?l3 ?c3 ?k3 ?n4 ?l4 ?c4 ?k4 ?n5 ?l5 ?c5 ?k5 ?n6 ?l6 ?c6 ?k6 ?n7 ?l7 ?c7 ?k7 ?n8 ?l8 ?c8 ?k8 ?n9 ?l9 ?c9 ?k9 ?n10 ?l10 ?c10 ?k10 ?n11 ?sp11 ?tk11 ?rc11 ?l11 ?c11 ?k11 ?n12 ?i12 ?l12 ?c12 ?k12 ?n13 ?l13 ?c13 ?k13 ?n14 ?l14 ?c14 ?k14 ?n15 ?l15 ?c15 ?k15 ?n16 ?l16 ?c16 ?k16 ?n17 ?l17 ?c17 ?k17 ?n18 ?l18 ?c18 ?k18 ?n19 ?l19 ?c19 ?k19 ?n20 ?l20 ?c20 ?k20 ?n21 ?l21 ?c21 ?k21 ?n22 ?l22 ?c22 ?k22 ?n23 ?l23 ?c23 ?k23 ?n24 ?l24 ?c24 ?k24 ?n25 ?l25 ?c25 ?k25 ?n26 ?l26 ?c26 ?k26 ?n27 ?l27 ?c27 ?k27 ?n28 ?l28 ?c28 ?k28 ?n29 ?l29 ?c29 ?k29 ?n30 ?l30 ?c30 ?k30 ?n31 ?l31 ?c31 ?k31 ?n32 ?i32 ?l32 ?c32 ?k32 ?n33 ?l33 ?c33 ?k33 ?n34 ?l34 ?c34 ?k34 ?n35 ?l35 ?c35 ?k35 ?n36 ?i36 ?l36 ?c36 ?k36 ?n37 ?i37 ?l37 ?c37 ?k37 ?n38 ?l38 ?c38 ?k38 ?n39 ?l39 ?c39 ?k39 ?n40 ?l40 ?c40 ?k40 ?n41 ?l41 ?c41 ?k41 ?n42 ?l42 ?c42 ?k42 ?n43 ?l43 ?c43 ?k43 ?s43 ?n44 ?l44 ?c44 ?k44 ?s44 ?n45 ?l45 ?c45 ?k45 ?n46 ?l46 ?c46 ?k46 ?n47 ?l47 ?c47 ?k47 ?n48 ?l48 ?c48 ?k48 ?n49 ?l49 ?c49 ?k49 ?b_abs ?b_all ?b_bool ?b_dict ?b_enumerate ?b_int ?b_isinstance ?b_len ?b_list ?b_max ?b_min ?b_range ?b_set ?b_sorted ?b_str ?b_tuple ?b_type ?g_ALL ?g_DIRECT ?g_FLOOD ?g_MOST_FRAMES ?g_MOST_HOSTS ?g_MOST_LETTERS
    (case aC_Network => k_is)
    (case pg_Network => k_is)
    (case hd_Network => k_is)
    (case po_Network => k_is)
    (case sa_Network => k_is)
    (case mk_Network => k_is)
    (case kc_Network => k_is)
    (case nA_Network__line => k_is)
    (case nA_Network__known => k_is)
    (case nA_Network__sent => k_is)
    (case nA_Network__changes => k_is)
    (case n0 => k_is)
    (case l0 => k_is)
    (case c0 => k_is)
    (case k0 => k_is)
    (case n1 => k_is)
    (case l1 => k_is)
    (case c1 => k_is)
    (case k1 => k_is)
    (case n2 => k_is)
    (case l2 => k_is)
    (case c2 => k_is)
    (case k2 => k_is)
    (case n3 => k_is)
    (case l3 => k_is)
    (case c3 => k_is)
    (case k3 => k_is)
    (case n4 => k_is)
    (case l4 => k_is)
    (case c4 => k_is)
    (case k4 => k_is)
    (case n5 => k_is)
    (case l5 => k_is)
    (case c5 => k_is)
    (case k5 => k_is)
    (case n6 => k_is)
    (case l6 => k_is)
    (case c6 => k_is)
    (case k6 => k_is)
    (case n7 => k_is)
    (case l7 => k_is)
    (case c7 => k_is)
    (case k7 => k_is)
    (case n8 => k_is)
    (case l8 => k_is)
    (case c8 => k_is)
    (case k8 => k_is)
    (case n9 => k_is)
    (case l9 => k_is)
    (case c9 => k_is)
    (case k9 => k_is)
    (case n10 => k_is)
    (case l10 => k_is)
    (case c10 => k_is)
    (case k10 => k_is)
    (case n11 => k_is)
    (case sp11 => k_is)
    (case tk11 => k_is)
    (case rc11 => k_is)
    (case l11 => k_is)
    (case c11 => k_is)
    (case k11 => k_is)
    (case n12 => k_is)
    (case i12 => k_is)
    (case l12 => k_is)
    (case c12 => k_is)
    (case k12 => k_is)
    (case n13 => k_is)
    (case l13 => k_is)
    (case c13 => k_is)
    (case k13 => k_is)
    (case n14 => k_is)
    (case l14 => k_is)
    (case c14 => k_is)
    (case k14 => k_is)
    (case n15 => k_is)
    (case l15 => k_is)
    (case c15 => k_is)
    (case k15 => k_is)
    (case n16 => k_is)
    (case l16 => k_is)
    (case c16 => k_is)
    (case k16 => k_is)
    (case n17 => k_is)
    (case l17 => k_is)
    (case c17 => k_is)
    (case k17 => k_is)
    (case n18 => k_is)
    (case l18 => k_is)
    (case c18 => k_is)
    (case k18 => k_is)
    (case n19 => k_is)
    (case l19 => k_is)
    (case c19 => k_is)
    (case k19 => k_is)
    (case n20 => k_is)
    (case l20 => k_is)
    (case c20 => k_is)
    (case k20 => k_is)
    (case n21 => k_is)
    (case l21 => k_is)
    (case c21 => k_is)
    (case k21 => k_is)
    (case n22 => k_is)
    (case l22 => k_is)
    (case c22 => k_is)
    (case k22 => k_is)
    (case n23 => k_is)
    (case l23 => k_is)
    (case c23 => k_is)
    (case k23 => k_is)
    (case n24 => k_is)
    (case l24 => k_is)
    (case c24 => k_is)
    (case k24 => k_is)
    (case n25 => k_is)
    (case l25 => k_is)
    (case c25 => k_is)
    (case k25 => k_is)
    (case n26 => k_is)
    (case l26 => k_is)
    (case c26 => k_is)
    (case k26 => k_is)
    (case n27 => k_is)
    (case l27 => k_is)
    (case c27 => k_is)
    (case k27 => k_is)
    (case n28 => k_is)
    (case l28 => k_is)
    (case c28 => k_is)
    (case k28 => k_is)
    (case n29 => k_is)
    (case l29 => k_is)
    (case c29 => k_is)
    (case k29 => k_is)
    (case n30 => k_is)
    (case l30 => k_is)
    (case c30 => k_is)
    (case k30 => k_is)
    (case n31 => k_is)
    (case l31 => k_is)
    (case c31 => k_is)
    (case k31 => k_is)
    (case n32 => k_is)
    (case i32 => k_is)
    (case l32 => k_is)
    (case c32 => k_is)
    (case k32 => k_is)
    (case n33 => k_is)
    (case l33 => k_is)
    (case c33 => k_is)
    (case k33 => k_is)
    (case n34 => k_is)
    (case l34 => k_is)
    (case c34 => k_is)
    (case k34 => k_is)
    (case n35 => k_is)
    (case l35 => k_is)
    (case c35 => k_is)
    (case k35 => k_is)
    (case n36 => k_is)
    (case i36 => k_is)
    (case l36 => k_is)
    (case c36 => k_is)
    (case k36 => k_is)
    (case n37 => k_is)
    (case i37 => k_is)
    (case l37 => k_is)
    (case c37 => k_is)
    (case k37 => k_is)
    (case n38 => k_is)
    (case l38 => k_is)
    (case c38 => k_is)
    (case k38 => k_is)
    (case n39 => k_is)
    (case l39 => k_is)
    (case c39 => k_is)
    (case k39 => k_is)
    (case n40 => k_is)
    (case l40 => k_is)
    (case c40 => k_is)
    (case k40 => k_is)
    (case n41 => k_is)
    (case l41 => k_is)
    (case c41 => k_is)
    (case k41 => k_is)
    (case n42 => k_is)
    (case l42 => k_is)
    (case c42 => k_is)
    (case k42 => k_is)
    (case n43 => k_is)
    (case l43 => k_is)
    (case c43 => k_is)
    (case k43 => k_is)
    (case s43 => k_is)
    (case n44 => k_is)
    (case l44 => k_is)
    (case c44 => k_is)
    (case k44 => k_is)
    (case s44 => k_is)
    (case n45 => k_is)
    (case l45 => k_is)
    (case c45 => k_is)
    (case k45 => k_is)
    (case n46 => k_is)
    (case l46 => k_is)
    (case c46 => k_is)
    (case k46 => k_is)
    (case n47 => k_is)
    (case l47 => k_is)
    (case c47 => k_is)
    (case k47 => k_is)
    (case n48 => k_is)
    (case l48 => k_is)
    (case c48 => k_is)
    (case k48 => k_is)
    (case n49 => k_is)
    (case l49 => k_is)
    (case c49 => k_is)
    (case k49 => k_is)
    (case b_abs => k_is)
    (case b_all => k_is)
    (case b_bool => k_is)
    (case b_dict => k_is)
    (case b_enumerate => k_is)
    (case b_int => k_is)
    (case b_isinstance => k_is)
    (case b_len => k_is)
    (case b_list => k_is)
    (case b_max => k_is)
    (case b_min => k_is)
    (case b_range => k_is)
    (case b_set => k_is)
    (case b_sorted => k_is)
    (case b_str => k_is)
    (case b_tuple => k_is)
    (case b_type => k_is)
    (case g_ALL => k_is)
    (case g_DIRECT => k_is)
    (case g_FLOOD => k_is)
    (case g_MOST_FRAMES => k_is)
    (case g_MOST_HOSTS => k_is)
    (case g_MOST_LETTERS => k_is)
#print axioms PySem.Challenge.cw_floodline_k55_whole_quiet_networks_holds
