import PyProof.Rows.All
import Wide.All
import OpenK.AllK
import Wide.FinOn
import HandS.ForMost
import HandS.IsInst
import HandS.More
import HandS.Style
import HandS.Zip
import HandS.Wide
import HandS.ListItems
import PyProof.ReprRoads
import PyProof.TypeEq
import HandS.Evl
import PyProof.ReprLen
import PyProof.Rows.StrJoinMade
import HandS.Ends
import HandS.SortRule
import PyProof.CallFns
import PySem.Challenge.RW_floodline_k03_frames_judged
set_option Elab.async false
set_option linter.all false
set_option maxRecDepth 100000
set_option maxHeartbeats 8000000
/-! Rules that the laws of this program want besides the layer's own. -/
namespace FL
open PySem PySem.Spec PyProof.Rows L2

/-! ### two classes of the language compared by == -/
def IsTy (n : String) : Prop := ∀ s : Shared, s.TypeIs (.type n) "type"
def rEqTy : R2 := fun x y H Q => ∃ a b, x = .ty a ∧ y = .ty b ∧ IsTy a ∧ IsTy b ∧ Q (.bl (decide (a = b))) H
section
variable {X : Cx}
theorem op_eqTy : OpR X (compareOp .Eq) rEqTy := by
  intro pins s σ H x y v u Q I rx ry h
  obtain ⟨a, b, rfl, rfl, ha, hb, q⟩ := h
  cases rx
  cases ry
  by_cases e : a = b
  · subst e
    exact TypeEq.eq_type_same ha ⟨.bl _, H, I, (by show Value.bool true = Value.bool _; rw [decide_eq_true rfl]), q⟩
  · refine TypeEq.eq_type_other ha hb ?_ ⟨.bl _, H, I, (by show Value.bool false = Value.bool _; rw [decide_eq_false e]), q⟩
    rw [Bool.eq_false_iff]
    intro z
    rw [beq_iff_eq] at z
    injection z with z
    exact e z

/-! ### list of a text -/
def signV (x : Str) : List V := x.cps.toList.map fun c => V.str ⟨#[c]⟩
def rListStr : List V → Hp → VK → Prop := fun xs H Q => ∃ x : Str, xs = [.str x] ∧ x.length ≤ sizeLine ∧ ∀ p, H p = none → Q (.ref p) (upd H p (.lst (signV x)))
theorem vals_at : ∀ {xs : List V} {us : List Value}, us.length = xs.length → (∀ (j : Nat) (u : Value), us[j]? = some u → ∃ x, xs[j]? = some x ∧ L2.RelV x u) → Vals xs us
  | [], [], _, _ => .nil
  | [], _ :: _, h, _ => by cases h
  | _ :: _, [], h, _ => by cases h
  | x :: xs, u :: us, h, hr => by
    refine .cons ?_ (vals_at (xs := xs) (us := us) (by simpa using h) fun j v e => by simpa using hr (j + 1) v (by simpa using e))
    obtain ⟨y, e, r⟩ := hr 0 u rfl
    cases e
    exact r
theorem call_listStr (hcalm : X.calm = true) : CallR X (.type "list") rListStr := by
  intro pins s σ H xs us Q I r q
  obtain ⟨x, ex, hz, q⟩ := q
  subst ex
  obtain ⟨u, eu, rx⟩ := vals1 r
  subst eu
  obtain ⟨t, rfl⟩ := rx
  refine call_list_str (I.ok.hd hcalm) x t (hn := hz) fun h' tk acc c' hk hD hacc => ?_
  have hv : Vals (signV x) acc.toList := vals_at (by rw [Array.length_toList, hacc.1]; simp [signV]) fun j v e => by
    obtain ⟨c, u, hc, rfl⟩ := hacc.2 j v (by rw [← Array.getElem?_toList]; exact e)
    exact ⟨.str ⟨#[c]⟩, by simp [signV, hc], _, rfl⟩
  refine ⟨.ref s.heap.objs.size, upd H s.heap.objs.size (.lst (signV x)), I.laid (t' := tk) hk (Nat.le_refl _)
    (show ObjOk X.prog X.w _ _ _ (.lst (signV x)) from ⟨by simp [signV]; exact hz, acc.toList, c', hv, by rw [Array.toArray_toList]; exact hD⟩), rfl, q _ (I.hok.fresh (Nat.le_refl _))⟩
end

/-! ### list(e.values()) -/
def rValsL : V → Hp → VK → Prop := fun x H Q => ∃ (d : Addr) (kvs : List (Key × V)), x = .ref d ∧ Rd H d (.dK kvs) ∧ ∀ p, H p = none → Q (.ref p) (upd H p (.lst (kvs.map (·.2))))
def tListValues (te : TE) : TE := fun σ H Q => te σ H fun x H1 => rValsL x H1 Q
theorem kv_snd : ∀ {kvs : List (Key × V)} {vs : List (Key × Value)}, KV kvs vs → Vals (kvs.map (·.2)) (vs.map (·.2))
  | [], [], _ => .nil
  | p :: kvs, q :: vs, .cons r t => .cons r.2 (kv_snd t)
section
variable {X : Cx} {e : Expr} {te : TE} {p apos cpos pos : Pos}
theorem pe_listValues (hcalm : X.calm = true) (he : PE X e te) (hg : Gl X "list") (hm : X.mg "list" = none) (hv : bootBuiltins "list" = some (.type "list"))
    (hbase : attributeBase e "values" X.env (eval e X.env) = eval e X.env := by rfl) (hline : (apos.endLine == cpos.line) = true := by rfl)
    (hs : starEach [.Call (.Attribute e "values" apos) [] [] cpos] X.env = (false, eval (.Call (.Attribute e "values" apos) [] [] cpos) X.env) :: starEach [] X.env := by rfl) :
    PE X (.Call (.Name "list" p) [.Call (.Attribute e "values" apos) [] [] cpos] [] pos) (tListValues te) := by
  refine ⟨fun pins s σ H Q I hq => wpAny_Call_Name_kw (ld_blt I hg hm hv (PyProof.Rows.callWith_type1 ?_ hs rfl))⟩
  rw [hs]
  show wpAny (model X.prog X.w) X.A (spliced ((false, eval (Expr.Call (Expr.Attribute e "values" apos) [] [] cpos) X.env) :: backTo pos (starEach [] X.env))) _ X.xe s
  refine Calls.spliced_cons (wpAny_Call_method (args := []) (T := "dict") (id := "dict.values") hbase rfl hline F.plainAttrs_dict F.slot_dict_values F.type_dict_values
    (thn (he.run pins s σ H _ I hq) fun u s1 ⟨x, H1, I1, rx, d, kvs, ex, hd, q⟩ => ?_))
  subst ex
  obtain rfl : u = Value.ref d := rx
  obtain ⟨hz, hs0, vs, kv, hdo⟩ : ObjOk X.prog X.w H1 s1.heap d (.dK kvs) := hd.elim (I1.hok d _) fun ⟨_, hq⟩ => (I1.hok d _ hq).2
  obtain ⟨ep, hat⟩ := hdo.dictAt
  have I2 : Inv X pins σ H1 { s1 with heap := s1.heap.push { cls := .type "dict_values", data := .fields #[.ref d] } } := I1.kept (t' := s1.toks) fun b ob w => Heap.get?_push_of_some _ w
  have lk : kvs.length = vs.length := Paired.length kv
  refine ⟨hdo.typeIs, hdo.mapOf.noDict, ?_⟩
  show wpAny (model X.prog X.w) X.A (callWith cpos (Value.builtin "dict.values") [Value.ref d] [] []) _ X.xe s1
  refine method_meetsIn F.slot_dict_values F.entry_dict_values rfl (PySem.evalArgs_none ⟨rfl, hdo.typeIs, F.args_dict_values_1 _, _, meets_dict_values (mixKind X.prog X.w) d hs0, ⟨vs, hdo⟩, Calls.spliced_nil ?_⟩)
  refine PySem.W.kdl_call (PySem.W.kdl_values (knd := mixKind X.prog X.w) (kvs := vs) (ep := ep)) (I1.ok.hd hcalm) ⟨⟨_, Heap.get?_push_size _ rfl, rfl, rfl⟩, hat.push _⟩ (by omega) fun h' tk acc c' hk hD hacc => ?_
  have ev : acc.toList = vs.map (·.2) := PySem.W.kdl_vals_eq acc.toList (by rw [Array.length_toList]; exact hacc.1) fun j v e => hacc.2 j v (by rw [← Array.getElem?_toList]; exact e)
  have hvv : Vals (kvs.map (·.2)) acc.toList := by rw [ev]; exact kv_snd kv
  refine ⟨.ref _, upd H1 _ (.lst (kvs.map (·.2))), I2.laid (t' := tk) hk (Nat.le_refl _) ?_, rfl, q _ (I2.hok.fresh (Nat.le_refl _))⟩
  exact ⟨by rw [List.length_map]; exact hz, acc.toList, c', hvv, by rw [Array.toArray_toList]; exact hD⟩
end
end FL
namespace FL
open PySem PySem.Spec PyProof.Rows L2

/-! ### nested data that stands in the abstract heap: none, bools, ints, texts, lists, tuples, dicts with int and text keys -/
def kD : Key → PyData
  | .inl i => .int i
  | .inr x => .str x
mutual
inductive Dt (H : Hp) : V → PyData → Prop
  | non : Dt H .non .none
  | bl (b : Bool) : Dt H (.bl b) (.bool b)
  | int (i : Int) : Dt H (.int i) (.int i)
  | str (x : Str) : Dt H (.str x) (.str x)
  | lst {a : Addr} {xs : List V} {ds : List PyData} (h : H a = some (.lst xs)) (hs : DtAll H xs ds) : Dt H (.ref a) (.list ds)
  | tup {a : Addr} {xs : List V} {ds : List PyData} (h : H a = some (.tup xs)) (hs : DtAll H xs ds) : Dt H (.ref a) (.tuple ds)
  | dct {a : Addr} {kvs : List (Key × V)} {ds : List (PyData × PyData)} (h : H a = some (.dK kvs)) (hs : DtKv H kvs ds) : Dt H (.ref a) (.dict ds)
inductive DtAll (H : Hp) : List V → List PyData → Prop
  | nil : DtAll H [] []
  | cons {v : V} {vs : List V} {d : PyData} {ds : List PyData} (h : Dt H v d) (t : DtAll H vs ds) : DtAll H (v :: vs) (d :: ds)
inductive DtKv (H : Hp) : List (Key × V) → List (PyData × PyData) → Prop
  | nil : DtKv H [] []
  | cons {k : Key} {v : V} {kvs : List (Key × V)} {d : PyData} {ds : List (PyData × PyData)} (h : Dt H v d) (t : DtKv H kvs ds) : DtKv H ((k, v) :: kvs) ((kD k, d) :: ds)
end
mutual
theorem Dt.mono {H H' : Hp} (e : Same H H') : ∀ {d : PyData} {v : V}, Dt H v d → Dt H' v d
  | .none, _, h => by cases h; exact .non
  | .bool b, _, h => by cases h; exact .bl b
  | .int i, _, h => by cases h; exact .int i
  | .str x, _, h => by cases h; exact .str x
  | .list ds, _, h => by
    cases h with
    | lst h hs => exact .lst (e _ _ h) (DtAll.mono e hs)
  | .tuple ds, _, h => by
    cases h with
    | tup h hs => exact .tup (e _ _ h) (DtAll.mono e hs)
  | .dict ds, _, h => by
    cases h with
    | dct h hs => exact .dct (e _ _ h) (DtKv.mono e hs)
theorem DtAll.mono {H H' : Hp} (e : Same H H') : ∀ {ds : List PyData} {vs : List V}, DtAll H vs ds → DtAll H' vs ds
  | [], _, h => by cases h; exact .nil
  | d :: ds, _, h => by
    cases h with
    | cons h t => exact .cons (Dt.mono e h) (DtAll.mono e t)
theorem DtKv.mono {H H' : Hp} (e : Same H H') : ∀ {ds : List (PyData × PyData)} {kvs : List (Key × V)}, DtKv H kvs ds → DtKv H' kvs ds
  | [], _, h => by cases h; exact .nil
  | (k, d) :: ds, _, h => by
    cases h with
    | cons h t => exact .cons (Dt.mono e h) (DtKv.mono e t)
end

section
variable {X : Cx} {pins : List (Addr × Obj)} {σ : L2.St} {H : Hp} {s : Shared}
mutual
theorem Dt.reads (I : L2.Inv X pins σ H s) : ∀ (d : PyData) (v : V) (u : Value), Dt H v d → L2.RelV v u → ∃ as, Reads s.heap u d as ∧ ∀ a ∈ as, (H a).isSome = true
  | .none, _, _, h, r => by
    cases h; cases r
    exact ⟨[], .none, fun _ z => nomatch z⟩
  | .bool b, _, _, h, r => by
    cases h; cases r
    exact ⟨[], .bool b, fun _ z => nomatch z⟩
  | .int i, _, _, h, r => by
    cases h; obtain ⟨t, rfl⟩ := r
    exact ⟨[], .int i t, fun _ z => nomatch z⟩
  | .str x, _, _, h, r => by
    cases h; obtain ⟨t, rfl⟩ := r
    exact ⟨[], .str x t, fun _ z => nomatch z⟩
  | .list ds, _, _, h, r => by
    cases h with
    | @lst a xs _ h hs =>
      cases r
      obtain ⟨its, rv, ⟨o, n, ho, hc, _, hd⟩, _⟩ := I.list (SqL.of h)
      obtain ⟨as, hr, hm⟩ := Dt.readsAll I ds _ its hs rv
      refine ⟨_, .list ho hc hd hr, fun b hb => ?_⟩
      rcases List.mem_cons.mp hb with e | hb
      · rw [e, h]; rfl
      · exact hm b hb
  | .tuple ds, _, _, h, r => by
    cases h with
    | @tup a xs _ h hs =>
      cases r
      obtain ⟨its, rv, ⟨o, ho, hc, n, hd⟩, _⟩ := I.tuple (SqT.of h)
      obtain ⟨as, hr, hm⟩ := Dt.readsAll I ds _ its hs rv
      exact ⟨_, .tuple ho hc hd hr, hm⟩
  | .dict ds, _, _, h, r => by
    cases h with
    | @dct a kvs _ h hs =>
      cases r
      obtain ⟨_, _, vs, kv, o, es, ep, ho, hx, hd, _, hp, _⟩ := I.hok a _ h
      obtain ⟨as, bs, h1, h2, m1, m2⟩ := Dt.readsKv I ds kvs vs es.toList hs kv hp
      refine ⟨_, .dict ho hx.1 hd h1 h2, fun b hb => ?_⟩
      rcases List.mem_append.mp hb with hb | hb
      · rcases List.mem_cons.mp hb with e | hb
        · rw [e, h]; rfl
        · exact m1 b hb
      · exact m2 b hb
theorem Dt.readsAll (I : L2.Inv X pins σ H s) : ∀ (ds : List PyData) (vs : List V) (us : List Value), DtAll H vs ds → Vals vs us → ∃ as, ReadsAll s.heap us ds as ∧ ∀ a ∈ as, (H a).isSome = true
  | [], _, _, h, r => by
    cases h; cases r
    exact ⟨[], .nil, fun _ z => nomatch z⟩
  | d :: ds, _, _, h, r => by
    cases h with
    | cons h t =>
      cases r with
      | cons r1 r2 =>
        obtain ⟨as, q1, m1⟩ := Dt.reads I d _ _ h r1
        obtain ⟨bs, q2, m2⟩ := Dt.readsAll I ds _ _ t r2
        exact ⟨_, .cons q1 q2, fun b hb => (List.mem_append.mp hb).elim (m1 b) (m2 b)⟩
theorem Dt.readsKv (I : L2.Inv X pins σ H s) : ∀ (ds : List (PyData × PyData)) (kvs : List (Key × V)) (vs : List (Key × Value)) (es : List DictEntry), DtKv H kvs ds → KV kvs vs → Pairs (mixKind X.prog X.w) es vs →
    ∃ as bs, ReadsAll s.heap (es.map (·.key)) (ds.map (·.1)) as ∧ ReadsAll s.heap (es.map (·.val)) (ds.map (·.2)) bs ∧ (∀ a ∈ as, (H a).isSome = true) ∧ ∀ a ∈ bs, (H a).isSome = true
  | [], _, _, _, h, r, p => by
    cases h; cases r; cases p
    exact ⟨[], [], .nil, .nil, by simp, by simp⟩
  | (_, d) :: ds, _, _, _, h, r, p => by
    cases h with
    | @cons k v kvs _ _ h t =>
      cases r with
      | cons r1 r2 =>
        cases p with
        | cons p1 p2 p3 =>
          obtain ⟨e1, rv⟩ := r1
          obtain ⟨as, bs, q1, q2, m1, m2⟩ := Dt.readsKv I ds _ _ _ t r2 p3
          obtain ⟨cs, q3, m3⟩ := Dt.reads I d v _ h rv
          rename_i _ _ en _
          have q4 : Reads s.heap en.key (kD k) [] := by
            rw [← e1] at p1
            rcases keyIs_shape p1 with ⟨i, t, e, f⟩ | ⟨x, t, e, f⟩
            · have e : k = Sum.inl i := e
              rw [e, f]; exact .int i t
            · have e : k = Sum.inr x := e
              rw [e, f]; exact .str x t
          refine ⟨[] ++ as, cs ++ bs, .cons q4 q1, .cons (by show Reads s.heap en.val d cs; rw [p2]; exact q3) q2, fun b hb => m1 b hb, fun b hb => (List.mem_append.mp hb).elim (m3 b) (m2 b)⟩
end
end

/-! ### repr of such data -/
/-- no repr is running; the place of sys.modules is the base's own -/
structure Grd (A : Around) (base : Heap) : Prop where
  g : A.guards = some []
  m : ∃ o, base.get? sysModules = some o
def rReprD : List V → Hp → VK → Prop := fun xs H Q => ∃ x d, xs = [x] ∧ (∃ a, x = .ref a) ∧ Dt H x d ∧ d.showable = true ∧ d.depth ≤ 60 ∧ d.shown.length ≤ sizeLine ∧ Q (.str d.shown) H
theorem call_reprD {X : Cx} (G : Grd X.A X.base) (hu : X.A.units + 64 < cLine) : CallR X (.builtin "repr") rReprD := by
  intro pins s σ H xs us Q I r h
  obtain ⟨_, d, rfl, ⟨a, rfl⟩, hd, hs, hdp, hsz, q⟩ := h
  obtain ⟨u, rfl, ru⟩ := vals1 r
  obtain ⟨as, rd, hm⟩ := Dt.reads I d _ _ hd ru
  cases ru
  obtain ⟨o, ho⟩ := G.m
  have hn : sysModules ∉ as := fun z => by
    have e := (I.bs _ _ ho).2
    have e2 := hm _ z
    rw [e] at e2
    cases e2
  exact repr_of_reads' rd hs (fun _ => hn) G.g (by omega) (fun _ _ e => e) (fun h' u tk hk => ⟨.str d.shown, H, I.kept hk, ⟨u, rfl⟩, q⟩) hsz
end FL
namespace FL
open PySem PySem.Spec PyProof.Rows L2

/-! ### defs that are called while no repr runs -/
structure FnOkG (P : Program) (w : World) (K : PySem.W.Frag) (mg : Str → Option Value) (base : Heap) (k : Nat) (f : Addr) (fd : FuncData) (ps : List Str) (sp : Sp) : Prop where
  len : ∀ vs H Q E, sp vs H Q E → vs.length = ps.length
  run : ∀ (A : Around) (outer : List Env) (s : Shared) (H : Hp) (args : Args) (us : List Value) (vs : List V) (Q : VK) (E : XK), Room k A → A.guards = some [] →
    Env0 P w K mg base A outer s H → BindsTo s fd args (ps.zip us) → Vals vs us → sp vs H Q E → codeAny (model P w) A (.call (.ref f) args) (CR CX0 outer P w H s Q E) s
section
variable {P : Program} {w : World} {K : PySem.W.Frag} {mg : Str → Option Value} {base : Heap}
theorem FnOkG.of {k : Nat} {f : Addr} {fd : FuncData} {ps : List Str} {sp : Sp} (F : FnOk P w K mg base CX0 k f fd ps sp) : FnOkG P w K mg base k f fd ps sp :=
  ⟨F.len, fun A outer s H args us vs Q E hr _ => F.run A outer s H args us vs Q E hr⟩
/-- a def by its body, where no repr is running -/
theorem okG {x qual : Str} {st : Stmt} {f : Addr} {fd : FuncData} {N ps : List Str} {k : Nat} {sp : Sp} (hm : ∃ o, base.get? sysModules = some o) (F : Fun K x qual st f fd) (S : FnScope N ps (defScope st)) (len : ∀ vs H Q E, sp vs H Q E → vs.length = ps.length)
    (body : ∀ (X : Cx), Grd X.A X.base → ∀ (cdv : Value) (A : Around) (outer : List Env) (s : Shared) (H : Hp) (vs : List V) (Q : VK) (E : XK), X = (cxOf CX0 P w K mg base N qual (defScope st) f cdv A outer s H E).nox → Room k X.A → sp vs H Q E →
      ∃ t, PSs X (defBody st) t ∧ t { nx := fun _ H' => Q .non H', rt := Q } (start N vs) H) : FnOkG P w K mg base (k + 1) f fd ps sp := by
  obtain ⟨oc, od, kV, doc, pm, an, cdv, ct, osl, rfl, lk, hcd⟩ := F.ex
  refine ⟨len, fun A outer s H args us vs Q E hr hg e0 hb r hsp => ?_⟩
  have kx : K.In s.heap := e0.mod.kin.keeps fun b o q => (e0.bs b o q).1
  have nl : s.heap.NoLimit := e0.mod.nolimit.keeps fun b o q => (e0.bs b o q).1
  refine codeAny_call_function hr.depth (kx _ _ lk) rfl S.co S.gen rfl (PySem.W.codeRec_of kx hcd) (hb _ _ _ _ ?_)
  refine wpAny_newFunctionEnv_cells S.kind (fun y hy => ?_) fun env he s1 z => ?_
  · rcases S.par y.1 (List.of_mem_zip hy).1 with q | q
    · exact .inl q
    · exact .inr ⟨q, PySem.W.cellsFrom_some _ _ _ (.inl q)⟩
  subst he
  refine ⟨nl.keeps z.toInCall.keep, codeAny_func ?_⟩
  obtain ⟨t, ht, hq⟩ := body _ ⟨hg, hm⟩ cdv A outer s H vs Q E rfl (hr.deeper _) hsp
  have I := inv_start (CX := CX0) (E := E) (mg := mg) S hr.hd e0 (len _ _ _ _ hsp) r z
  refine wpAny_mono (ht.nox.run [] s1 (start N vs) H _ I hq) (fun fl s' hs => ?_) fun e s' hs => hs
  cases fl with
  | ret u =>
    obtain ⟨v, σ', H', J, rv, q⟩ := hs
    exact ⟨v, H', J.os, J.bare, J.base, J.hok, rv, q⟩
  | next =>
    obtain ⟨σ', H', J, q⟩ := hs
    exact ⟨V.non, H', J.os, J.bare, J.base, J.hok, rfl, q⟩
  | brk => obtain ⟨_, _, _, q⟩ := hs; exact q.elim
  | cont => obtain ⟨_, _, _, q⟩ := hs; exact q.elim
end

/-! ### a def of the module by its name -/
/-- the def x keeps the promise sp, at level k -/
structure Dfn (P : Program) (w : World) (K : PySem.W.Frag) (mg : Str → Option Value) (base : Heap) (x : Str) (ps : List Str) (k : Nat) (sp : Sp) : Prop where
  ex : ∃ f fd, mg x = some (.ref f) ∧ PySem.W.keepIn K (.ref f) = true ∧ Binds K fd ps [] ∧ FnOk P w K mg base CX0 k f fd ps sp
structure DfnG (P : Program) (w : World) (K : PySem.W.Frag) (mg : Str → Option Value) (base : Heap) (x : Str) (ps : List Str) (k : Nat) (sp : Sp) : Prop where
  ex : ∃ f fd, mg x = some (.ref f) ∧ PySem.W.keepIn K (.ref f) = true ∧ Binds K fd ps [] ∧ FnOkG P w K mg base k f fd ps sp
/-- where a def of the module stands -/
structure At (K : PySem.W.Frag) (mg : Str → Option Value) (x : Str) (st : Stmt) (ps : List Str) : Prop where
  ex : ∃ f fd, mg x = some (.ref f) ∧ Fun K x x st f fd ∧ Binds K fd ps []
theorem At.mk' {K : PySem.W.Frag} {h : Heap} {mg : Str → Option Value} {x : Str} {st : Stmt} {ps : List Str} {f : Addr} {oc : Value} {od an : Option Addr} {osl : Array (Option Value)} {kV doc pm cdv ct : Value} (X : K.In h) (G : h.Ns mainGlobals mg)
    (n : PySem.W.nsIn K mainGlobals x = some (some (.ref f))) (l : K.lookup f = some ⟨oc, od, .func (PySem.W.fnOf x x (defArgs st) (defBody st) (defScope st) .none kV doc pm an cdv ct), osl⟩)
    (c : PySem.W.codeIn K cdv x = true) (k : PySem.W.keepIn K (.ref f) = true)
    (b : ∀ (kV doc pm : Value) (an : Option Addr) (cdv ct : Value) (us : List Value), us.length = ps.length → bindArgs (PySem.W.fnOf x x (defArgs st) (defBody st) (defScope st) .none kV doc pm an cdv ct) ⟨us, []⟩ = pure (ps.zip us)) : At K mg x st ps :=
  ⟨_, _, PySem.W.mg_of X G n, fun_mk l c k, (fun_mk l c k).binds b⟩
section
variable {P : Program} {w : World} {K : PySem.W.Frag} {mg : Str → Option Value} {base : Heap}
theorem dfn {x : Str} {st : Stmt} {N ps : List Str} {k : Nat} {sp : Sp} (D : At K mg x st ps) (S : FnScope N ps (defScope st)) (len : ∀ vs H Q E, sp vs H Q E → vs.length = ps.length)
    (body : ∀ (X : Cx) (f : Addr) (cdv : Value) (A : Around) (outer : List Env) (s : Shared) (H : Hp) (vs : List V) (Q : VK) (E : XK), X = (cxOf CX0 P w K mg base N x (defScope st) f cdv A outer s H E).nox → Room k X.A → sp vs H Q E →
      ∃ t, PSs X (defBody st) t ∧ t { nx := fun _ H' => Q .non H', rt := Q } (start N vs) H) : Dfn P w K mg base x ps (k + 1) sp := by
  obtain ⟨f, fd, hg, F, b⟩ := D.ex
  exact ⟨f, fd, hg, F.kp, b, F.ok S len fun cdv A outer s H vs Q E hr h => body _ f cdv A outer s H vs Q E rfl hr h⟩
theorem dfnG {x : Str} {st : Stmt} {N ps : List Str} {k : Nat} {sp : Sp} (hm : ∃ o, base.get? sysModules = some o) (D : At K mg x st ps) (S : FnScope N ps (defScope st)) (len : ∀ vs H Q E, sp vs H Q E → vs.length = ps.length)
    (body : ∀ (X : Cx), Grd X.A X.base → ∀ (f : Addr) (cdv : Value) (A : Around) (outer : List Env) (s : Shared) (H : Hp) (vs : List V) (Q : VK) (E : XK), X = (cxOf CX0 P w K mg base N x (defScope st) f cdv A outer s H E).nox → Room k X.A → sp vs H Q E →
      ∃ t, PSs X (defBody st) t ∧ t { nx := fun _ H' => Q .non H', rt := Q } (start N vs) H) : DfnG P w K mg base x ps (k + 1) sp := by
  obtain ⟨f, fd, hg, F, b⟩ := D.ex
  exact ⟨f, fd, hg, F.kp, b, okG hm F S len fun X g cdv A outer s H vs Q E e hr h => body X g f cdv A outer s H vs Q E e hr h⟩
end
section
variable {X : Cx} {k : Nat} {ps : List Str} {sp : Sp} {x : Str} {p pos : Pos} {e : Expr} {es : List Expr} {t : TA}
theorem pe_callD (D : Dfn X.prog X.w X.K X.mg X.base x ps k sp) (hr : Room k X.A) (hg : Gl X x) (ha : PA X (e :: es) t) (hdb : (x == ("__debug__" : Str)) = false := by decide)
    (he : starEach (e :: es) X.env = (false, eval e X.env) :: starEach es X.env := by rfl) (hpl : (backTo pos (starEach es X.env)).any (·.1) = false := by rfl) : PE X (.Call (.Name x p) (e :: es) [] pos) (tCall sp [] E0 t) := by
  obtain ⟨f, fd, hm, hk, hb, F⟩ := D.ex
  exact pe_call F hr hg hm hk hb .nil pass0 ha hdb he hpl
theorem pe_callD0 (D : Dfn X.prog X.w X.K X.mg X.base x ps k sp) (hr : Room k X.A) (hg : Gl X x) (hdb : (x == ("__debug__" : Str)) = false := by decide) : PE X (.Call (.Name x p) [] [] pos) (tCall sp [] E0 tNil) := by
  obtain ⟨f, fd, hm, hk, hb, F⟩ := D.ex
  exact pe_call0 F hr hg hm hk hb .nil pass0 hdb
/-- a def that says repr, called where no repr runs -/
theorem run_fnG {f : Addr} {fd : FuncData} {pins : List (Addr × Obj)} {σ : L2.St} {H : Hp} {s : Shared} {Q : VK} {us : List Value} {vs : List V} (F : FnOkG X.prog X.w X.K X.mg X.base k f fd ps sp) (g : X.A.guards = some []) (hr : Room k X.A) (hb : Binds X.K fd ps [])
    (I : L2.Inv X pins σ H s) (r : Vals vs us) (h : sp vs H Q E0) : wpAny (model X.prog X.w) X.A (call (.ref f) us) (EP X pins σ Q) X.xe s := by
  have hl : (us ++ []).length = ps.length := by rw [List.append_nil, ← r.length]; exact F.len _ _ _ _ h
  have hb2 := hb s us I.kIn hl
  rw [List.append_nil] at hb2
  refine wpAny_call (codeAny_mono (F.run X.A X.stack s H ⟨us, []⟩ us vs Q E0 hr g I.env0 hb2 r h) fun res s' hq => ?_)
  match res, hq with
  | .ok (.ret u), hq => exact I.after hq
theorem pe_callG (D : DfnG X.prog X.w X.K X.mg X.base x ps k sp) (g : X.A.guards = some []) (hr : Room k X.A) (hg : Gl X x) (ha : PA X (e :: es) t) (hdb : (x == ("__debug__" : Str)) = false := by decide)
    (he : starEach (e :: es) X.env = (false, eval e X.env) :: starEach es X.env := by rfl) (hpl : (backTo pos (starEach es X.env)).any (·.1) = false := by rfl) : PE X (.Call (.Name x p) (e :: es) [] pos) (tCall sp [] E0 t) := by
  obtain ⟨f, fd, hm, hk, hb, F⟩ := D.ex
  refine ⟨fun pins s σ H Q I h => wpAny_Call_Name_kw (ld_glob I hg hm ?_ hdb)⟩
  refine PySem.W.callWith_K (h₀ := X.base) I.ok.mod.kin hk (thn (ha.run pos pins s σ H _ I h) fun us s1 ⟨vs, H1, I1, r, q⟩ => ⟨I1.kIn, run_fnG F g hr hb I1 r ?_⟩) he hpl
  exact (congrArg (fun l => sp l H1 Q E0) (List.append_nil vs)).mp q
theorem pe_callG0 (D : DfnG X.prog X.w X.K X.mg X.base x ps k sp) (g : X.A.guards = some []) (hr : Room k X.A) (hg : Gl X x) (hdb : (x == ("__debug__" : Str)) = false := by decide) : PE X (.Call (.Name x p) [] [] pos) (tCall sp [] E0 tNil) := by
  obtain ⟨f, fd, hm, hk, hb, F⟩ := D.ex
  exact ⟨fun pins s σ H Q I h => wpAny_Call_Name_kw (ld_glob I hg hm (PySem.W.callWith_K0 I.kIn hk (run_fnG (us := []) (vs := []) F g hr hb I .nil h)) hdb)⟩
end
/-- an alternative of two rules -/
theorem PE.or {X : Cx} {e : Expr} {t u : TE} (h : PE X e t) (h' : PE X e u) : PE X e (fun σ H Q => t σ H Q ∨ u σ H Q) :=
  ⟨fun pins s σ H Q I q => q.elim (h.run pins s σ H Q I) (h'.run pins s σ H Q I)⟩
theorem pvl {X : Cx} (i : Nat) {x : Str} {pos : Pos} (hN : X.N[i]? = some x := by rfl) (hv : X.env.scope.names.lookup x = some .local := by rfl) (hd : (x == ("__debug__" : Str)) = false := by decide) (hcd : (x == ("__classdict__" : Str)) = false := by decide) : PE X (.Name x pos) (tVar i) := pe_var hN (.inl hv) hd hcd
theorem pvc {X : Cx} (i : Nat) {x : Str} {pos : Pos} (hN : X.N[i]? = some x := by rfl) (hv : X.env.scope.names.lookup x = some .cell := by rfl) (hd : (x == ("__debug__" : Str)) = false := by decide) (hcd : (x == ("__classdict__" : Str)) = false := by decide) : PE X (.Name x pos) (tVar i) := pe_var hN (.inr (.inl hv)) hd hcd
theorem pvf {X : Cx} (i : Nat) {x : Str} {pos : Pos} (hN : X.N[i]? = some x := by rfl) (hv : X.env.scope.names.lookup x = some .free := by rfl) (hd : (x == ("__debug__" : Str)) = false := by decide) (hcd : (x == ("__classdict__" : Str)) = false := by decide) : PE X (.Name x pos) (tVar i) := pe_var hN (.inr (.inr hv)) hd hcd

/-! ### operators by the values that come -/
section
variable {X : Cx}
def rAddS0 : R2 := fun x y H Q => ∃ i j, x = .str i ∧ y = .str j ∧ i.length + j.length ≤ sizeLine ∧ Q (.str (i ++ j)) H
def rAdd : R2 := fun x y H Q => rI0 (fun i j => .int (i + j)) x y H Q ∨ rAddS0 x y H Q ∨ rCat x y H Q
theorem opAdd : OpR X (binaryOp .Add) rAdd := op_add.or (op_add_str.or op_cat)
def rSub : R2 := rI0 fun i j => .int (i - j)
theorem opSub : OpR X (binaryOp .Sub) rSub := op_sub
def rMul : R2 := fun x y H Q => rI CMulW (fun i j => .int (i * j)) x y H Q ∨ rRep x y H Q
theorem opMul : OpR X (binaryOp .Mult) rMul := op_mulW.or op_rep
def rFdv : R2 := rI CDivW fun i j => .int (i / j)
theorem opFdv : OpR X (binaryOp .FloorDiv) rFdv := op_fdivW
def rMod : R2 := rI (fun _ j => 0 < j) fun i j => .int (i % j)
theorem opMod : OpR X (binaryOp .Mod) rMod := op_mod
def rPow : R2 := rI CPow fun i j => .int (i ^ j.toNat)
theorem opPow : OpR X (binaryOp .Pow) rPow := op_pow
def rLtA : R2 := fun x y H Q => rI0 (fun i j => .bl (decide (i < j))) x y H Q ∨ ∃ i j, x = .str i ∧ y = .str j ∧ Q (.bl (decide (i.cps.toList < j.cps.toList))) H
theorem opLt : OpR X (compareOp .Lt) rLtA := op_lt.or op_lt_str
def rLeA : R2 := fun x y H Q => rI0 (fun i j => .bl (decide (i ≤ j))) x y H Q ∨ ∃ i j, x = .str i ∧ y = .str j ∧ Q (.bl (!decide (j.cps.toList < i.cps.toList))) H
theorem opLe : OpR X (compareOp .LtE) rLeA := op_le.or op_le_str
def rGtA : R2 := fun x y H Q => rI0 (fun i j => .bl (decide (j < i))) x y H Q ∨ ∃ i j, x = .str i ∧ y = .str j ∧ Q (.bl (decide (j.cps.toList < i.cps.toList))) H
theorem opGt : OpR X (compareOp .Gt) rGtA := op_gt.or op_gt_str
def rGeA : R2 := fun x y H Q => rI0 (fun i j => .bl (decide (j ≤ i))) x y H Q ∨ ∃ i j, x = .str i ∧ y = .str j ∧ Q (.bl (!decide (i.cps.toList < j.cps.toList))) H
theorem opGe : OpR X (compareOp .GtE) rGeA := op_ge.or op_ge_str
def rEqA (K : PySem.W.Frag) : R2 := fun x y H Q => rEq x y H Q ∨ rEqD K x y H Q ∨ rEqTy x y H Q
theorem opEq (hu : X.A.units + 64 < cLine) : OpR X (compareOp .Eq) (rEqA X.K) := op_eq.or ((op_eqD hu).or op_eqTy)
def rNeA (K : PySem.W.Frag) : R2 := fun x y H Q => rNe x y H Q ∨ rNeD K x y H Q
theorem opNe (hu : X.A.units + 64 < cLine) : OpR X (compareOp .NotEq) (rNeA X.K) := op_ne.or (op_neD hu)
def rIs : R2 := fun x y H Q => (y = .non ∧ Q (.bl (decide (x = .non))) H) ∨ rIsB x y H Q
theorem opIs : OpR X (compareOp .Is) rIs := op_isN.or op_isBl
def rIsNot : R2 := fun x y H Q => (y = .non ∧ Q (.bl (!decide (x = .non))) H) ∨ rNotB x y H Q
theorem opIsNot : OpR X (compareOp .IsNot) rIsNot := op_notN.or op_notBl
end

/-! ### what stands in a comprehension's block, whatever the block's beginning is -/
abbrev Bk (α : Type) : Type := Shared → Hp → Addr → List (Str × Addr) → List Addr → α
def tAllE (t : Bk TE) : TE := fun σ H Q => ∀ s H0 C cl fp, t s H0 C cl fp σ H Q
def tAllT (t : Bk TT) : TT := fun σ H Q => ∀ s H0 C cl fp, t s H0 C cl fp σ H Q
def tAllG (t : Bk TG) : TG := fun v σ H Q => ∀ s H0 C cl fp, t s H0 C cl fp v σ H Q
section
variable {X : Cx} {scope : Scope} {e : Expr} {es : List Expr}
theorem blk_e {t : Bk TE} (h : ∀ s H C cl fp, PE (X.blk s H scope (compEnvC scope cl C X.env) fp) e (t s H C cl fp)) : ∀ s H C cl fp, PE (X.blk s H scope (compEnvC scope cl C X.env) fp) e (tAllE t) :=
  fun s H C cl fp => ⟨fun pins sh σ H' Q I q => (h s H C cl fp).run pins sh σ H' Q I (q s H C cl fp)⟩
theorem blk_t {t : Bk TT} (h : ∀ s H C cl fp, PTs (X.blk s H scope (compEnvC scope cl C X.env) fp) es (t s H C cl fp)) : ∀ s H C cl fp, PTs (X.blk s H scope (compEnvC scope cl C X.env) fp) es (tAllT t) :=
  fun s H C cl fp => ⟨fun pins sh σ H' Q I q => (h s H C cl fp).run pins sh σ H' Q I (q s H C cl fp)⟩
theorem blk_g {t : Bk TG} (h : ∀ s H C cl fp, PG (X.blk s H scope (compEnvC scope cl C X.env) fp) e (t s H C cl fp)) : ∀ s H C cl fp, PG (X.blk s H scope (compEnvC scope cl C X.env) fp) e (tAllG t) :=
  fun s H C cl fp => ⟨fun pins sh σ H' v u Q I r q => (h s H C cl fp).run pins sh σ H' v u Q I r (q s H C cl fp)⟩
end
end FL
namespace FL
open PySem PySem.Spec PyProof.Rows L2

/-! ### the ledger: F, what is never changed any more; L, the objects at hand, each by its content -/
structure Led (H F : Hp) (L : List (Addr × HO)) : Prop where
  ext : Same F H
  ent : ∀ x ∈ L, H x.1 = some x.2 ∧ F x.1 = none
  nd : (L.map (·.1)).Nodup
section
variable {H F : Hp} {L : List (Addr × HO)} {a p : Addr} {o u : HO}
theorem Led.same0 (H : Hp) : Led H H [] := ⟨Same.refl H, by simp, by simp⟩
theorem Led.get (D : Led H F L) (i : Nat) (h : L[i]? = some (a, o) := by rfl) : H a = some o := (D.ent _ (List.mem_of_getElem? h)).1
theorem Led.off (D : Led H F L) (i : Nat) (h : L[i]? = some (a, o) := by rfl) : F a = none := (D.ent _ (List.mem_of_getElem? h)).2
theorem Led.frz (D : Led H F L) (h : F a = some o) : H a = some o := D.ext _ _ h
theorem Led.fresh (D : Led H F L) (hp : H p = none) : p ∉ L.map (·.1) := fun z => by
  obtain ⟨x, hx, e⟩ := List.mem_map.mp z
  have q := (D.ent x hx).1
  rw [e, hp] at q
  cases q
/-- a new object at hand -/
theorem Led.new (D : Led H F L) (hp : H p = none) : Led (upd H p o) F ((p, o) :: L) := by
  have hf : F p = none := D.ext.free hp
  refine ⟨fun b x e => ?_, fun x hx => ?_, ?_⟩
  · rw [upd_ne (ne_of_none e hf)]; exact D.ext b x e
  · rcases List.mem_cons.mp hx with rfl | hx
    · exact ⟨upd_same, hf⟩
    · obtain ⟨q1, q2⟩ := D.ent x hx
      exact ⟨by rw [upd_ne (ne_of_none q1 hp)]; exact q1, q2⟩
  · exact List.nodup_cons.mpr ⟨D.fresh hp, D.nd⟩
theorem Led.freeze (D : Led H F ((a, o) :: L)) : Led H (upd F a o) L := by
  have h := D.ent (a, o) List.mem_cons_self
  have nd := List.nodup_cons.mp D.nd
  refine ⟨fun b x e => ?_, fun x hx => ?_, nd.2⟩
  · by_cases hb : b = a
    · subst hb; rw [upd_same] at e; cases e; exact h.1
    · rw [upd_ne hb] at e; exact D.ext b x e
  · obtain ⟨q1, q2⟩ := D.ent x (List.mem_cons_of_mem _ hx)
    exact ⟨q1, by rw [upd_ne (fun z => nd.1 (by rw [← z]; exact List.mem_map.mpr ⟨x, hx, rfl⟩))]; exact q2⟩
theorem Led.newF (D : Led H F L) (hp : H p = none) : Led (upd H p o) (upd F p o) L := (D.new hp).freeze
theorem Led.grow (D : Led H F ((a, o) :: L)) : Same F (upd F a o) := fun b x e => by
  rw [upd_ne (ne_of_none e (D.ent (a, o) List.mem_cons_self).2)]; exact e
theorem Led.drop (D : Led H F ((a, o) :: L)) : Led H F L := ⟨D.ext, fun x hx => D.ent x (List.mem_cons_of_mem _ hx), (List.nodup_cons.mp D.nd).2⟩
theorem Led.swap (D : Led H F ((a, o) :: (p, u) :: L)) : Led H F ((p, u) :: (a, o) :: L) :=
  ⟨D.ext, fun x hx => D.ent x (by
    rcases List.mem_cons.mp hx with rfl | hx
    · exact List.mem_cons_of_mem _ List.mem_cons_self
    · rcases List.mem_cons.mp hx with rfl | hx
      · exact List.mem_cons_self
      · exact List.mem_cons_of_mem _ (List.mem_cons_of_mem _ hx)), by
    have h := D.nd
    simp only [List.map_cons, List.nodup_cons, List.mem_cons, not_or] at h ⊢
    exact ⟨⟨fun e => h.1.1 e.symm, h.2.1⟩, h.1.2, h.2.2⟩⟩
theorem Led.perm {L' : List (Addr × HO)} (D : Led H F L) (h : L'.Perm L) : Led H F L' := ⟨D.ext, fun x hx => D.ent x (h.mem_iff.mp hx), (h.map _).nodup_iff.mpr D.nd⟩
/-- the i-th object at hand is written -/
theorem Led.set (D : Led H F L) (i : Nat) (h : L[i]? = some (a, o) := by rfl) : Led (upd H a u) F (L.set i (a, u)) := by
  obtain ⟨hi, e⟩ := List.getElem?_eq_some_iff.mp h
  have hm : (a, o) ∈ L := List.mem_of_getElem? h
  have key : ∀ (j : Nat) (hj : j < L.length), L[j].1 = a → j = i := fun j hj q => by
    have n := D.nd
    have e1 : (L.map (·.1))[j]'(by simpa using hj) = (L.map (·.1))[i]'(by simpa using hi) := by
      rw [List.getElem_map, List.getElem_map, q, e]
    exact (List.getElem_inj n).mp e1
  refine ⟨fun b x q => ?_, fun x hx => ?_, ?_⟩
  · rw [upd_ne (ne_of_none q (D.ent _ hm).2)]; exact D.ext b x q
  · obtain ⟨j, hj, q⟩ := List.mem_iff_getElem.mp hx
    rw [List.getElem_set] at q
    by_cases hji : i = j
    · rw [if_pos hji] at q
      subst q
      exact ⟨upd_same, (D.ent _ hm).2⟩
    · rw [if_neg hji] at q
      have hj' : j < L.length := by simpa using hj
      have hx2 : x ∈ L := by rw [← q]; exact List.getElem_mem hj'
      obtain ⟨q1, q2⟩ := D.ent x hx2
      refine ⟨?_, q2⟩
      rw [upd_ne (fun z => hji (key j hj' (by rw [q]; exact z)).symm)]
      exact q1
  · have hm2 : (L.set i (a, u)).map (·.1) = L.map (·.1) := by
      refine List.ext_getElem? fun j => ?_
      rw [List.getElem?_map, List.getElem?_set, List.getElem?_map]
      by_cases hji : i = j
      · subst hji
        rw [if_pos rfl, if_pos hi, h]; rfl
      · rw [if_neg hji]
    rw [hm2]; exact D.nd
/-- forms that the readings ask -/
theorem new_loc (D : Led H F L) {Q : VK} (k : ∀ p H', H p = none → Led H' F ((p, o) :: L) → Q (.ref p) H') : ∀ p, H p = none → Q (.ref p) (upd H p o) := fun p hp => k p _ hp (D.new hp)
theorem new_frz (D : Led H F L) {Q : VK} (k : ∀ p F' H', H p = none → Same F F' → F' p = some o → Led H' F' L → Q (.ref p) H') : ∀ p, H p = none → Q (.ref p) (upd H p o) :=
  fun p hp => k p _ _ hp (D.new hp).grow upd_same (D.newF hp)
end
end FL
namespace FL
open PySem PySem.Spec PyProof.Rows L2

/-! ### readings, one construct at a time -/
section
variable {σ : L2.St} {H : Hp} {Q : VK} {i j : Nat} {v x y : V} {ta tb tc te : TE} {D : Ends} {K : PySem.W.Frag}
theorem y_var (e : σ[i]? = some (some v)) (q : Q v H) : tVar i σ H Q := ⟨v, e, q⟩
theorem y_c (q : Q v H) : tC v σ H Q := q
theorem y_op {r : R2} (q : ta σ H fun x H1 => tb σ H1 fun y H2 => r x y H2 Q) : tOp r ta tb σ H Q := q
theorem y_neg {n : Int} (q : Q (.int (-n)) H) : rU (fun i => V.int (-i)) (.int n) H Q := ⟨n, rfl, q⟩
theorem y_un {r : V → Hp → VK → Prop} (q : ta σ H fun x H1 => r x H1 Q) : tUn r ta σ H Q := q
/-- and, or, not of bools -/
def andK (x : V) (A B : Prop) : Prop := ∃ c, x = .bl c ∧ if c = true then A else B
theorem y_andV (q : ta σ H fun x H1 => andK x (tb σ H1 Q) (Q (.bl false) H1)) : tAndV ta tb σ H Q := q
theorem y_orV (q : ta σ H fun x H1 => andK x (Q (.bl true) H1) (tb σ H1 Q)) : tOrV ta tb σ H Q := q
theorem andK_t {A B : Prop} (q : A) : andK (.bl true) A B := ⟨true, rfl, iteT q⟩
theorem andK_f {A B : Prop} (q : B) : andK (.bl false) A B := ⟨false, rfl, iteF q⟩
theorem andK_b {A B : Prop} {b : Bool} (h1 : b = true → A) (h2 : b = false → B) : andK (.bl b) A B := by
  cases b with
  | true => exact andK_t (h1 rfl)
  | false => exact andK_f (h2 rfl)
/-- a bool's, an int's use -/
def tk (x : V) (R : Bool → Prop) : Prop := ∃ c, x = .bl c ∧ R c
def ik (x : V) (R : Int → Prop) : Prop := ∃ c, x = .int c ∧ R c
theorem tkK {b : Bool} {R : Bool → Prop} (q : R b) : tk (.bl b) R := ⟨b, rfl, q⟩
theorem ikK {b : Int} {R : Int → Prop} (q : R b) : ik (.int b) R := ⟨b, rfl, q⟩
theorem y_notV (q : ta σ H fun x H1 => tk x fun c => Q (.bl (!c)) H1) : tNotV ta σ H Q := q
/-- a test's answer -/
theorem y_tB {R : Bool → Hp → Prop} (q : te σ H fun x H1 => tk x fun c => R c H1) : tB te σ H R := q
theorem y_tTest {R : Bool → Hp → Prop} (q : te σ H fun x H1 => tk x fun c => R c H1) : tTest te σ H R := q
theorem y_tNot {t : TT} {R : Bool → Hp → Prop} (q : t σ H fun c H1 => R (!c) H1) : tNot t σ H R := q
theorem y_tAnd {t u : TT} {R : Bool → Hp → Prop} (q : t σ H fun c H1 => if c = true then u σ H1 R else R false H1) : tAnd t u σ H R := q
theorem y_tOr {t u : TT} {R : Bool → Hp → Prop} (q : t σ H fun c H1 => if c = true then R true H1 else u σ H1 R) : tOr t u σ H R := q
theorem y_tIf {t : TT} (q : t σ H fun c H1 => if c = true then ta σ H1 Q else tb σ H1 Q) : tIf t ta tb σ H Q := q
theorem y_chain {r r' : R2} (q : ta σ H fun x H1 => tb σ H1 fun y H2 => r x y H2 fun z H3 => andK z (tc σ H3 fun w' H4 => r' y w' H4 Q) (Q (.bl false) H3)) : tChain r r' ta tb tc σ H Q := q
/-- argument lists, displays -/
theorem y_nil {R : List V → Hp → Prop} (q : R [] H) : tNil σ H R := q
theorem y_cons {tr : TA} {R : List V → Hp → Prop} (q : ta σ H fun x H1 => tr σ H1 fun xs H2 => R (x :: xs) H2) : tCons ta tr σ H R := q
theorem y_lst {t : TA} (q : t σ H fun xs H1 => xs.length ≤ sizeLine ∧ ∀ p, H1 p = none → Q (.ref p) (upd H1 p (.lst xs))) : tLst t σ H Q := q
theorem y_tup {t : TA} (q : t σ H fun xs H1 => xs.length ≤ sizeLine ∧ ∀ p, H1 p = none → Q (.ref p) (upd H1 p (.tup xs))) : tTup t σ H Q := q
theorem y_cb {t : TA} {r : List V → Hp → VK → Prop} (q : t σ H fun vs H1 => r vs H1 Q) : tCB r t σ H Q := q
theorem y_call {t : TA} {sp : Sp} {E : XK} (q : t σ H fun vs H1 => sp vs H1 Q E) : tCall sp [] E t σ H Q := by
  have e : ∀ vs : List V, vs ++ [] = vs := fun vs => List.append_nil vs
  show t σ H fun vs H1 => sp (vs ++ []) H1 Q E
  simp only [e]
  exact q
theorem y_slice {r : V → Option Int → Option Int → Hp → VK → Prop} {tl th : TO} (q : te σ H fun x H1 => tl σ H1 fun l H2 => th σ H2 fun u H3 => r x l u H3 Q) : tSl r te tl th σ H Q := q
theorem y_part {R : Option Int → Hp → Prop} (q : te σ H fun x H1 => ik x fun i => R (some i) H1) : tPart te σ H R := q
theorem y_nopart {R : Option Int → Hp → Prop} (q : R none H) : tNoPart σ H R := q
theorem y_bm {T : String} {r : V → List V → Hp → VK → Prop} {t : TA} (q : te σ H fun x H1 => tyV K T x H1 ∧ t σ H1 fun xs H2 => r x xs H2 Q) : tBM K T r te t σ H Q := q
theorem y_bm0 {T : String} {r : V → List V → Hp → VK → Prop} (q : te σ H fun x H1 => tyV K T x H1 ∧ r x [] H1 Q) : tBM0 K T r te σ H Q := q
theorem y_dget (q : ta σ H fun x H1 => tb σ H1 fun y H2 => ∃ a v, x = .ref a ∧ DGet H2 a y (some v) ∧ Q v H2) : tDGet ta tb σ H Q := q
theorem y_din (q : ta σ H fun y H1 => tb σ H1 fun x H2 => ∃ a o, x = .ref a ∧ DGet H2 a y o ∧ Q (.bl o.isSome) H2) : tDIn ta tb σ H Q := q
theorem y_dnotin (q : ta σ H fun y H1 => tb σ H1 fun x H2 => ∃ a o, x = .ref a ∧ DGet H2 a y o ∧ Q (.bl (!o.isSome)) H2) : tDNotIn ta tb σ H Q := q
theorem y_dnew (q : ∀ p, H p = none → Q (.ref p) (upd H p (.dK []))) : tDNewK σ H Q := q
/-! ### statements -/
variable {t u : TS} {g : TG}
theorem y_seq (q : t { D with nx := u D } σ H) : tSeq t u D σ H := q
theorem y_next (q : D.nx σ H) : tNext D σ H := q
theorem y_ret (q : te σ H D.rt) : tRet te D σ H := q
theorem y_retN (q : D.rt .non H) : tRetN D σ H := q
theorem y_drop (q : te σ H fun _ H1 => D.nx σ H1) : tDrop te D σ H := q
theorem y_if {c : TT} (q : c σ H fun b H1 => if b = true then t D σ H1 else u D σ H1) : tIfS c t u D σ H := q
theorem y_asg (q : te σ H fun x H1 => g x σ H1 D.nx) : tAsg te g D σ H := q
theorem y_gname {R : L2.St → Hp → Prop} {σ' : L2.St} (e : σ.set i (some v) = σ') (q : R σ' H) : gName i v σ H R := by subst e; exact q
theorem y_gsub {s : TSet} {R : L2.St → Hp → Prop} (q : ta σ H fun o H1 => tb σ H1 fun k H2 => s o k v H2 fun H3 => R σ H3) : gSub ta tb s v σ H R := q
theorem y_par3 {k : Nat} {t : TA} (q : t σ H fun vs H1 => ∃ u v w, vs = [u, v, w] ∧ D.nx (((σ.set i (some u)).set j (some v)).set k (some w)) H1) : tPar3 i j k t D σ H := q
theorem y_par {t : TA} (q : t σ H fun vs H1 => ∃ v w, vs = [v, w] ∧ D.nx ((σ.set i (some v)).set j (some w)) H1) : tPar i j t D σ H := q
theorem y_dput (q : te σ H fun v H1 => ta σ H1 fun x H2 => tb σ H2 fun y H3 => ∃ a H4, x = .ref a ∧ DPut H3 a y v H4 ∧ D.nx σ H4) : sDPut ta tb te D σ H := q

/-! ### operators on values -/
variable {a b n m : Int} {z w' : Str} {p : Addr} {xs ys : List V} {F : Hp} {L : List (Addr × HO)}
theorem r_add (q : Q (.int (a + b)) H) : rAdd (.int a) (.int b) H Q := .inl ⟨a, b, rfl, rfl, q⟩
theorem r_addS (hl : z.length + w'.length ≤ sizeLine) (q : Q (.str (z ++ w')) H) : rAdd (.str z) (.str w') H Q := .inr (.inl ⟨z, w', rfl, rfl, hl, q⟩)
theorem r_addL {l c : Addr} (h1 : H l = some (.lst xs)) (h2 : H c = some (.lst ys)) (hl : xs.length + ys.length ≤ sizeLine) (q : ∀ p, H p = none → Q (.ref p) (upd H p (.lst (xs ++ ys)))) : rAdd (.ref l) (.ref c) H Q :=
  .inr (.inr ⟨l, c, xs, ys, rfl, rfl, h1, h2, hl, q⟩)
theorem r_sub (q : Q (.int (a - b)) H) : rSub (.int a) (.int b) H Q := ⟨a, b, rfl, rfl, q⟩
theorem r_mul (h : CMulW a b) (q : Q (.int (a * b)) H) : rMul (.int a) (.int b) H Q := .inl ⟨a, b, rfl, rfl, h, q⟩
theorem r_mulL {l : Addr} (h1 : H l = some (.lst xs)) (h2 : -(2 ^ 63) ≤ n) (h3 : n < 2 ^ 63) (hl : xs.length * n.toNat ≤ sizeLine) (q : ∀ p, H p = none → Q (.ref p) (upd H p (.lst (List.replicate n.toNat xs).flatten))) : rMul (.ref l) (.int n) H Q :=
  .inr ⟨l, n, xs, rfl, rfl, h1, h2, h3, hl, q⟩
theorem r_fdv (h : CDivW a b) (q : Q (.int (a / b)) H) : rFdv (.int a) (.int b) H Q := ⟨a, b, rfl, rfl, h, q⟩
theorem r_mod (h : 0 < b) (q : Q (.int (a % b)) H) : rMod (.int a) (.int b) H Q := ⟨a, b, rfl, rfl, h, q⟩
theorem r_pow (h : CPow a b) (q : Q (.int (a ^ b.toNat)) H) : rPow (.int a) (.int b) H Q := ⟨a, b, rfl, rfl, h, q⟩
theorem r_lt (q : Q (.bl (decide (a < b))) H) : rLtA (.int a) (.int b) H Q := .inl ⟨a, b, rfl, rfl, q⟩
theorem r_le (q : Q (.bl (decide (a ≤ b))) H) : rLeA (.int a) (.int b) H Q := .inl ⟨a, b, rfl, rfl, q⟩
theorem r_gt (q : Q (.bl (decide (b < a))) H) : rGtA (.int a) (.int b) H Q := .inl ⟨a, b, rfl, rfl, q⟩
theorem r_ge (q : Q (.bl (decide (b ≤ a))) H) : rGeA (.int a) (.int b) H Q := .inl ⟨a, b, rfl, rfl, q⟩
theorem r_leS (q : Q (.bl (!decide (w'.cps.toList < z.cps.toList))) H) : rLeA (.str z) (.str w') H Q := .inr ⟨z, w', rfl, rfl, q⟩
theorem r_eq (h : scal x y = true) (q : Q (.bl (decide (x = y))) H) : rEqA K x y H Q := .inl ⟨h, q⟩
theorem r_ne (h : scal x y = true) (q : Q (.bl (!decide (x = y))) H) : rNeA K x y H Q := .inl ⟨h, q⟩
theorem r_eqD {d e : PyData} (h1 : Dp K H x d) (h2 : Dp K H y e) (s1 : SeqAt.shaped d = true) (s2 : SeqAt.shaped e = true) (q : Q (.bl (PyData.eqv d e)) H) : rEqA K x y H Q := .inr (.inl ⟨d, e, h1, h2, s1, s2, q⟩)
theorem r_neD {d e : PyData} (h1 : Dp K H x d) (h2 : Dp K H y e) (s1 : SeqAt.shaped d = true) (s2 : SeqAt.shaped e = true) (q : Q (.bl (!PyData.eqv d e)) H) : rNeA K x y H Q := .inr ⟨d, e, h1, h2, s1, s2, q⟩
theorem r_eqT {s t : String} (h1 : IsTy s) (h2 : IsTy t) (q : Q (.bl (decide (s = t))) H) : rEqA K (.ty s) (.ty t) H Q := .inr (.inr ⟨s, t, rfl, rfl, h1, h2, q⟩)
theorem r_isN (q : Q (.bl (decide (x = .non))) H) : rIs x .non H Q := .inl ⟨rfl, q⟩
theorem r_isB {c e : Bool} (q : Q (.bl (decide (c = e))) H) : rIs (.bl c) (.bl e) H Q := .inr ⟨c, e, rfl, rfl, q⟩
theorem r_notN (q : Q (.bl (!decide (x = .non))) H) : rIsNot x .non H Q := .inl ⟨rfl, q⟩
theorem r_notB {c e : Bool} (q : Q (.bl (!decide (c = e))) H) : rIsNot (.bl c) (.bl e) H Q := .inr ⟨c, e, rfl, rfl, q⟩
theorem r_ixL (h : SqL K H p xs) (e : atI xs n = some v) (q : Q v H) : rIx K (.ref p) (.int n) H Q := .inl ⟨p, xs, n, v, rfl, rfl, h, e, q⟩
theorem r_ixT (h : SqT K H p xs) (e : atI xs n = some v) (q : Q v H) : rIx K (.ref p) (.int n) H Q := .inr (.inl ⟨p, xs, n, v, rfl, rfl, h, e, q⟩)
theorem at_nat {α : Type} {l : List α} {k : Nat} {c : α} (h : l[k]? = some c) : atI l (k : Int) = some c := by
  have hk := (List.getElem?_eq_some_iff.mp h).1
  unfold atI ixN
  rw [if_pos (by omega), if_pos (by omega)]
  simpa using h
theorem ite_b {A B : Prop} {c : Bool} (h1 : c = true → A) (h2 : c = false → B) : if c = true then A else B := by
  cases c with
  | true => exact iteT (h1 rfl)
  | false => exact iteF (h2 rfl)
theorem ite_is {A B : Prop} {c : Bool} (e : c = true) (h : A) : if c = true then A else B := by rw [if_pos e]; exact h
theorem ite_no {A B : Prop} {c : Bool} (e : c = false) (h : B) : if c = true then A else B := by rw [e]; exact iteF h

/-! ### values of any kind -/
inductive Ar (H : Hp) : V → String → Prop
  | non : Ar H .non "NoneType"
  | bl (b : Bool) : Ar H (.bl b) "bool"
  | int (i : Int) : Ar H (.int i) "int"
  | str (x : Str) : Ar H (.str x) "str"
  | lst {a : Addr} {xs : List V} (h : H a = some (.lst xs)) : Ar H (.ref a) "list"
  | tup {a : Addr} {xs : List V} (h : H a = some (.tup xs)) : Ar H (.ref a) "tuple"
  | dK {a : Addr} {kvs : List (Key × V)} (h : H a = some (.dK kvs)) : Ar H (.ref a) "dict"
theorem Ar.tyx {s : String} (h : Ar H x s) : TyX K H x (.type s) := by
  cases h with
  | non => exact .base .non
  | bl b => exact .base (.bl b)
  | int i => exact .base (.int i)
  | str x => exact .base (.str x)
  | lst h => exact .base (.lst h)
  | tup h => exact .base (.tup h)
  | dK h => exact .base (.dK h)
theorem Ar.tyb {s : String} (h : Ar H x s) : TyB K H x s := by
  cases h with
  | non => exact .non
  | bl b => exact .bl b
  | int i => exact .int i
  | str x => exact .str x
  | lst h => exact .lst (SqL.of h)
  | tup h => exact .tup (SqT.of h)
  | dK h => exact .dK h
theorem Ar.isTy {s : String} (h : Ar H x s) : IsTy s := by
  cases h with
  | non => exact TypeEq.meta_NoneType
  | bl b => exact TypeEq.meta_bool
  | int i => exact TypeEq.meta_int
  | str x => exact TypeEq.meta_str
  | lst h => exact TypeEq.meta_list
  | tup h => exact TypeEq.meta_tuple
  | dK h => exact TypeEq.meta_dict
def isT (s t : String) : Bool := decide (s = t) || (decide (s = "bool") && decide (t = "int"))
theorem kit_all : ∀ s ∈ ["NoneType", "bool", "int", "str", "list", "tuple", "dict"], ∀ t ∈ ["int", "bool", "str", "dict", "list", "tuple"], kitB s t = some (isT s t) := by decide +kernel
theorem Ar.mem {s : String} (h : Ar H x s) : s ∈ ["NoneType", "bool", "int", "str", "list", "tuple", "dict"] := by cases h <;> simp
theorem r_isi {s t : String} (h : Ar H x s) (ht : t ∈ ["int", "bool", "str", "dict", "list", "tuple"]) (q : Q (.bl (isT s t)) H) : rIsi K [x, .ty t] H Q :=
  ⟨x, .ty t, .type s, .type t, _, rfl, .ty t, h.tyx, kit_ty (kit_all s h.mem t ht), q⟩
theorem y_start {t : TS} {N : List Str} {vs : List V} {σ' : L2.St} (e : L2.start N vs = σ') (q : t D σ' H) : t D (L2.start N vs) H := by rw [e]; exact q
theorem r_typ {s : String} (h : Ar H x s) (q : Q (.ty s) H) : rTyp K [x] H Q := ⟨x, s, rfl, h.tyb, q⟩
theorem Ar.isStr {s : String} (h : Ar H x s) (e : isT s "str" = true) : ∃ z, x = .str z := by
  cases h <;> first | exact ⟨_, rfl⟩ | exact absurd e (by decide)
theorem Ar.isTup {s : String} (h : Ar H x s) (e : isT s "tuple" = true) : ∃ t xs, x = .ref t ∧ H t = some (.tup xs) := by
  cases h <;> first | exact ⟨_, _, rfl, by assumption⟩ | exact absurd e (by decide)
theorem Ar.isLst {s : String} (h : Ar H x s) (e : isT s "list" = true) : ∃ t xs, x = .ref t ∧ H t = some (.lst xs) := by
  cases h <;> first | exact ⟨_, _, rfl, by assumption⟩ | exact absurd e (by decide)
theorem iteNT {A B : Prop} (h : B) : if (!true) = true then A else B := by rw [Bool.not_true]; exact iteF h
theorem iteNF {A B : Prop} (h : A) : if (!false) = true then A else B := by rw [Bool.not_false]; exact iteT h
theorem Ar.noStr {s : String} (h : Ar H x s) (e : isT s "str" = false) (z : Str) : x ≠ .str z := by
  cases h <;> first | exact absurd e (by decide) | (intro z; cases z)
theorem Dt.ar {d : PyData} (h : Dt H x d) : ∃ s, Ar H x s := by
  cases h with
  | non => exact ⟨_, .non⟩
  | bl b => exact ⟨_, .bl b⟩
  | int i => exact ⟨_, .int i⟩
  | str x => exact ⟨_, .str x⟩
  | lst h _ => exact ⟨_, .lst h⟩
  | tup h _ => exact ⟨_, .tup h⟩
  | dct h _ => exact ⟨_, .dK h⟩
end
end FL
namespace FL
open PySem PySem.Spec PyProof.Rows L2
theorem le_line {n : Nat} (h : n ≤ 1000000) : n ≤ sizeLine := Nat.le_trans h (by decide)
theorem lt_line {n : Nat} (h : n < 1000000) : n < sizeLine := Nat.lt_of_lt_of_le h (by decide)

/-! ### comprehensions over the ledger -/
/-- what a comprehension's walk has to be: n turns, the i-th item; src: what must stand while it walks -/
structure WalkIt (J : It) (n : Nat) (item : Nat → V → Prop) (src : Hp → Prop) : Prop where
  go : ∀ i H, src H → i < n → J.go i H
  yld : ∀ i H x H', src H → J.yld i H x H' → H' = H ∧ item i x
  stop : ∀ H, src H → J.stop n H
theorem walk_list {K : PySem.W.Frag} {a : Addr} {xs : List V} : WalkIt (Itl K a) xs.length (fun i x => xs[i]? = some x) (fun H => SqL K H a xs) where
  go := fun i H h hi => ⟨xs, xs[i], h, by simp [hi]⟩
  yld := fun i H x H' h y => ⟨y.1, y.2 xs h⟩
  stop := fun H h => ⟨xs, h, Nat.le_refl _⟩
theorem walk_str {z : Str} : WalkIt (Its z) z.cps.size (fun i x => ∃ c, z.cps[i]? = some c ∧ x = .str ⟨#[c]⟩) (fun _ => True) where
  go := fun i H _ hi => hi
  yld := fun i H x H' _ y => y
  stop := fun H _ => Nat.le_refl _
theorem walk_range {lo : Int} {n : Nat} : WalkIt (Itr lo n) n (fun i x => x = .int (lo + i)) (fun _ => True) where
  go := fun i H _ hi => hi
  yld := fun i H x H' _ y => y
  stop := fun H _ => Nat.le_refl _
section
variable {σ : L2.St} {H F : Hp} {L : List (Addr × HO)} {J : It} {n : Nat} {item : Nat → V → Prop} {src : Hp → Prop} {g : TG} {tt : TT} {te : TE} {vs : List Nat} {Q : VK}
/-- what a comprehension asks behind its walk's making -/
def lcAsk (J : It) (g : TG) (tt : TT) (te : TE) (vs : List Nat) (σ : L2.St) (H1 : Hp) (Q : VK) : Prop := ∀ D, H1 D = none → ∃ W : Nat → Nat → Hp → Prop, (∃ m, W 0 m (upd H1 D (.lst []))) ∧ ∀ i m H, W i m H →
  (J.stop i H ∧ Q (.ref D) H) ∨ (J.go i H ∧ ∃ Nx : Hp → Prop, (∀ H', Nx H' → ∃ m', m' < m ∧ W (i + 1) m' H') ∧ ∀ x H', J.yld i H x H' → g x (wipe σ vs) H' fun σ2 H2 => wipe σ2 vs = wipe σ vs ∧ tt σ2 H2 fun b H3 =>
    if b = true then te σ2 H3 fun y H4 => ∃ acc, H4 D = some (.lst acc) ∧ acc.length < sizeLine ∧ Nx (upd H4 D (.lst (acc ++ [y]))) else Nx H3)
theorem y_lc {wi : TI} (q : wi σ H fun J H1 => lcAsk J g tt te vs σ H1 Q) : tLc wi g tt te vs σ H Q := q
theorem y_yes {R : Bool → Hp → Prop} (q : R true H) : tYes σ H R := q
theorem y_allE {t : Bk TE} (q : ∀ s H0 C cl fp, t s H0 C cl fp σ H Q) : tAllE t σ H Q := q
theorem y_allT {t : Bk TT} {R : Bool → Hp → Prop} (q : ∀ s H0 C cl fp, t s H0 C cl fp σ H R) : tAllT t σ H R := q
theorem y_allG {t : Bk TG} {v : V} {R : L2.St → Hp → Prop} (q : ∀ s H0 C cl fp, t s H0 C cl fp v σ H R) : tAllG t v σ H R := q
theorem y_iList {K : PySem.W.Frag} {tl : TE} {R : It → Hp → Prop} (q : tl σ H fun x H1 => ∃ a, x = .ref a ∧ (∃ xs, SqL K H1 a xs) ∧ R (Itl K a) H1) : iList K tl σ H R := q
theorem y_iStr {tl : TE} {R : It → Hp → Prop} (q : tl σ H fun x H1 => ∃ z, x = .str z ∧ R (Its z) H1) : iStr tl σ H R := q
theorem y_iRng {ta : TA} {R : It → Hp → Prop} (q : ta σ H fun vs H1 => ∃ j : Int, vs = [.int j] ∧ -(2 ^ 62) ≤ j ∧ j < 2 ^ 62 ∧ R (Itr 0 j.toNat) H1) : iRng1 ta σ H R := q
theorem lc_led (D0 : Led H F L) (wk : WalkIt J n item src) (hn : n ≤ 100000) (Inv : Nat → List V → Hp → List (Addr × HO) → Prop) (h0 : Inv 0 [] F L)
    (hsrc : ∀ i acc F' L' H' Dl, Inv i acc F' L' → Led H' F' ((Dl, .lst acc) :: L') → src H')
    (turn : ∀ (Kp : V → Hp → Prop) (Sk : Hp → Prop) i acc F' L' H' Dl x, i < n → item i x → Inv i acc F' L' → Led H' F' ((Dl, .lst acc) :: L') → acc.length ≤ i →
      (∀ y F2 L2 H4, Led H4 F2 ((Dl, .lst acc) :: L2) → Inv (i + 1) (acc ++ [y]) F2 L2 → Kp y H4) → (∀ F2 L2 H3, Led H3 F2 ((Dl, .lst acc) :: L2) → Inv (i + 1) acc F2 L2 → Sk H3) →
      g x (wipe σ vs) H' fun σ2 H2 => wipe σ2 vs = wipe σ vs ∧ tt σ2 H2 fun b H3 => if b = true then te σ2 H3 Kp else Sk H3)
    (done : ∀ acc F' L' H' Dl, Inv n acc F' L' → Led H' F' ((Dl, .lst acc) :: L') → acc.length ≤ n → Q (.ref Dl) H') : lcAsk J g tt te vs σ H Q := by
  intro Dl hD
  refine ⟨fun i m H' => m = n - i ∧ i ≤ n ∧ ∃ acc F' L', Led H' F' ((Dl, .lst acc) :: L') ∧ Inv i acc F' L' ∧ acc.length ≤ i, ⟨n, by omega, by omega, [], F, L, D0.new hD, h0, Nat.le_refl _⟩, ?_⟩
  rintro i m H' ⟨rfl, hi, acc, F', L', D, I, ha⟩
  have hs := hsrc i acc F' L' H' Dl I D
  by_cases hlt : i < n
  · refine .inr ⟨wk.go i H' hs hlt, fun H2 => i + 1 ≤ n ∧ ∃ acc F' L', Led H2 F' ((Dl, .lst acc) :: L') ∧ Inv (i + 1) acc F' L' ∧ acc.length ≤ i + 1, fun H2 ⟨_, q⟩ => ⟨n - (i + 1), by omega, rfl, hlt, q⟩, fun x H2 y => ?_⟩
    obtain ⟨e, it⟩ := wk.yld i H' x H2 hs y
    subst e
    exact turn _ _ i acc F' L' H2 Dl x hlt it I D ha
      (fun y F2 L2 H4 D2 I2 => ⟨acc, D2.get 0, lt_line (by omega), hlt, acc ++ [y], F2, L2, D2.set 0, I2, by simp; omega⟩)
      (fun F2 L2 H3 D2 I2 => ⟨hlt, acc, F2, L2, D2, I2, by omega⟩)
  · have e : i = n := by omega
    subst e
    exact .inl ⟨wk.stop H' hs, done acc F' L' H' Dl I D ha⟩
end
end FL
namespace FL
open PySem PySem.Spec PyProof.Rows L2

/-! ### lines -/
def nmStr (z : Str) : Bool := decide (1 ≤ z.length ∧ z.length ≤ 8) && z.cps.toList.all fun c => decide (97 ≤ c ∧ c ≤ 122)
def lineK (ks : List (Str × Int)) : List (Key × V) := ks.map fun p => (.inr p.1, .int p.2)
structure LineOk (ks : List (Str × Int)) : Prop where
  len1 : 1 ≤ ks.length
  len2 : ks.length ≤ 40
  nm : ∀ p ∈ ks, nmStr p.1 = true
  ps : ∀ p ∈ ks, -(10 ^ 30) ≤ p.2 ∧ p.2 ≤ 10 ^ 30
  ndn : (ks.map (·.1)).Nodup
  ndp : (ks.map (·.2)).Nodup
theorem nm_len {z : Str} (h : nmStr z = true) : 1 ≤ z.length ∧ z.length ≤ 8 := by
  unfold nmStr at h
  rw [Bool.and_eq_true] at h
  exact of_decide_eq_true h.1

/-! ### for over a dict's items, the dict locked meanwhile -/
section
variable {σ : L2.St} {H : Hp} {D : Ends} {g : TG} {tb : TS} {te : TE} {a : Addr} {kvs : List (Key × V)}
theorem y_lockItems (he : ∀ H1 R, R (.ref a) H1 → te σ H1 R) (hd : H a = some (.dK kvs)) (Pv : Obj → Nat → L2.St → Hp → Prop) (h0 : ∀ od, Pv od 0 σ (upd H a (.frz od (.dK kvs))))
    (hfr : ∀ od i σ' H', Pv od i σ' H' → H' a = some (.frz od (.dK kvs)))
    (turn : ∀ od i k v T σ' H', kvs[i]? = some (k, v) → Pv od i σ' H' → H' T = none → g (.ref T) σ' (upd H' T (.tup [kV k, v])) fun σ2 H2 =>
      tb ⟨Pv od (i + 1), fun v H'' => H'' a = some (.frz od (.dK kvs)) ∧ D.rt v (upd H'' a (.dK kvs)), fun σ'' H'' => H'' a = some (.frz od (.dK kvs)) ∧ D.nx σ'' (upd H'' a (.dK kvs)), Pv od (i + 1)⟩ σ2 H2)
    (done : ∀ od σ' H', Pv od kvs.length σ' H' → D.nx σ' (upd H' a (.dK kvs))) : tLock (tFor (iItems te) g tb) D σ H := by
  refine ⟨a, .dK kvs, hd, trivial, fun od => ?_⟩
  refine he _ _ ⟨a, od, kvs, rfl, upd_same, ?_⟩
  refine ⟨fun i m σ' H' => m = kvs.length - i ∧ i ≤ kvs.length ∧ Pv od i σ' H', ⟨kvs.length, by omega, by omega, h0 od⟩, ?_⟩
  rintro i m σ' H' ⟨rfl, hi, p⟩
  have hf := hfr od i σ' H' p
  by_cases hlt : i < kvs.length
  · refine .inr ⟨⟨hf, hlt⟩, Pv od (i + 1), fun σ2 H2 q => ⟨kvs.length - (i + 1), by omega, rfl, hlt, q⟩, ?_⟩
    rintro x H2 ⟨T, k, v, e, rfl, hT, rfl⟩
    exact turn od i k v T σ' H' e p hT
  · have e : i = kvs.length := by omega
    subst e
    exact .inl ⟨⟨hf, Nat.le_refl _⟩, hf, done od σ' H' p⟩
theorem y_lockKeys (he : ∀ H1 R, R (.ref a) H1 → te σ H1 R) (hd : H a = some (.dK kvs)) (Pv : Obj → Nat → L2.St → Hp → Prop) (h0 : ∀ od, Pv od 0 σ (upd H a (.frz od (.dK kvs))))
    (hfr : ∀ od i σ' H', Pv od i σ' H' → H' a = some (.frz od (.dK kvs)))
    (turn : ∀ od i k v σ' H', kvs[i]? = some (k, v) → Pv od i σ' H' → g (kV k) σ' H' fun σ2 H2 =>
      tb ⟨Pv od (i + 1), fun v H'' => H'' a = some (.frz od (.dK kvs)) ∧ D.rt v (upd H'' a (.dK kvs)), fun σ'' H'' => H'' a = some (.frz od (.dK kvs)) ∧ D.nx σ'' (upd H'' a (.dK kvs)), Pv od (i + 1)⟩ σ2 H2)
    (done : ∀ od σ' H', Pv od kvs.length σ' H' → D.nx σ' (upd H' a (.dK kvs))) : tLock (tFor (iKeys te) g tb) D σ H := by
  refine ⟨a, .dK kvs, hd, trivial, fun od => he _ _ ⟨a, od, rfl, .inl ⟨kvs, upd_same, ?_⟩⟩⟩
  refine ⟨fun i m σ' H' => m = kvs.length - i ∧ i ≤ kvs.length ∧ Pv od i σ' H', ⟨kvs.length, by omega, by omega, h0 od⟩, ?_⟩
  rintro i m σ' H' ⟨rfl, hi, p⟩
  have hf := hfr od i σ' H' p
  by_cases hlt : i < kvs.length
  · refine .inr ⟨⟨hf, hlt⟩, Pv od (i + 1), fun σ2 H2 q => ⟨kvs.length - (i + 1), by omega, rfl, hlt, q⟩, ?_⟩
    rintro x H2 ⟨rfl, k, v, e, rfl⟩
    exact turn od i k v _ _ e p
  · have e : i = kvs.length := by omega
    subst e
    exact .inl ⟨⟨hf, Nat.le_refl _⟩, hf, done od σ' H' p⟩
end
theorem same_lock {H H' : Hp} {a : Addr} {o : HO} {od : Obj} (h : H a = some o) (s : Same (upd H a (.frz od o)) H') : Same H (upd H' a o) := fun b x e => by
  by_cases hb : b = a
  · subst hb; rw [h] at e; rw [upd_same]; exact e
  · rw [upd_ne hb]; exact s b x (by rw [upd_ne hb]; exact e)

section
variable {σ : L2.St} {H : Hp} {Q : VK} {x y v : V} {K : PySem.W.Frag} {p : Addr}
theorem Ar.isDict {s : String} (h : Ar H x s) (e : isT s "dict" = true) : ∃ a kvs, x = .ref a ∧ H a = some (.dK kvs) := by
  cases h <;> first | exact ⟨_, _, rfl, by assumption⟩ | exact absurd e (by decide)
theorem y_gtup {g : TGs} {n : Nat} {R : L2.St → Hp → Prop} {xs : List V} (h : SqT K H p xs) (e : xs.length = n) (q : g xs σ H R) : gTup K n g (.ref p) σ H R := ⟨p, xs, rfl, h, e, q⟩
theorem y_gcons {g : TG} {u : TGs} {R : L2.St → Hp → Prop} {vs : List V} (q : g v σ H fun σ' H' => u vs σ' H' R) : gCons g u (v :: vs) σ H R := ⟨v, vs, rfl, q⟩
theorem y_gnil {R : L2.St → Hp → Prop} (q : R σ H) : gNil [] σ H R := ⟨rfl, q⟩
end

theorem isT_ne {s t : String} (h : isT s t = false) : s ≠ t := fun e => by
  subst e
  unfold isT at h
  rw [decide_eq_true rfl] at h
  cases h
/-! ### hosts, frames of a line, by values -/
def isHost (ks : List (Str × Int)) : V → Bool
  | .str z => ks.any fun p => decide (p.1 = z)
  | _ => false
theorem valV_line (z : Str) : ∀ ks : List (Str × Int), (valV (lineK ks) (.inr z)).isSome = ks.any fun p => decide (p.1 = z)
  | [] => rfl
  | p :: ks => by
    have ih := valV_line z ks
    show (valV ((Sum.inr p.1, V.int p.2) :: lineK ks) (Sum.inr z : Key)).isSome = (decide (p.1 = z) || ks.any fun p => decide (p.1 = z))
    by_cases e : p.1 = z
    · rw [valV_pos (by show (Sum.inr p.1 : Key) = Sum.inr z; rw [e]), decide_eq_true e]; rfl
    · rw [decide_eq_false e, Bool.false_or, ← ih]
      unfold valV
      rw [List.find?_cons_of_neg (by simp; exact e)]
inductive FrB (ks : List (Str × Int)) (H : Hp) : V → Bool → Prop
  | no {x : V} {s : String} (h : Ar H x s) (n : ∀ t u v, x = .ref t → H t ≠ some (.tup [u, v])) (m : ∀ t xs, x = .ref t → H t = some (.tup xs) → xs.length ≤ 100000) : FrB ks H x false
  | pair {t : Addr} {u v : V} {s s' : String} (h : H t = some (.tup [u, v])) (hu : Ar H u s) (hv : Ar H v s') : FrB ks H (.ref t) (isHost ks u && isHost ks v && !decide (u = v))
inductive FramesB (ks : List (Str × Int)) (H : Hp) : V → Bool → Prop
  | no {x : V} {s : String} (h : Ar H x s) (n : s ≠ "list") : FramesB ks H x false
  | long {l : Addr} {xs : List V} (h : H l = some (.lst xs)) (n : 300 < xs.length) (m : xs.length ≤ 100000) : FramesB ks H (.ref l) false
  | lst {l : Addr} {xs : List V} {bs : List Bool} (h : H l = some (.lst xs)) (n : xs.length ≤ 300) (p : Paired (FrB ks H) xs bs) : FramesB ks H (.ref l) (bs.all id)
theorem Ar.mono {H H' : Hp} {x : V} {s : String} (e : Same H H') (h : Ar H x s) : Ar H' x s := by
  cases h with
  | non => exact .non
  | bl b => exact .bl b
  | int i => exact .int i
  | str x => exact .str x
  | lst h => exact .lst (e _ _ h)
  | tup h => exact .tup (e _ _ h)
  | dK h => exact .dK (e _ _ h)
theorem Ar.there {H : Hp} {a : Addr} {s : String} (h : Ar H (.ref a) s) : ∃ o, H a = some o := by
  cases h <;> exact ⟨_, by assumption⟩
theorem FrB.mono {ks : List (Str × Int)} {H H' : Hp} {x : V} {b : Bool} (e : Same H H') (h : FrB ks H x b) : FrB ks H' x b := by
  cases h with
  | @no _ s h n m =>
    refine .no (h.mono e) (fun t u v ex q => ?_) (fun t xs ex q => ?_)
    · subst ex
      obtain ⟨o, ho⟩ := h.there
      have q2 := e _ _ ho
      rw [q] at q2
      cases q2
      exact n t u v rfl ho
    · subst ex
      obtain ⟨o, ho⟩ := h.there
      have q2 := e _ _ ho
      rw [q] at q2
      cases q2
      exact m t xs rfl ho
  | pair h hu hv => exact .pair (e _ _ h) (hu.mono e) (hv.mono e)
theorem FrB.len {ks : List (Str × Int)} {H : Hp} {x : V} {b : Bool} (h : FrB ks H x b) : ∀ t xs, x = .ref t → H t = some (.tup xs) → xs.length ≤ 100000 := by
  cases h with
  | no h n m => exact m
  | pair h hu hv =>
    intro t xs e q
    cases e
    rw [h] at q
    cases q
    show 2 ≤ 100000
    decide
theorem FramesB.mono {ks : List (Str × Int)} {H H' : Hp} {x : V} {b : Bool} (e : Same H H') (h : FramesB ks H x b) : FramesB ks H' x b := by
  cases h with
  | no h n => exact .no (h.mono e) n
  | long h n m => exact .long (e _ _ h) n m
  | lst h n p => exact .lst (e _ _ h) n (L2.Paired.mapP p fun _ _ q => q.mono e)
theorem Paired.get {α β : Type} {F : α → β → Prop} : ∀ {xs : List α} {ys : List β}, Paired F xs ys → ∀ {i : Nat} {x : α}, xs[i]? = some x → ∃ y, ys[i]? = some y ∧ F x y
  | _, _, .nil, i, x, h => by cases h
  | _, _, .cons r t, 0, x, h => ⟨_, rfl, (Option.some.inj h) ▸ r⟩
  | _, _, .cons r t, i + 1, x, h => Paired.get t (i := i) h
section
variable {σ : L2.St} {H : Hp} {Q : VK} {te ta : TE} {K : PySem.W.Frag}
theorem y_lenSet (q : ta σ H fun x H1 => ∃ (l : Addr) (ns : List Int), x = .ref l ∧ SqL K H1 l (ns.map V.int) ∧ ns.Nodup ∧ ns.length ≤ 4000 ∧ Q (.int (ns.length : Nat)) H1) : RZ.tLenSetI K ta σ H Q := q
theorem y_listVals (q : te σ H fun x H1 => rValsL x H1 Q) : tListValues te σ H Q := q
theorem y_listItems (q : te σ H fun x H1 => LiI.rItemsL x H1 Q) : LiI.tListItems te σ H Q := q
end
end FL
namespace FL
open PySem PySem.Spec PyProof.Rows L2

/-! ### loops -/
section
variable {σ : L2.St} {H F : Hp} {D : Ends} {g : TG} {tb : TS} {K : PySem.W.Frag} {a : Addr} {xs : List V}
def forAsk (J : It) (g : TG) (tb : TS) (D : Ends) (σ : L2.St) (H1 : Hp) : Prop := ∃ W : Nat → Nat → L2.St → Hp → Prop, (∃ m, W 0 m σ H1) ∧ ∀ i m σ H, W i m σ H →
  (J.stop i H ∧ D.nx σ H) ∨ (J.go i H ∧ ∃ N : L2.St → Hp → Prop, (∀ σ' H', N σ' H' → ∃ m', m' < m ∧ W (i + 1) m' σ' H') ∧ ∀ x H', J.yld i H x H' → g x σ H' fun σ2 H2 => tb { D with nx := N, ct := N, bk := D.nx } σ2 H2)
theorem y_for {wi : TI} (q : wi σ H fun J H1 => forAsk J g tb D σ H1) : tFor wi g tb D σ H := q
theorem for_any {J : It} {n : Nat} {item : Nat → V → Prop} {src : Hp → Prop} (wk : WalkIt J n item src) (Pv : Nat → L2.St → Hp → Prop) (h0 : Pv 0 σ H) (hsrc : ∀ i σ' H', Pv i σ' H' → src H')
    (turn : ∀ i x σ' H', i < n → item i x → Pv i σ' H' → g x σ' H' fun σ2 H2 => tb { D with nx := Pv (i + 1), ct := Pv (i + 1), bk := D.nx } σ2 H2) (done : ∀ σ' H', Pv n σ' H' → D.nx σ' H') : forAsk J g tb D σ H := by
  refine ⟨fun i m σ' H' => m = n - i ∧ i ≤ n ∧ Pv i σ' H', ⟨n, by omega, by omega, h0⟩, ?_⟩
  rintro i m σ' H' ⟨rfl, hi, p⟩
  have hs := hsrc i σ' H' p
  by_cases hlt : i < n
  · refine .inr ⟨wk.go i H' hs hlt, Pv (i + 1), fun σ2 H2 q => ⟨n - (i + 1), by omega, rfl, hlt, q⟩, fun x H2 y => ?_⟩
    obtain ⟨e, it⟩ := wk.yld i H' x H2 hs y
    subst e
    exact turn i x σ' H2 hlt it p
  · have e : i = n := by omega
    subst e
    exact .inl ⟨wk.stop H' hs, done σ' H' p⟩
end

/-! ### slices, items -/
theorem cut_take (xs : List V) (k : Nat) : cutV xs none (some (k : Int)) = xs.take k := by
  unfold cutV
  rw [HT.sIx_none, HT.sIx_nat]
  show List.take (min k xs.length - 0) (xs.drop 0) = _
  rw [List.drop_zero, Nat.sub_zero]
  by_cases h : k ≤ xs.length
  · rw [Nat.min_eq_left h]
  · rw [Nat.min_eq_right (by omega), List.take_of_length_le (Nat.le_refl _), List.take_of_length_le (by omega)]
theorem cut_drop (xs : List V) (k : Nat) : cutV xs (some (k : Int)) none = xs.drop k := by
  unfold cutV
  rw [HT.sIx_none, HT.sIx_nat]
  by_cases h : k ≤ xs.length
  · rw [Nat.min_eq_left h, List.take_of_length_le (by simp)]
  · rw [Nat.min_eq_right (by omega), List.drop_of_length_le (Nat.le_refl _), List.drop_of_length_le (by omega), List.take_nil]
section
variable {σ : L2.St} {H F : Hp} {K : PySem.W.Frag} {a : Addr} {xs : List V} {Q : VK} {L : List (Addr × HO)} {lo hi : Option Int}
theorem r_sl (h : SqL K H a xs) (q : ∀ p, H p = none → Q (.ref p) (upd H p (.lst (cutV xs lo hi)))) : rSlL K (.ref a) lo hi H Q := ⟨a, xs, rfl, h, q⟩
theorem Led.seq (D : Led H F L) (h : SqL K F a xs) : SqL K H a xs := Same.seq D.ext h
end

/-! ### the drawing of numbers out of a script -/
structure Rl where
  great : List Int
  cells : List Int
  n : Nat
  stir : Int
structure RlOk (R : Rl) : Prop where
  gl : R.great.length ≤ 64
  c1 : 1 ≤ R.cells.length
  c2 : R.cells.length ≤ 64
  cb : ∀ x ∈ R.cells, 0 ≤ x ∧ x < 1000003
  s0 : 0 ≤ R.stir
  s1 : R.stir < 2 ^ 140
def rE (r g c : Addr) (R : Rl) : List (Addr × HO) := [(r, .lst [.ref g, .ref c, .int R.n, .int R.stir]), (g, .lst (R.great.map V.int)), (c, .lst (R.cells.map V.int))]
theorem mod_m (x : Int) : 0 ≤ x % (2 ^ (64 : Int).toNat * 2 ^ (63 : Int).toNat - 1) ∧ x % (2 ^ (64 : Int).toNat * 2 ^ (63 : Int).toNat - 1) < 2 ^ 140 := by
  have h : (0 : Int) < 2 ^ (64 : Int).toNat * 2 ^ (63 : Int).toNat - 1 := by decide +kernel
  have h2 : (2 : Int) ^ (64 : Int).toNat * 2 ^ (63 : Int).toNat - 1 < 2 ^ 140 := by decide +kernel
  exact ⟨Int.emod_nonneg _ (Int.ne_of_gt h), Int.lt_trans (Int.emod_lt_of_pos _ h) h2⟩
theorem abs_lt {x : Int} {k : Nat} (h0 : 0 ≤ x) (h : x < 2 ^ k) : x.natAbs < 2 ^ k := by
  have e : ((2 ^ k : Nat) : Int) = 2 ^ k := by simp
  omega

theorem Led.nf {H F H1 : Hp} {L : List (Addr × HO)} {p : Addr} {o : HO} (D : Led H F L) (hp : H p = none) (e : upd H p o = H1) : ∃ F1, Same F F1 ∧ F1 p = some o ∧ F p = none ∧ Led H1 F1 L :=
  ⟨upd F p o, (D.new hp).grow, upd_same, D.ext.free hp, e ▸ D.newF hp⟩
theorem Led.nl {H F H1 : Hp} {L : List (Addr × HO)} {p : Addr} {o : HO} (D : Led H F L) (hp : H p = none) (e : upd H p o = H1) : Led H1 F ((p, o) :: L) := e ▸ D.new hp
theorem Led.st {H F H1 : Hp} {L : List (Addr × HO)} {a : Addr} {o u : HO} (D : Led H F L) (i : Nat) (e : upd H a u = H1) (h : L[i]? = some (a, o) := by rfl) : Led H1 F (L.set i (a, u)) := e ▸ D.set i h

theorem Led.sub {H F : Hp} {L L' : List (Addr × HO)} (D : Led H F L) (h : L'.Sublist L) : Led H F L' := ⟨D.ext, fun x hx => D.ent x (h.subset hx), D.nd.sublist (h.map _)⟩
theorem ints_at {ns : List Int} {i : Nat} {x : V} (h : (ns.map V.int)[i]? = some x) : ∃ z, x = V.int z ∧ ns[i]? = some z := by
  rw [List.getElem?_map] at h
  cases e : ns[i]? with
  | none => rw [e] at h; cases h
  | some z => rw [e] at h; exact ⟨z, (Option.some.inj h).symm, rfl⟩

/-! ### lists of ints, compared and stored -/
def dI (ns : List Int) : List PyData := ns.map PyData.int
theorem dpI {K : PySem.W.Frag} {H : Hp} : ∀ ns : List Int, DpAll K H (ns.map V.int) (dI ns)
  | [] => .nil
  | n :: ns => .cons (.int n) (dpI ns)
theorem canI : ∀ ns : List Int, PyData.canLayAll0 (dI ns) = true
  | [] => rfl
  | n :: ns => by
    show (PyData.canLay0 (.int n) && PyData.canLayAll0 (dI ns)) = true
    rw [canI ns]; rfl
theorem depI : ∀ ns : List Int, PyData.depthAll (dI ns) = 0
  | [] => rfl
  | n :: ns => by
    show max (PyData.depth (.int n)) (PyData.depthAll (dI ns)) = 0
    rw [depI ns]; rfl
theorem shI (ns : List Int) : SeqAt.shaped (.list (dI ns)) = true := by
  unfold SeqAt.shaped
  rw [Bool.and_eq_true]
  refine ⟨canI ns, decide_eq_true ?_⟩
  show PyData.depthAll (dI ns) + 1 ≤ 64
  rw [depI]; decide
theorem r_setL {v : V} {p : Addr} {xs : List V} {H : Hp} {j : Nat} {R : Hp → Prop} (h : H p = some (.lst xs)) (hj : j < xs.length) (q : R (upd H p (.lst (xs.set j v)))) : rSetL (.ref p) (.int (j : Int)) v H R :=
  ⟨p, xs, j, j, rfl, rfl, h, Evl.ixN_nat hj, q⟩
theorem int_of_bl {b : Bool} {H : Hp} {Q : VK} (q : Q (.int (if b = true then 1 else 0)) H) : (∃ i, ([V.bl b] : List V) = [.int i] ∧ Q (.int i) H) ∨ ∃ k, ([V.bl b] : List V) = [.bl k] ∧ Q (.int (if k = true then 1 else 0)) H := .inr ⟨b, rfl, q⟩

/-! ### the reel ahead of the other things at hand -/
section
variable {H F : Hp} {L X : List (Addr × HO)} {r g c p : Addr} {o : HO} {R : Rl}
theorem Led.back (D : Led H F ((p, o) :: (rE r g c R ++ L))) : Led H F (rE r g c R ++ ((p, o) :: L)) := D.perm (List.perm_append_comm_assoc (rE r g c R) [(p, o)] L)
theorem Led.fwd (D : Led H F (rE r g c R ++ ((p, o) :: L))) : Led H F ((p, o) :: (rE r g c R ++ L)) := D.perm (List.perm_append_comm_assoc [(p, o)] (rE r g c R) L)
end
/-! ### dicts from text to int -/
theorem lineK_app (ks ls : List (Str × Int)) : lineK (ks ++ ls) = lineK ks ++ lineK ls := List.map_append ..
theorem lineK_len (ks : List (Str × Int)) : (lineK ks).length = ks.length := List.length_map ..
theorem putK_line {ks : List (Str × Int)} {z : Str} (n : Int) (h : z ∉ ks.map (·.1)) : putK (lineK ks) (.inr z) (.int n) = lineK (ks ++ [(z, n)]) := by
  unfold putK
  rw [if_neg]
  · rw [lineK_app]; rfl
  · rw [List.any_eq_true]
    rintro ⟨kv, hm, e⟩
    have e := of_decide_eq_true e
    obtain ⟨p, hp, rfl⟩ := List.mem_map.mp hm
    have e : (Sum.inr p.1 : Key) = Sum.inr z := e
    injection e with e
    exact h (List.mem_map.mpr ⟨p, hp, e⟩)
theorem merge_line : ∀ (ls ks : List (Str × Int)), ((ks ++ ls).map (·.1)).Nodup → mergeK (lineK ks) (lineK ls) = lineK (ks ++ ls)
  | [], ks, _ => by rw [List.append_nil]; rfl
  | p :: ls, ks, h => by
    show mergeK (putK (lineK ks) (.inr p.1) (.int p.2)) (lineK ls) = _
    have hn : p.1 ∉ ks.map (·.1) := fun z => by
      rw [List.map_append, List.map_cons, List.nodup_append] at h
      exact h.2.2 _ z _ List.mem_cons_self rfl
    rw [putK_line p.2 hn, merge_line ls _ (by rw [List.append_assoc]; exact h), List.append_assoc]; rfl
theorem valV_line_some {z : Str} {n : Int} : ∀ {ks : List (Str × Int)}, (z, n) ∈ ks → (ks.map (·.1)).Nodup → valV (lineK ks) (.inr z) = some (.int n)
  | p :: ks, h, nd => by
    show valV ((Sum.inr p.1, V.int p.2) :: lineK ks) (Sum.inr z : Key) = _
    rcases List.mem_cons.mp h with e | h
    · rw [valV_pos (by show (Sum.inr p.1 : Key) = Sum.inr z; rw [← e]), ← e]
    · have hn := List.nodup_cons.mp nd
      have ne : p.1 ≠ z := fun e => hn.1 (by show p.1 ∈ _; rw [e]; exact List.mem_map.mpr ⟨_, h, rfl⟩)
      have ih := valV_line_some h hn.2
      unfold valV at ih ⊢
      rw [List.find?_cons_of_neg (by simp; exact ne)]
      exact ih
theorem LineOk.perm {ks ls : List (Str × Int)} (h : LineOk ks) (p : ls.Perm ks) : LineOk ls where
  len1 := by rw [p.length_eq]; exact h.len1
  len2 := by rw [p.length_eq]; exact h.len2
  nm := fun q hq => h.nm q (p.mem_iff.mp hq)
  ps := fun q hq => h.ps q (p.mem_iff.mp hq)
  ndn := (p.map _).nodup_iff.mpr h.ndn
  ndp := (p.map _).nodup_iff.mpr h.ndp
theorem strs_at {ns : List Str} {i : Nat} {x : V} (h : (ns.map V.str)[i]? = some x) : ∃ z, x = V.str z ∧ ns[i]? = some z := by
  rw [List.getElem?_map] at h
  cases e : ns[i]? with
  | none => rw [e] at h; cases h
  | some z => rw [e] at h; exact ⟨z, (Option.some.inj h).symm, rfl⟩
theorem seqIx {n : Nat} {d : Int} (h0 : 0 ≤ d) (h1 : d < n) : seqIndex? d n = some d.toNat := by
  have h := (ixN_seq (n := n) (i := d) (j := d.toNat) (by unfold ixN; rw [if_pos h0, if_pos h1])).1
  exact h
theorem erase_map : ∀ (ns : List Str) (k : Nat), (ns.map V.str).eraseIdx k = (ns.eraseIdx k).map V.str
  | [], _ => rfl
  | _ :: _, 0 => rfl
  | n :: ns, k + 1 => by
    show V.str n :: (ns.map V.str).eraseIdx k = V.str n :: (ns.eraseIdx k).map V.str
    rw [erase_map ns k]
theorem r_popAt {H : Hp} {Q : VK} {l : Addr} {ns : List Str} {d : Int} (h : H l = some (.lst (ns.map V.str))) (h0 : 0 ≤ d) (h1 : d < ns.length) (hz : ns.length ≤ 100000)
    (q : ∀ z, ns[d.toNat]? = some z → Q (.str z) (upd H l (.lst ((ns.eraseIdx d.toNat).map V.str)))) : rPopAt (.ref l) [.int d] H Q := by
  have hk : d.toNat < ns.length := by omega
  refine ⟨l, ns.map V.str, d, d.toNat, .str ns[d.toNat], rfl, rfl, h, by omega, by omega, by rw [List.length_map]; exact seqIx h0 h1, by rw [List.getElem?_map, List.getElem?_eq_getElem hk]; rfl, ?_⟩
  have e : (ns.map V.str).eraseIdx d.toNat = (ns.eraseIdx d.toNat).map V.str := by
    exact erase_map ns d.toNat
  rw [e]
  exact q _ (List.getElem?_eq_getElem hk)

theorem erase_perm {α : Type} : ∀ {l : List α} {k : Nat} {z : α}, l[k]? = some z → (z :: l.eraseIdx k).Perm l
  | [], _, _, h => by cases h
  | a :: l, 0, z, h => by cases h; exact List.Perm.refl _
  | a :: l, k + 1, z, h => by
    have ih := erase_perm (l := l) (k := k) (z := z) h
    exact (List.Perm.swap a z (l.eraseIdx k)).trans (ih.cons a)
/-- the position of a host -/
def posOf (ks : List (Str × Int)) (z : Str) : Int := ((ks.find? fun p => decide (p.1 = z)).map (·.2)).getD 0
theorem posOf_in : ∀ {ks : List (Str × Int)} {z : Str}, z ∈ ks.map (·.1) → (z, posOf ks z) ∈ ks
  | p :: ks, z, h => by
    by_cases e : p.1 = z
    · have : posOf (p :: ks) z = p.2 := by unfold posOf; rw [List.find?_cons_of_pos (by simp [e])]; rfl
      rw [this, ← e]; exact List.mem_cons_self
    · have h2 : z ∈ ks.map (·.1) := by
        rcases List.mem_cons.mp h with q | q
        · exact absurd q.symm e
        · exact q
      have : posOf (p :: ks) z = posOf ks z := by unfold posOf; rw [List.find?_cons_of_neg (by simp [e])]
      rw [this]; exact List.mem_cons_of_mem _ (posOf_in h2)
theorem posOf_of : ∀ {ks : List (Str × Int)} {z : Str} {n : Int}, (z, n) ∈ ks → (ks.map (·.1)).Nodup → posOf ks z = n
  | p :: ks, z, n, h, nd => by
    rcases List.mem_cons.mp h with e | h
    · unfold posOf; rw [List.find?_cons_of_pos (by simp [← e])]; rw [← e]; rfl
    · have hn := List.nodup_cons.mp nd
      have ne : ¬ p.1 = z := fun e => hn.1 (by show p.1 ∈ _; rw [e]; exact List.mem_map.mpr ⟨_, h, rfl⟩)
      have : posOf (p :: ks) z = posOf ks z := by unfold posOf; rw [List.find?_cons_of_neg (by simp [ne])]
      rw [this]; exact posOf_of h hn.2
theorem posOf_map {ks : List (Str × Int)} (nd : (ks.map (·.1)).Nodup) : (ks.map (·.1)).map (fun z => (z, posOf ks z)) = ks := by
  rw [List.map_map]
  have : ∀ p ∈ ks, ((fun z => (z, posOf ks z)) ∘ fun x => x.1) p = p := fun p hp => by
    show (p.1, posOf ks p.1) = p
    rw [posOf_of (z := p.1) (n := p.2) hp nd]
  rw [List.map_congr_left this]; exact List.map_id _

theorem Paired.app {α β : Type} {F : α → β → Prop} : ∀ {l₁ m₁ : List α} {l₂ m₂ : List β}, Paired F l₁ l₂ → Paired F m₁ m₂ → Paired F (l₁ ++ m₁) (l₂ ++ m₂)
  | _, _, _, _, .nil, k => k
  | _, _, _, _, .cons r t, k => .cons r (Paired.app t k)

/-! ### a rest that is shown once -/
theorem with_e {te : TE} {σ : L2.St} {H : Hp} {Q : VK} (Pq : V → Hp → Prop) (rest : ∀ v H', Pq v H' → Q v H') (go : (∀ v H', Pq v H' → Q v H') → te σ H Q) : te σ H Q := go rest
theorem with_s {t : TS} {σ : L2.St} {H : Hp} {D : Ends} (Pq : L2.St → Hp → Prop) (rest : ∀ σ' H', Pq σ' H' → D.nx σ' H') (go : (∀ σ' H', Pq σ' H' → D.nx σ' H') → t D σ H) : t D σ H := go rest
/-! ### lists of texts, frames, as data -/
def dS (ns : List Str) : List PyData := ns.map PyData.str
theorem dpS {K : PySem.W.Frag} {H : Hp} : ∀ ns : List Str, DpAll K H (ns.map V.str) (dS ns)
  | [] => .nil
  | n :: ns => .cons (.str n) (dpS ns)
theorem canS : ∀ ns : List Str, (∀ z ∈ ns, nmStr z = true) → PyData.canLayAll0 (dS ns) = true
  | [], _ => rfl
  | n :: ns, h => by
    show (PyData.canLay0 (.str n) && PyData.canLayAll0 (dS ns)) = true
    rw [canS ns fun z hz => h z (List.mem_cons_of_mem _ hz), Bool.and_true]
    have hn := h n List.mem_cons_self
    unfold nmStr at hn
    rw [Bool.and_eq_true] at hn
    show (n.cps.all fun c => decide (c < 0x110000)) = true
    rw [← Array.all_toList, List.all_eq_true]
    intro c hc
    have := of_decide_eq_true ((List.all_eq_true.mp hn.2) c hc)
    exact decide_eq_true (by omega)
theorem depS : ∀ ns : List Str, PyData.depthAll (dS ns) = 0
  | [] => rfl
  | n :: ns => by
    show max (PyData.depth (.str n)) (PyData.depthAll (dS ns)) = 0
    rw [depS ns]; rfl
theorem shS (ns : List Str) (h : ∀ z ∈ ns, nmStr z = true) : SeqAt.shaped (.list (dS ns)) = true := by
  unfold SeqAt.shaped
  rw [Bool.and_eq_true]
  refine ⟨canS ns h, decide_eq_true ?_⟩
  show PyData.depthAll (dS ns) + 1 ≤ 64
  rw [depS]; decide
def tS (p : Str × Str) : PyData := .tuple [.str p.1, .str p.2]
/-- frames: a list of tuples of two texts each -/
def TupsAt (H : Hp) (ts : List Addr) (ps : List (Str × Str)) : Prop := Paired (fun t p => H t = some (.tup [.str p.1, .str p.2])) ts ps
theorem TupsAt.mono {H H' : Hp} {ts : List Addr} {ps : List (Str × Str)} (e : Same H H') (h : TupsAt H ts ps) : TupsAt H' ts ps := L2.Paired.mapP h fun _ _ q => e _ _ q
theorem TupsAt.dp {K : PySem.W.Frag} {H : Hp} : ∀ {ts : List Addr} {ps : List (Str × Str)}, TupsAt H ts ps → DpAll K H (ts.map V.ref) (ps.map tS)
  | _, _, .nil => .nil
  | _, _, .cons r t => .cons (.tup (SqT.of r) (.cons (.str _) (.cons (.str _) .nil))) (TupsAt.dp t)
theorem canT : ∀ ps : List (Str × Str), (∀ p ∈ ps, nmStr p.1 = true ∧ nmStr p.2 = true) → PyData.canLayAll0 (ps.map tS) = true
  | [], _ => rfl
  | p :: ps, h => by
    show (PyData.canLayAll0 (dS [p.1, p.2]) && PyData.canLayAll0 (ps.map tS)) = true
    rw [canT ps fun q hq => h q (List.mem_cons_of_mem _ hq), Bool.and_true]
    have := h p List.mem_cons_self
    exact canS _ fun z hz => by
      rcases List.mem_cons.mp hz with e | hz
      · rw [e]; exact this.1
      · rw [List.mem_singleton.mp hz]; exact this.2
theorem depT : ∀ ps : List (Str × Str), PyData.depthAll (ps.map tS) ≤ 1
  | [] => by decide
  | p :: ps => by
    have ih := depT ps
    show max (PyData.depthAll (dS [p.1, p.2]) + 1) (PyData.depthAll (ps.map tS)) ≤ 1
    rw [depS]
    omega
theorem shT (ps : List (Str × Str)) (h : ∀ p ∈ ps, nmStr p.1 = true ∧ nmStr p.2 = true) : SeqAt.shaped (.list (ps.map tS)) = true := by
  unfold SeqAt.shaped
  rw [Bool.and_eq_true]
  refine ⟨canT ps h, decide_eq_true ?_⟩
  have := depT ps
  show PyData.depthAll (ps.map tS) + 1 ≤ 64
  omega
theorem eqv_nil (ds : List PyData) : PyData.eqv (.list ds) (.list []) = ds.isEmpty := by
  cases ds <;> rfl

theorem paired_last {α β : Type} {F : α → β → Prop} : ∀ {xs : List α} {ys : List β}, Paired F xs ys → ys ≠ [] → ∃ xs' x ys' y, xs = xs' ++ [x] ∧ ys = ys' ++ [y] ∧ F x y
  | _, _, .nil, h => absurd rfl h
  | [x], [y], .cons r .nil, _ => ⟨[], x, [], y, rfl, rfl, r⟩
  | x :: x2 :: xs, y :: y2 :: ys, .cons r t, _ => by
    obtain ⟨xs', u, ys', v, e1, e2, q⟩ := paired_last t (by simp)
    exact ⟨x :: xs', u, y :: ys', v, by rw [e1]; rfl, by rw [e2]; rfl, q⟩
theorem isEmpty_nil {α : Type} {l : List α} (h : l.isEmpty = true) : l = [] := by cases l with
  | nil => rfl
  | cons _ _ => cases h
theorem dec_str (z s : Str) : decide (V.str z = V.str s) = decide (z = s) := by
  by_cases e : z = s
  · rw [e, decide_eq_true rfl, decide_eq_true rfl]
  · rw [decide_eq_false e, decide_eq_false fun q => e (by injection q)]
end FL
namespace FL
open PySem PySem.Spec PyProof.Rows L2

/-! ### data that repr can write: short numbers, a bounded weight, a bounded depth -/
structure DOk (d : PyData) (W k : Nat) : Prop where
  ls : d.leavesShort 40 = true
  sh : d.showable = true
  wt : d.weight ≤ W
  dp : d.depth ≤ k
structure DOkA (ds : List PyData) (W k : Nat) : Prop where
  ls : PyData.leavesShortAll 40 ds = true
  sh : PyData.showableAll ds = true
  wt : PyData.weightAll ds ≤ W
  dp : PyData.depthAll ds ≤ k
structure DOkV (ds : List (PyData × PyData)) (W k : Nat) : Prop where
  ls : PyData.leavesShortKv 40 ds = true
  sh : PyData.showableKv ds = true
  wt : PyData.weightKv ds ≤ W
  dp : PyData.depthKv ds ≤ k
theorem DOk.more {d : PyData} {W W' k k' : Nat} (h : DOk d W k) (hw : W ≤ W') (hk : k ≤ k') : DOk d W' k' := ⟨h.ls, h.sh, Nat.le_trans h.wt hw, Nat.le_trans h.dp hk⟩
theorem DOkA.more {d : List PyData} {W W' k k' : Nat} (h : DOkA d W k) (hw : W ≤ W') (hk : k ≤ k') : DOkA d W' k' := ⟨h.ls, h.sh, Nat.le_trans h.wt hw, Nat.le_trans h.dp hk⟩
theorem DOk.non : DOk .none 0 0 := ⟨rfl, rfl, Nat.le_refl _, Nat.le_refl _⟩
theorem DOk.bl (b : Bool) : DOk (.bool b) 0 0 := ⟨rfl, rfl, Nat.le_refl _, Nat.le_refl _⟩
theorem num_len {i : Int} (h0 : -(10 ^ 39) < i) (h1 : i < 10 ^ 39) : (Str.ofString (toString i)).length ≤ 40 := by
  by_cases h : 0 ≤ i
  · exact Nat.le_trans (toString_length_le h (k := 39) (by decide) h1) (by decide)
  · cases i with
    | ofNat n => exact absurd (Int.natCast_nonneg n) h
    | negSucc n =>
      have e : toString (Int.negSucc n) = "-" ++ toString ((n + 1 : Nat) : Int) := rfl
      have h2 := toString_length_le (v := ((n + 1 : Nat) : Int)) (by omega) (k := 39) (by decide) (by omega)
      rw [PyProof.Rows.ofString_length] at h2 ⊢
      rw [e, String.toList_append, List.length_append]
      have e1 : ("-" : String).toList.length = 1 := by decide
      omega
theorem DOk.int {i : Int} (h0 : -(10 ^ 39) < i) (h1 : i < 10 ^ 39) : DOk (.int i) 130 0 := by
  refine ⟨?_, ?_, ?_, Nat.le_refl _⟩
  · show decide ((PyData.shown (.int i)).length ≤ 40) = true
    refine decide_eq_true ?_
    simp only [PyData.shown]
    exact num_len h0 h1
  · show decide (i.natAbs.log2 < 1920) = true
    refine decide_eq_true (Nat.lt_of_lt_of_le (PySem.Flt.log2_lt_of (k := 200) (by decide) ?_) (by decide))
    have : (10 : Nat) ^ 39 < 2 ^ 200 := by decide
    omega
  · show (if i == 0 then 0 else i.natAbs.log2 + 1) ≤ 130
    split
    · decide
    · have h2 : i.natAbs.log2 < 130 := PySem.Flt.log2_lt_of (k := 130) (by decide) (by have : (10 : Nat) ^ 39 < 2 ^ 130 := by decide
                                                                                       omega)
      omega
theorem DOk.str {z : Str} (h : ∀ c ∈ z.cps.toList, c < 16 ^ 8) : DOk (.str z) z.cps.size 0 := by
  refine ⟨?_, rfl, Nat.le_refl _, Nat.le_refl _⟩
  show (z.cps.toList.all fun c => decide (c < 16 ^ 8)) = true
  exact List.all_eq_true.mpr fun c hc => decide_eq_true (h c hc)
theorem nm_small {z : Str} (h : nmStr z = true) : ∀ c ∈ z.cps.toList, c < 16 ^ 8 := fun c hc => by
  unfold nmStr at h
  rw [Bool.and_eq_true] at h
  have := of_decide_eq_true ((List.all_eq_true.mp h.2) c hc)
  have e : (16 : Nat) ^ 8 = 4294967296 := by decide
  omega
theorem DOk.nm {z : Str} (h : nmStr z = true) : DOk (.str z) 8 0 := (DOk.str (nm_small h)).more (nm_len h).2 (Nat.le_refl _)
theorem DOkA.nil {k : Nat} : DOkA [] 0 k := ⟨rfl, rfl, Nat.le_refl _, Nat.zero_le _⟩
theorem DOkA.cons {d : PyData} {ds : List PyData} {w W k : Nat} (h : DOk d w k) (t : DOkA ds W k) : DOkA (d :: ds) (w + 1 + W) k := by
  refine ⟨?_, ?_, ?_, ?_⟩
  · simp only [PyData.leavesShortAll, Bool.and_eq_true]; exact ⟨h.ls, t.ls⟩
  · simp only [PyData.showableAll, Bool.and_eq_true]; exact ⟨h.sh, t.sh⟩
  · simp only [PyData.weightAll]; have := h.wt; have := t.wt; omega
  · simp only [PyData.depthAll]; have := h.dp; have := t.dp; omega
theorem DOkA.append {ds es : List PyData} {W U k : Nat} (h : DOkA ds W k) (t : DOkA es U k) : DOkA (ds ++ es) (W + U) k := by
  induction ds generalizing W with
  | nil => exact (t.more (by omega) (Nat.le_refl _))
  | cons d ds ih =>
    have h1 : DOk d d.weight k := ⟨by have := h.ls; simp only [PyData.leavesShortAll, Bool.and_eq_true] at this; exact this.1, by have := h.sh; simp only [PyData.showableAll, Bool.and_eq_true] at this; exact this.1, Nat.le_refl _, by have := h.dp; simp only [PyData.depthAll] at this; omega⟩
    have h2 : DOkA ds (PyData.weightAll ds) k := ⟨by have := h.ls; simp only [PyData.leavesShortAll, Bool.and_eq_true] at this; exact this.2, by have := h.sh; simp only [PyData.showableAll, Bool.and_eq_true] at this; exact this.2, Nat.le_refl _, by have := h.dp; simp only [PyData.depthAll] at this; omega⟩
    refine (DOkA.cons h1 (ih h2)).more ?_ (Nat.le_refl _)
    have := h.wt
    simp only [PyData.weightAll] at this
    omega
theorem DOkA.all {w k : Nat} : ∀ {ds : List PyData}, (∀ d ∈ ds, DOk d w k) → DOkA ds (ds.length * (w + 1)) k
  | [], _ => DOkA.nil.more (by omega) (Nat.le_refl _)
  | d :: ds, h => (DOkA.cons (h d List.mem_cons_self) (DOkA.all fun e he => h e (List.mem_cons_of_mem _ he))).more (by rw [List.length_cons, Nat.succ_mul]; omega) (Nat.le_refl _)
theorem DOk.list {ds : List PyData} {W k : Nat} (h : DOkA ds W k) : DOk (.list ds) W (k + 1) :=
  ⟨by simp only [PyData.leavesShort]; exact h.ls, by simp only [PyData.showable]; exact h.sh, by simp only [PyData.weight]; exact h.wt, by simp only [PyData.depth]; have := h.dp; omega⟩
theorem DOk.tuple {ds : List PyData} {W k : Nat} (h : DOkA ds W k) : DOk (.tuple ds) W (k + 1) :=
  ⟨by simp only [PyData.leavesShort]; exact h.ls, by simp only [PyData.showable]; exact h.sh, by simp only [PyData.weight]; exact h.wt, by simp only [PyData.depth]; have := h.dp; omega⟩
theorem DOkV.nil {k : Nat} : DOkV [] 0 k := ⟨rfl, rfl, Nat.le_refl _, Nat.zero_le _⟩
theorem DOkV.cons {c d : PyData} {ds : List (PyData × PyData)} {v w W k : Nat} (g : DOk c v k) (h : DOk d w k) (t : DOkV ds W k) : DOkV ((c, d) :: ds) (v + w + 2 + W) k := by
  refine ⟨?_, ?_, ?_, ?_⟩
  · simp only [PyData.leavesShortKv, Bool.and_eq_true]; exact ⟨⟨g.ls, h.ls⟩, t.ls⟩
  · simp only [PyData.showableKv, Bool.and_eq_true]; exact ⟨⟨g.sh, h.sh⟩, t.sh⟩
  · simp only [PyData.weightKv]; have := g.wt; have := h.wt; have := t.wt; omega
  · simp only [PyData.depthKv]; have := g.dp; have := h.dp; have := t.dp; omega
theorem DOk.dict {ds : List (PyData × PyData)} {W k : Nat} (h : DOkV ds W k) : DOk (.dict ds) W (k + 1) :=
  ⟨by simp only [PyData.leavesShort]; exact h.ls, by simp only [PyData.showable]; exact h.sh, by simp only [PyData.weight]; exact h.wt, by simp only [PyData.depth]; have := h.dp; omega⟩
theorem DOk.fits {d : PyData} {W k : Nat} (h : DOk d W k) (hw : W ≤ 399000) : d.shown.length ≤ sizeLine := by
  have h1 := PyData.shown_le 40 (by decide) d h.ls
  have h2 : (40 + 2) * d.weight ≤ 42 * 399000 := Nat.mul_le_mul (by decide) (Nat.le_trans h.wt hw)
  rw [sizeLine_eq]
  omega

/-! ### values of such data -/
def Dx (F : Hp) (v : V) (W k : Nat) : Prop := ∃ d, Dt F v d ∧ DOk d W k
def DxA (F : Hp) (vs : List V) (W k : Nat) : Prop := ∃ ds, DtAll F vs ds ∧ DOkA ds W k
theorem Dx.mono {F F' : Hp} {v : V} {W k : Nat} (e : Same F F') (h : Dx F v W k) : Dx F' v W k := let ⟨d, h1, h2⟩ := h; ⟨d, h1.mono e, h2⟩
theorem Dx.more {F : Hp} {v : V} {W W' k k' : Nat} (h : Dx F v W k) (hw : W ≤ W') (hk : k ≤ k') : Dx F v W' k' := let ⟨d, h1, h2⟩ := h; ⟨d, h1, h2.more hw hk⟩
theorem DxA.mono {F F' : Hp} {v : List V} {W k : Nat} (e : Same F F') (h : DxA F v W k) : DxA F' v W k := let ⟨d, h1, h2⟩ := h; ⟨d, h1.mono e, h2⟩
theorem DxA.more {F : Hp} {v : List V} {W W' k k' : Nat} (h : DxA F v W k) (hw : W ≤ W') (hk : k ≤ k') : DxA F v W' k' := let ⟨d, h1, h2⟩ := h; ⟨d, h1, h2.more hw hk⟩
section
variable {F : Hp} {v : V} {vs us : List V} {w W U k : Nat} {a : Addr}
theorem Dx.non : Dx F .non 0 0 := ⟨_, .non, .non⟩
theorem Dx.bl (b : Bool) : Dx F (.bl b) 0 0 := ⟨_, .bl b, .bl b⟩
theorem Dx.int {i : Int} (h0 : -(10 ^ 39) < i) (h1 : i < 10 ^ 39) : Dx F (.int i) 130 0 := ⟨_, .int i, .int h0 h1⟩
theorem Dx.nm {z : Str} (h : nmStr z = true) : Dx F (.str z) 8 0 := ⟨_, .str z, .nm h⟩
theorem Dx.str {z : Str} (h : ∀ c ∈ z.cps.toList, c < 16 ^ 8) : Dx F (.str z) z.cps.size 0 := ⟨_, .str z, .str h⟩
theorem DxA.nil : DxA F [] 0 k := ⟨_, .nil, .nil⟩
theorem DxA.cons (h : Dx F v w k) (t : DxA F vs W k) : DxA F (v :: vs) (w + 1 + W) k := let ⟨_, h1, h2⟩ := h; let ⟨_, t1, t2⟩ := t; ⟨_, .cons h1 t1, .cons h2 t2⟩
theorem DtAll.append {H : Hp} : ∀ {vs us : List V} {ds es : List PyData}, DtAll H vs ds → DtAll H us es → DtAll H (vs ++ us) (ds ++ es)
  | _, _, _, _, .nil, k => k
  | _, _, _, _, .cons h t, k => .cons h (DtAll.append t k)
theorem DxA.append (h : DxA F vs W k) (t : DxA F us U k) : DxA F (vs ++ us) (W + U) k := let ⟨_, h1, h2⟩ := h; let ⟨_, t1, t2⟩ := t; ⟨_, DtAll.append h1 t1, h2.append t2⟩
theorem DxA.all : ∀ {vs : List V}, (∀ v ∈ vs, Dx F v w k) → DxA F vs (vs.length * (w + 1)) k
  | [], _ => DxA.nil.more (by omega) (Nat.le_refl _)
  | v :: vs, h => (DxA.cons (h v List.mem_cons_self) (DxA.all fun e he => h e (List.mem_cons_of_mem _ he))).more (by rw [List.length_cons, Nat.succ_mul]; omega) (Nat.le_refl _)
theorem Dx.lst (h : F a = some (.lst vs)) (t : DxA F vs W k) : Dx F (.ref a) W (k + 1) := let ⟨_, t1, t2⟩ := t; ⟨_, .lst h t1, .list t2⟩
theorem Dx.tup (h : F a = some (.tup vs)) (t : DxA F vs W k) : Dx F (.ref a) W (k + 1) := let ⟨_, t1, t2⟩ := t; ⟨_, .tup h t1, .tuple t2⟩
theorem line_kv : ∀ (ks : List (Str × Int)), (∀ p ∈ ks, nmStr p.1 = true) → (∀ p ∈ ks, -(10 ^ 30) ≤ p.2 ∧ p.2 ≤ 10 ^ 30) → ∃ ds, DtKv F (lineK ks) ds ∧ DOkV ds (ks.length * 140) 0
  | [], _, _ => ⟨[], .nil, .nil⟩
  | p :: ks, h1, h2 => by
    obtain ⟨ds, q1, q2⟩ := line_kv ks (fun x hx => h1 x (List.mem_cons_of_mem _ hx)) fun x hx => h2 x (List.mem_cons_of_mem _ hx)
    have b := h2 p List.mem_cons_self
    have e : (10 : Int) ^ 30 < 10 ^ 39 := by decide
    refine ⟨(.str p.1, .int p.2) :: ds, .cons (k := .inr p.1) (.int p.2) q1, ?_⟩
    have := DOkV.cons (DOk.nm (h1 p List.mem_cons_self)) (DOk.int (i := p.2) (by omega) (by omega)) q2
    exact ⟨this.ls, this.sh, Nat.le_trans this.wt (by rw [List.length_cons, Nat.succ_mul]; omega), this.dp⟩
theorem Dx.line {ks : List (Str × Int)} (h : F a = some (.dK (lineK ks))) (ok : LineOk ks) : Dx F (.ref a) 5600 1 := by
  obtain ⟨ds, q1, q2⟩ := line_kv (F := F) ks ok.nm ok.ps
  exact ⟨_, .dct h q1, (DOk.dict q2).more (by have := ok.len2; omega) (Nat.le_refl _)⟩
theorem Dx.tS {p : Str × Str} {t : Addr} (h : F t = some (.tup [.str p.1, .str p.2])) (h1 : nmStr p.1 = true) (h2 : nmStr p.2 = true) : Dx F (.ref t) 18 1 :=
  (Dx.tup h (.cons (.nm h1) (.cons (.nm h2) .nil))).more (by decide) (Nat.le_refl _)
end

/-! ### many new things, none of them written again -/
def Has (F : Hp) (l : List (Addr × HO)) : Prop := ∀ x ∈ l, F x.1 = some x.2
section
variable {H H1 F F0 : Hp} {L l : List (Addr × HO)} {p a : Addr} {o : HO}
theorem Has.nil : Has F [] := fun _ h => nomatch h
theorem Has.get (h : Has F l) (i : Nat) (e : l[i]? = some (a, o) := by rfl) : F a = some o := h _ (List.mem_of_getElem? e)
theorem Has.mono {F' : Hp} (s : Same F F') (h : Has F l) : Has F' l := fun x hx => s _ _ (h x hx)
theorem Led.nh (D : Led H F L) (s : Same F0 F) (hh : Has F l) (hp : H p = none) (e : upd H p o = H1) : ∃ F1, Same F0 F1 ∧ Has F1 ((p, o) :: l) ∧ Led H1 F1 L := by
  obtain ⟨F1, s1, h1, _, D1⟩ := D.nf hp e
  refine ⟨F1, s.trans s1, fun x hx => ?_, D1⟩
  rcases List.mem_cons.mp hx with e | hx
  · rw [e]; exact h1
  · exact s1 _ _ (hh x hx)
theorem Led.after {H' : Hp} (D : Led H F L) (s : Same H H') : Led H' F L := ⟨D.ext.trans s, fun x hx => ⟨s _ _ (D.ent x hx).1, (D.ent x hx).2⟩, D.nd⟩
end
theorem y_disp {trs : List (TE × TE)} {σ : L2.St} {H : Hp} {Q : VK} (q : ∀ p, H p = none → tPairs trs σ (upd H p (.dK [])) fun ps H2 => H2 p = some (.dK []) ∧ ∃ kvs : List (Key × V), ps = kvs.map (fun kv => (kV kv.1, kv.2)) ∧ kvs.length ≤ 15 ∧ Q (.ref p) (upd H2 p (.dK (mergeK [] kvs)))) : tDisp trs σ H Q := q
end FL
namespace FL
open PySem PySem.Spec PyProof.Rows L2

/-! ### frames that are none, lists of frames with one that is none -/
section
variable {F : Hp} {ks : List (Str × Int)} {t l : Addr} {u v x : V} {xs : List V} {z : Str} {s s' : String} {W k : Nat}
theorem host_no (h : z ∉ ks.map (·.1)) : isHost ks (.str z) = false := by
  show (ks.any fun p => decide (p.1 = z)) = false
  rw [List.any_eq_false]
  intro p hp e
  exact h (List.mem_map.mpr ⟨p, hp, of_decide_eq_true e⟩)
theorem host_is (h : z ∈ ks.map (·.1)) : isHost ks (.str z) = true := by
  obtain ⟨p, hp, e⟩ := List.mem_map.mp h
  exact List.any_eq_true.mpr ⟨p, hp, decide_eq_true e⟩
theorem frP (h : F t = some (.tup [u, v])) (hu : Ar F u s) (hv : Ar F v s') (e : (isHost ks u && isHost ks v && !decide (u = v)) = false) : FrB ks F (.ref t) false := e ▸ .pair h hu hv
theorem frE (h : F t = some (.tup [.str z, .str z])) : FrB ks F (.ref t) false := frP h (.str _) (.str _) (by simp)
theorem frR (h : F t = some (.tup [u, v])) (hu : Ar F u s) (hv : Ar F v s') (e : isHost ks v = false) : FrB ks F (.ref t) false := frP h hu hv (by rw [e, Bool.and_false, Bool.false_and])
theorem frLf (h : F t = some (.tup [u, v])) (hu : Ar F u s) (hv : Ar F v s') (e : isHost ks u = false) : FrB ks F (.ref t) false := frP h hu hv (by rw [e, Bool.false_and, Bool.false_and])
theorem frT (h : F t = some (.tup xs)) (n : xs.length ≠ 2) (m : xs.length ≤ 100000) : FrB ks F (.ref t) false :=
  .no (.tup h) (fun t' u v e q => by cases e; rw [h] at q; cases q; exact n rfl) (fun t' ys e q => by cases e; rw [h] at q; cases q; exact m)
theorem frL (h : F t = some (.lst xs)) : FrB ks F (.ref t) false :=
  .no (.lst h) (fun t' u v e q => by cases e; rw [h] at q; cases q) (fun t' ys e q => by cases e; rw [h] at q; cases q)
theorem frD {kvs : List (Key × V)} (h : F t = some (.dK kvs)) : FrB ks F (.ref t) false :=
  .no (.dK h) (fun t' u v e q => by cases e; rw [h] at q; cases q) (fun t' ys e q => by cases e; rw [h] at q; cases q)
theorem frA (h : Ar F x s) (n : ∀ a, x ≠ .ref a) : FrB ks F x false := .no h (fun t _ _ e _ => n t e) (fun t _ e _ => absurd e (n t))
theorem frs_true : ∀ {xs : List V}, (∀ v ∈ xs, FrB ks F v true) → ∃ bs, Paired (FrB ks F) xs bs ∧ bs.all id = true
  | [], _ => ⟨[], .nil, rfl⟩
  | x :: xs, h => by
    obtain ⟨bs, p, e⟩ := frs_true fun v hv => h v (List.mem_cons_of_mem _ hv)
    exact ⟨true :: bs, .cons (h x List.mem_cons_self) p, e⟩
theorem frs_any : ∀ {xs : List V}, (∀ v ∈ xs, ∃ b, FrB ks F v b) → ∃ bs, Paired (FrB ks F) xs bs
  | [], _ => ⟨[], .nil⟩
  | x :: xs, h => by
    obtain ⟨bs, p⟩ := frs_any fun v hv => h v (List.mem_cons_of_mem _ hv)
    obtain ⟨b, q⟩ := h x List.mem_cons_self
    exact ⟨b :: bs, .cons q p⟩
theorem frs_false : ∀ {xs : List V}, x ∈ xs → FrB ks F x false → (∀ v ∈ xs, ∃ b, FrB ks F v b) → ∃ bs, Paired (FrB ks F) xs bs ∧ bs.all id = false
  | y :: xs, hx, f, h => by
    rcases List.mem_cons.mp hx with e | hx
    · subst e
      obtain ⟨bs, p⟩ := frs_any fun v hv => h v (List.mem_cons_of_mem _ hv)
      exact ⟨false :: bs, .cons f p, rfl⟩
    · obtain ⟨bs, p, e⟩ := frs_false hx f fun v hv => h v (List.mem_cons_of_mem _ hv)
      obtain ⟨b, q⟩ := h y List.mem_cons_self
      exact ⟨b :: bs, .cons q p, by rw [List.all_cons, e, Bool.and_false]⟩
theorem framesT (h : F l = some (.lst xs)) (n : xs.length ≤ 300) (q : ∀ v ∈ xs, FrB ks F v true) : FramesB ks F (.ref l) true := by
  obtain ⟨bs, p, e⟩ := frs_true q
  have := FramesB.lst h n p
  rw [e] at this
  exact this
theorem framesF (h : F l = some (.lst xs)) (n : xs.length ≤ 300) (hx : x ∈ xs) (f : FrB ks F x false) (q : ∀ v ∈ xs, ∃ b, FrB ks F v b) : FramesB ks F (.ref l) false := by
  obtain ⟨bs, p, e⟩ := frs_false hx f q
  have := FramesB.lst h n p
  rw [e] at this
  exact this
theorem pr_true {p : Str × Str} (h : F t = some (.tup [.str p.1, .str p.2])) (h1 : p.1 ∈ ks.map (·.1)) (h2 : p.2 ∈ ks.map (·.1)) (n : p.1 ≠ p.2) : FrB ks F (.ref t) true := by
  have := FrB.pair (ks := ks) h (.str _) (.str _)
  rw [host_is h1, host_is h2, decide_eq_false (fun e => n (by injection e))] at this
  exact this
theorem sendsT : ∀ {ts : List Addr} {ps : List (Str × Str)}, TupsAt F ts ps → (∀ p ∈ ps, p.1 ∈ ks.map (·.1) ∧ p.2 ∈ ks.map (·.1) ∧ p.1 ≠ p.2) → ∀ v ∈ ts.map V.ref, FrB ks F v true
  | _, _, .nil, _, v, hv => nomatch hv
  | t :: ts, p :: ps, .cons r tp, so, v, hv => by
    rcases List.mem_cons.mp hv with e | hv
    · rw [e]
      have q := so p List.mem_cons_self
      exact pr_true r q.1 q.2.1 q.2.2
    · exact sendsT tp (fun p hp => so p (List.mem_cons_of_mem _ hp)) v hv
theorem sendsX : ∀ {ts : List Addr} {ps : List (Str × Str)}, TupsAt F ts ps → (∀ p ∈ ps, nmStr p.1 = true ∧ nmStr p.2 = true) → ∀ v ∈ ts.map V.ref, Dx F v 18 1
  | _, _, .nil, _, v, hv => nomatch hv
  | t :: ts, p :: ps, .cons r tp, so, v, hv => by
    rcases List.mem_cons.mp hv with e | hv
    · rw [e]
      have q := so p List.mem_cons_self
      exact Dx.tS r q.1 q.2
    · exact sendsX tp (fun p hp => so p (List.mem_cons_of_mem _ hp)) v hv
/-- the sends with one wrong item among them -/
theorem mixF {a : Nat} {fs : List V} (h : F l = some (.lst (fs.take a ++ [x] ++ fs.drop a))) (hl : fs.length ≤ 299) (hf : ∀ v ∈ fs, FrB ks F v true) (f : FrB ks F x false) : FramesB ks F (.ref l) false := by
  refine framesF h ?_ (x := x) (by simp) f fun v hv => ?_
  · rw [List.length_append, List.length_append, List.length_take, List.length_drop, List.length_singleton]; omega
  · rcases List.mem_append.mp hv with hv | hv
    · rcases List.mem_append.mp hv with hv | hv
      · exact ⟨_, hf v (List.mem_of_mem_take hv)⟩
      · rw [List.mem_singleton.mp hv]; exact ⟨_, f⟩
    · exact ⟨_, hf v (List.mem_of_mem_drop hv)⟩
theorem mixX {a : Nat} {fs : List V} (h : F l = some (.lst (fs.take a ++ [x] ++ fs.drop a))) (hl : fs.length ≤ 299) (hf : ∀ v ∈ fs, Dx F v 18 1) (f : Dx F x 200 3) : Dx F (.ref l) 6000 4 := by
  refine (Dx.lst h (DxA.append (DxA.append (DxA.all (w := 18) (k := 3) fun v hv => (hf v (List.mem_of_mem_take hv)).more (Nat.le_refl _) (by decide)) (DxA.cons f DxA.nil)) (DxA.all (w := 18) (k := 3) fun v hv => (hf v (List.mem_of_mem_drop hv)).more (Nat.le_refl _) (by decide)))).more ?_ (Nat.le_refl _)
  rw [List.length_take, List.length_drop]; omega
theorem xN (h : nmStr z = true) : Dx F (.str z) 8 k := (Dx.nm h).more (Nat.le_refl _) (Nat.zero_le _)
theorem xS (h : ∀ c ∈ z.cps.toList, c < 16 ^ 8 := by decide) (e : z.cps.size ≤ 8 := by decide) : Dx F (.str z) 8 k := (Dx.str h).more e (Nat.zero_le _)
theorem xI {i : Int} (h0 : -(10 ^ 39) < i := by decide) (h1 : i < 10 ^ 39 := by decide) : Dx F (.int i) 130 k := (Dx.int h0 h1).more (Nat.le_refl _) (Nat.zero_le _)
theorem xB (b : Bool) : Dx F (.bl b) 0 k := (Dx.bl b).more (Nat.le_refl _) (Nat.zero_le _)
theorem xO : Dx F .non 0 k := Dx.non.more (Nat.le_refl _) (Nat.zero_le _)
theorem xD (h : F t = some (.dK [])) : Dx F (.ref t) 0 (k + 1) := ⟨_, .dct h .nil, DOk.dict (DOkV.nil (k := k))⟩
end
theorem alN {α : Type} {p : α → Prop} : ∀ x ∈ ([] : List α), p x := fun _ h => nomatch h
theorem alC {α : Type} {p : α → Prop} {a : α} {l : List α} (h : p a) (t : ∀ x ∈ l, p x) : ∀ x ∈ a :: l, p x := List.forall_mem_cons.mpr ⟨h, t⟩
theorem alA {α : Type} {p : α → Prop} {l m : List α} (h : ∀ x ∈ l, p x) (t : ∀ x ∈ m, p x) : ∀ x ∈ l ++ m, p x := fun x hx => (List.mem_append.mp hx).elim (h x) (t x)
theorem alR {α : Type} {p : α → Prop} {l : List α} {n : Nat} (h : ∀ x ∈ l, p x) : ∀ x ∈ (List.replicate n l).flatten, p x := fun x hx => by
  obtain ⟨m, hm, q⟩ := List.mem_flatten.mp hx
  rw [List.eq_of_mem_replicate hm] at q
  exact h x q
theorem flat_len {α : Type} (n : Nat) (x : α) : ((List.replicate n [x]).flatten).length = n := by simp
theorem Led.froz {H F : Hp} {L : List (Addr × HO)} {a : Addr} {o : HO} (D : Led H F ((a, o) :: L)) : ∃ F1, Same F F1 ∧ Has F1 [(a, o)] ∧ Led H F1 L :=
  ⟨upd F a o, D.grow, fun x hx => by rw [List.mem_singleton.mp hx]; exact upd_same, D.freeze⟩
theorem bit300 (q : Bool) (n : Prop) (h : q = true → n) : ∃ j : Nat, j ≤ 300 ∧ (300 * (if q = true then (1 : Int) else 0)) = (j : Int) ∧ (j = 0 ∨ n) := by
  cases q with
  | true => exact ⟨300, by decide, by simp, .inr (h rfl)⟩
  | false => exact ⟨0, by decide, by simp, .inl rfl⟩
theorem y_disp1 {σ : L2.St} {H : Hp} {Q : VK} {k : Str} {v : V} (q : ∀ p, H p = none → Q (.ref p) (upd H p (.dK [(.inr k, v)]))) : tDisp [(tC (.str k), tC v)] σ H Q := y_disp fun p np => by
  have e : upd (upd H p (.dK [])) p (.dK [(.inr k, v)]) = upd H p (.dK [(.inr k, v)]) := by
    funext b
    by_cases h : b = p
    · rw [h, upd_same, upd_same]
    · rw [upd_ne h, upd_ne h, upd_ne h]
  have h := q p np
  rw [← e] at h
  exact ⟨upd_same, [(.inr k, v)], rfl, by simp, h⟩
theorem oneA : LineOk [("a", 0)] := ⟨by decide, by decide, by decide, by decide, by decide, by decide⟩
theorem Ar.lock {H : Hp} {x : V} {s : String} {a : Addr} {o : HO} (h : Ar H x s) (n : x ≠ .ref a) : Ar (upd H a o) x s := by
  cases h with
  | non => exact .non
  | bl b => exact .bl b
  | int i => exact .int i
  | str x => exact .str x
  | lst h => exact .lst (by rw [upd_ne (fun e => n (by rw [e]))]; exact h)
  | tup h => exact .tup (by rw [upd_ne (fun e => n (by rw [e]))]; exact h)
  | dK h => exact .dK (by rw [upd_ne (fun e => n (by rw [e]))]; exact h)
end FL
namespace FL
open PySem PySem.Spec PyProof.Rows L2

/-! ### a law's def, called by nobody else: no repr runs -/
section
variable {P : Program} {w : World} {K : PySem.W.Frag} {mg : Str → Option Value} {k : Nat} {f a : Addr} {nm x : Str} {sp : Sp} {z : Shared} {us : List Value} {ns : List Int}
/-- what the script's list is, in the abstract -/
theorem pick_script (ha : z.heap.get? a = some { cls := .type "list", data := .seq us.toArray }) (hi : IntsAre us ns) (hl : ns.length ≤ sizeLine) (kx : K.In z.heap) :
    ∃ H : Hp, HOk P w H z.heap ∧ SqL K H a (ns.map V.int) ∧ ∀ b o, H b = some o → b = a ∧ K.lookup a = none ∧ ∃ o' xs, o = .frz o' (.lst xs) := by
  have rv := vals_ints hi
  cases hk : K.lookup a with
  | some o =>
    have e := (kx a o hk).symm.trans ha
    cases e
    refine ⟨fun _ => none, (fun b o q => nomatch q), .inr ⟨_, us.toArray, _, hk, rfl, rfl, rfl, ?_, ?_⟩, fun b o q => nomatch q⟩
    · rw [List.size_toArray, hi.length]; exact hl
    · simpa using rv
  | none =>
    refine ⟨upd (fun _ => none) a (.frz { cls := .type "list", data := .seq us.toArray } (.lst (ns.map V.int))), fun b o q => ?_, .inl (.inr ⟨_, upd_same⟩), fun b o q => ?_⟩
    · by_cases hb : b = a
      · subst hb
        rw [upd_same] at q
        cases q
        exact ⟨ha, by rw [List.length_map]; exact hl, us, _, rv, ha⟩
      · rw [upd_ne hb] at q; cases q
    · by_cases hb : b = a
      · subst hb
        rw [upd_same] at q
        cases q
        exact ⟨rfl, rfl, _, _, rfl⟩
      · rw [upd_ne hb] at q; cases q
theorem run_script (M : L2.Mod K mg z.heap) (hsm : ∃ o es ep, z.heap.get? sysModules = some o ∧ o.data = .dict es ep) (hg : z.gens = #[])
    (ha : z.heap.get? a = some { cls := .type "list", data := .seq us.toArray }) (hi : IntsAre us ns) (hl : ns.length ≤ sizeLine) (hr : Room k callerA)
    (hf : mg nm = some (.ref f)) (F : ∀ base : Heap, (∃ o, base.get? sysModules = some o) → DfnG P w K mg base nm [x] k sp)
    (hsp : ∀ H : Hp, SqL K H a (ns.map V.int) → sp [.ref a] H (fun v _ => v = .bl true) fun _ _ _ => False) :
    codeAny (model P w) callerA (.call (.ref f) ⟨[.ref a], []⟩) (fun r s' => r = .ok (.ret (.bool true)) ∧ OldK z.heap s'.heap ∧ s'.os = z.os ∧ AllBare s'.gens) z := by
  obtain ⟨H, ok, hs, own⟩ := pick_script (P := P) (w := w) ha hi hl M.kin
  have notA : ∀ {b : Addr} {o : Obj} {es : Array DictEntry} {ep : Nat}, z.heap.get? b = some o → o.data = .dict es ep → H b = none := fun {b o es ep} e d => by
    cases q : H b with
    | none => rfl
    | some u =>
      obtain ⟨rfl, _⟩ := own b u q
      rw [ha] at e
      cases e
      cases (show Data.seq us.toArray _ = Data.dict es ep from d)
  have ns_up : ∀ {b : Addr} {m : Str → Option Value}, z.heap.Ns b m → (hidT z.heap H).Ns b m := fun ⟨o, es, ep, e, d, r⟩ => ⟨o, es, ep, hidT_get e (notA e d), d, r⟩
  have kin : K.In (hidT z.heap H) := fun b o e => hidT_get (M.kin b o e) (by
    cases q : H b with
    | none => rfl
    | some u =>
      obtain ⟨rfl, h, _⟩ := own b u q
      rw [h] at e
      cases e)
  obtain ⟨mb, b1, b2⟩ := M.blt
  obtain ⟨mc, c1, c2⟩ := M.nolimit
  have M' : L2.Mod K mg (hidT z.heap H) := { kin := kin, glob := ns_up M.glob, blt := ⟨mb, ns_up b1, b2⟩, nolimit := ⟨mc, ns_up c1, c2⟩ }
  have sm : ∃ o, (hidT z.heap H).get? sysModules = some o := let ⟨o, _, _, e, d⟩ := hsm; ⟨o, hidT_get e (notA e d)⟩
  have start : Env0 P w K mg (hidT z.heap H) callerA [] z H :=
    { frames := rfl, mod := M', bs := fun _ _ e => of_hidT e, bsz := Nat.le_of_eq (hidT_size _ _), funs := trivial, frf := fun b hm => absurd hm (by show b ∉ ([] : List Addr); simp), hok := ok, bare := .of_eq hg }
  obtain ⟨f', fd, hm', _, hb, FF⟩ := (F _ sm).ex
  cases hm'.symm.trans hf
  have bt := hb z [Value.ref a] M.kin rfl
  rw [List.append_nil] at bt
  have call := FF.run callerA [] z H ⟨[.ref a], []⟩ [.ref a] [.ref a] _ _ hr rfl start bt (.cons rfl .nil) (hsp H hs)
  refine codeAny_mono call fun r s' end_ => ?_
  match r, end_ with
  | .error e, h => exact False.elim h
  | .ok .next, h => exact False.elim h
  | .ok .brk, h => exact False.elim h
  | .ok .cont, h => exact False.elim h
  | .ok (.ret u), ⟨v, H', e1, e2, un, ok', rv, hv⟩ =>
    have hv : v = .bl true := hv
    subst hv
    cases (show u = Value.bool true from rv)
    refine ⟨rfl, OldK.of_keep fun b o e => ?_, e1, e2⟩
    cases q : H b with
    | none => exact un.keep b o e q (fun hm => absurd hm (by show b ∉ ([] : List Addr); simp)) (by simp)
    | some u =>
      obtain ⟨rfl, _, o', xs, rfl⟩ := own b u q
      have g1 := (ok b _ q).1
      have g2 := (ok' b _ (un.frzs b o' _ q)).1
      rw [e] at g1
      cases g1
      exact g2
end
/-- the goal that the head leaves, from what the law's def promises -/
theorem law_end {l : PySem.W.OpenLaw} {n k : Nat} {q : Program} {loose : List Str} {XP : (Str → Option Value) → Heap → Prop} {YP : World → Heap → Prop} {d : DefRec} {K : Params → PySem.W.Frag} {x : Str} {sp : PySem.W.Frag → Sp}
    (hn : l.most = some n) (hn2 : n ≤ sizeLine) (hdf : d.params.defaults = []) (hr : Room k callerA) (hY : ∀ (w : World) (h : Heap), YP w h → (K w.params).In h) (hi : importsNone q = true)
    (F : ∀ (w : World) (mg : Str → Option Value) (h : Heap), (K w.params).In h → h.Ns mainGlobals mg → XP mg h → ∀ base : Heap, (∃ o, base.get? sysModules = some o) → DfnG l.prog w (K w.params) mg base d.name [x] k (sp (K w.params)))
    (hsp : ∀ (K : PySem.W.Frag) (H : Hp) (a : Addr) (ns : List Int), ns.length ≤ n → SqL K H a (ns.map V.int) → sp K [.ref a] H (fun v _ => v = .bl true) fun _ _ _ => False) :
    PySem.W.WalkO q loose XP YP l.row.toRowW d [] (fun f vs => PySem.call f vs) := by
  refine Att.attach_call hn hdf fun w s₀ z mg mb fa o pm cd doc a us ns G Y ho hd hcd hmg hobj hints hlen hg => ?_
  have kx := hY w _ Y
  obtain ⟨mm, m1, _⟩ := (G.T.seer hi).mods
  obtain ⟨so, es, ep, m2, m3, _⟩ := m1
  exact run_script ⟨kx, G.T.g, ⟨mb, G.T.b, G.T.builtins⟩, G.T.nolimit⟩ ⟨so, es, ep, m2, m3⟩ hg hobj hints (Nat.le_trans hlen hn2) hr hmg (F w mg z.heap kx G.T.g G.X) (fun H hS => hsp _ H a ns hlen hS)
end FL
namespace FL
open PySem PySem.Spec PyProof.Rows L2

/-! ### intervals as data -/
abbrev Span := Option (Option Int × Option Int)
def oV : Option Int → V
  | none => .non
  | some i => .int i
def SpanAt (F : Hp) (v : V) : Span → Prop
  | none => v = .non
  | some (l, h) => ∃ t, v = .ref t ∧ F t = some (.tup [oV l, oV h])
theorem SpanAt.mono {F F' : Hp} {v : V} : ∀ {s : Span}, Same F F' → SpanAt F v s → SpanAt F' v s
  | none, _, h => h
  | some (_, _), e, ⟨t, h1, h2⟩ => ⟨t, h1, e _ _ h2⟩
def lowOk : Option Int → Int → Bool
  | none, _ => true
  | some i, p => decide (i ≤ p)
def highOk : Option Int → Int → Bool
  | none, _ => true
  | some i, p => decide (p ≤ i)
def inSpan : Span → Int → Bool
  | none, _ => false
  | some (l, h), p => lowOk l p && highOk h p

/-! ### dicts with text keys, any values; states -/
def strK (es : List (Str × V)) : List (Key × V) := es.map fun p => (.inr p.1, p.2)
theorem strK_app (es fs : List (Str × V)) : strK (es ++ fs) = strK es ++ strK fs := List.map_append ..
theorem strK_len (es : List (Str × V)) : (strK es).length = es.length := List.length_map ..
theorem strK_keys (es : List (Str × V)) : (strK es).map (·.1) = (es.map (·.1)).map Sum.inr := by
  unfold strK
  rw [List.map_map, List.map_map]; rfl
theorem putK_str {es : List (Str × V)} {z : Str} (v : V) (h : z ∉ es.map (·.1)) : putK (strK es) (.inr z) v = strK (es ++ [(z, v)]) := by
  unfold putK
  rw [if_neg]
  · rw [strK_app]; rfl
  · rw [List.any_eq_true]
    rintro ⟨kv, hm, e⟩
    have e := of_decide_eq_true e
    obtain ⟨p, hp, rfl⟩ := List.mem_map.mp hm
    have e : (Sum.inr p.1 : Key) = Sum.inr z := e
    injection e with e
    exact h (List.mem_map.mpr ⟨p, hp, e⟩)
theorem merge_str : ∀ (fs es : List (Str × V)), ((es ++ fs).map (·.1)).Nodup → mergeK (strK es) (strK fs) = strK (es ++ fs)
  | [], es, _ => by rw [List.append_nil]; rfl
  | p :: fs, es, h => by
    show mergeK (putK (strK es) (.inr p.1) p.2) (strK fs) = _
    have hn : p.1 ∉ es.map (·.1) := fun z => by
      rw [List.map_append, List.map_cons, List.nodup_append] at h
      exact h.2.2 _ z _ List.mem_cons_self rfl
    rw [putK_str p.2 hn, merge_str fs _ (by rw [List.append_assoc]; exact h), List.append_assoc]; rfl
theorem valV_str {z : Str} {v : V} : ∀ {es : List (Str × V)}, (z, v) ∈ es → (es.map (·.1)).Nodup → valV (strK es) (.inr z) = some v
  | p :: es, h, nd => by
    show valV ((Sum.inr p.1, p.2) :: strK es) (Sum.inr z : Key) = _
    rcases List.mem_cons.mp h with e | h
    · rw [valV_pos (by show (Sum.inr p.1 : Key) = Sum.inr z; rw [← e]), ← e]
    · have hn := List.nodup_cons.mp nd
      have ne : p.1 ≠ z := fun e => hn.1 (by show p.1 ∈ _; rw [e]; exact List.mem_map.mpr ⟨_, h, rfl⟩)
      have ih := valV_str h hn.2
      unfold valV at ih ⊢
      rw [List.find?_cons_of_neg (by simp; exact ne)]
      exact ih
/-- a state stands at d: the hosts in some order, the interval of each -/
def StAt (F : Hp) (ks : List (Str × Int)) (d : Addr) (sp : Str → Span) : Prop :=
  ∃ es : List (Str × V), F d = some (.dK (strK es)) ∧ (es.map (·.1)).Perm (ks.map (·.1)) ∧ ∀ p ∈ es, SpanAt F p.2 (sp p.1)
theorem StAt.mono {F F' : Hp} {ks : List (Str × Int)} {d : Addr} {sp : Str → Span} (s : Same F F') : StAt F ks d sp → StAt F' ks d sp :=
  fun ⟨es, h1, h2, h3⟩ => ⟨es, s _ _ h1, h2, fun p hp => (h3 p hp).mono s⟩
/-- an interval that a host at o may have on the line ks -/
def spanOk (ks : List (Str × Int)) (o : Int) : Span → Prop
  | none => True
  | some (l, h) => (∀ i, l = some i → i ∈ ks.map (·.2) ∧ i ≤ o) ∧ ∀ i, h = some i → i ∈ ks.map (·.2) ∧ o ≤ i

/-! ### a comprehension over a dict's values, the dict locked meanwhile; its items make nothing new -/
section
variable {H F H' : Hp} {L : List (Addr × HO)} {a : Addr} {o u : HO}
theorem Led.lockF (D : Led H F L) (hf : F a = some u) : Led (upd H a o) (upd F a o) L := by
  refine ⟨fun b x e => ?_, fun x hx => ?_, D.nd⟩
  · by_cases hb : b = a
    · subst hb; rw [upd_same] at e ⊢; exact e
    · rw [upd_ne hb] at e ⊢; exact D.ext b x e
  · have q := D.ent x hx
    have ne : x.1 ≠ a := fun e => by rw [e, hf] at q; cases q.2
    rw [upd_ne ne, upd_ne ne]; exact q
theorem Led.unlock (D : Led H' (upd F a o) L) (hf : F a = some u) : Led (upd H' a u) F L := by
  refine ⟨fun b x e => ?_, fun x hx => ?_, D.nd⟩
  · by_cases hb : b = a
    · subst hb; rw [hf] at e; rw [upd_same]; exact e
    · rw [upd_ne hb]; exact D.ext b x (by rw [upd_ne hb]; exact e)
  · have q := D.ent x hx
    have ne : x.1 ≠ a := fun e => by rw [e, upd_same] at q; cases q.2
    rw [upd_ne ne] at q ⊢; exact q
theorem walk_vals {kvs : List (Key × V)} {od : Obj} : WalkIt (Itd a od kvs) kvs.length (fun i x => ∃ k, kvs[i]? = some (k, x)) (fun H => H a = some (.frz od (.dK kvs))) where
  go := fun i H h hi => ⟨h, hi⟩
  yld := fun i H x H' h y => ⟨y.1, y.2⟩
  stop := fun H h => ⟨h, Nat.le_refl _⟩
end
section
variable {σ : L2.St} {H F : Hp} {L : List (Addr × HO)} {a : Addr} {kvs : List (Key × V)} {Q : VK} {g : TG} {tt : TT} {te tc : TE} {vs : List Nat}
theorem lc_lockVals (D0 : Led H F L) (hf : F a = some (.dK kvs)) (hn : kvs.length ≤ 100000) (acc : Nat → List V) (h0 : acc 0 = []) (he : ∀ H1 R, R (.ref a) H1 → tc σ H1 R)
    (turn : ∀ (od : Obj) (Kp : V → Hp → Prop) (Sk : Hp → Prop) i H' x k, kvs[i]? = some (k, x) → H' a = some (.frz od (.dK kvs)) → (∀ y, acc (i + 1) = acc i ++ [y] → Kp y H') → (acc (i + 1) = acc i → Sk H') →
      g x (wipe σ vs) H' fun σ2 H2 => wipe σ2 vs = wipe σ vs ∧ tt σ2 H2 fun b H3 => if b = true then te σ2 H3 Kp else Sk H3)
    (done : ∀ Dl H', Led H' F ((Dl, .lst (acc kvs.length)) :: L) → Q (.ref Dl) H') : tLockE (tLc (iVals tc) g tt te vs) σ H Q := by
  refine ⟨a, .dK kvs, D0.frz hf, trivial, fun od => ?_⟩
  refine y_lc (he _ _ ⟨a, od, kvs, rfl, upd_same, ?_⟩)
  refine lc_led (D0.lockF hf) walk_vals hn (fun i ac F' L' => F' = upd F a (.frz od (.dK kvs)) ∧ L' = L ∧ ac = acc i) ⟨rfl, rfl, h0.symm⟩ (fun i ac F' L' H' Dl ⟨e, _, _⟩ D => D.frz (by rw [e, upd_same])) ?_ ?_
  · rintro Kp Sk i ac F' L' H' Dl x hi ⟨k, hx⟩ ⟨rfl, rfl, rfl⟩ D ha kp sk
    exact turn od Kp Sk i H' x k hx (D.frz upd_same) (fun y e => kp y _ _ H' D ⟨rfl, rfl, e.symm⟩) (fun e => sk _ _ H' D ⟨rfl, rfl, e.symm⟩)
  · rintro ac F' L' H' Dl ⟨rfl, rfl, rfl⟩ D ha
    exact ⟨D.frz upd_same, done Dl _ (D.unlock hf)⟩
end
theorem line_at {ks : List (Str × Int)} {i : Nat} {k : Key} {v : V} (h : (lineK ks)[i]? = some (k, v)) : ∃ p, ks[i]? = some p ∧ (k, v) = (.inr p.1, .int p.2) := by
  unfold lineK at h
  rw [List.getElem?_map] at h
  cases e : ks[i]? with
  | none => rw [e] at h; cases h
  | some p => rw [e] at h; exact ⟨p, rfl, (Option.some.inj h).symm⟩
theorem side_at {ks : List (Str × Int)} {pr : Str × Int → Bool} {d : Int} (h0 : 0 ≤ d) (h1 : d < ((((ks.filter pr).map fun p => V.int p.2) ++ [V.non]).length : Int)) :
    ∃ l : Option Int, atI (((ks.filter pr).map fun p => V.int p.2) ++ [V.non]) d = some (oV l) ∧ ∀ i, l = some i → ∃ p ∈ ks, p.2 = i ∧ pr p = true := by
  obtain ⟨k, rfl⟩ := Int.eq_ofNat_of_zero_le h0
  have hk : k < (((ks.filter pr).map fun p => V.int p.2) ++ [V.non]).length := by omega
  have hm := List.getElem_mem hk
  have e := List.getElem?_eq_getElem hk
  rcases List.mem_append.mp hm with m | m
  · obtain ⟨p, hp, q⟩ := List.mem_map.mp m
    obtain ⟨p1, p2⟩ := List.mem_filter.mp hp
    refine ⟨some p.2, at_nat (by rw [e, ← q]; rfl), fun i e => ?_⟩
    cases e
    exact ⟨p, p1, rfl, p2⟩
  · refine ⟨none, at_nat (by rw [e, List.mem_singleton.mp m]; rfl), fun i e => nomatch e⟩
theorem take_fresh {ys : List Str} {i : Nat} {z : Str} (nd : ys.Nodup) (h : ys[i]? = some z) : z ∉ ys.take i := fun m => by
  have e : ys.take (i + 1) = ys.take i ++ [z] := by rw [List.take_add_one, h]; rfl
  have n2 : (ys.take (i + 1)).Nodup := nd.sublist (List.take_sublist _ _)
  rw [e, List.nodup_append] at n2
  exact n2.2.2 z m z List.mem_cons_self rfl
theorem posOf_eq {ks : List (Str × Int)} {p : Str × Int} (nd : (ks.map (·.1)).Nodup) (h : p ∈ ks) : posOf ks p.1 = p.2 := by
  have h1 := valV_line_some (z := p.1) (n := p.2) h nd
  have h2 := valV_line_some (posOf_in (List.mem_map.mpr ⟨p, h, rfl⟩)) nd
  rw [h1] at h2
  exact (V.int.inj (Option.some.inj h2)).symm
/-- intervals by name, out of a list -/
def spOf (fs : List (Str × Span)) (z : Str) : Span := ((fs.find? fun f => decide (f.1 = z)).map (·.2)).getD none
theorem spOf_in : ∀ {fs : List (Str × Span)} {f : Str × Span}, (fs.map (·.1)).Nodup → f ∈ fs → spOf fs f.1 = f.2
  | g :: fs, f, nd, h => by
    have hn := List.nodup_cons.mp nd
    unfold spOf
    rcases List.mem_cons.mp h with e | h
    · rw [List.find?_cons_of_pos (by simp [e]), e]; rfl
    · have ne : g.1 ≠ f.1 := fun e => hn.1 (by show g.1 ∈ _; rw [e]; exact List.mem_map.mpr ⟨f, h, rfl⟩)
      rw [List.find?_cons_of_neg (by simp; exact ne)]
      exact spOf_in hn.2 h
theorem paired_mem {α β : Type} {F : α → β → Prop} : ∀ {xs : List α} {ys : List β}, Paired F xs ys → ∀ x ∈ xs, ∃ y ∈ ys, F x y
  | _, _, .nil, x, h => nomatch h
  | _, _, .cons r t, x, h => by
    rcases List.mem_cons.mp h with e | h
    · subst e; exact ⟨_, List.mem_cons_self, r⟩
    · obtain ⟨y, h1, h2⟩ := paired_mem t x h
      exact ⟨y, List.mem_cons_of_mem _ h1, h2⟩
theorem paired_fst {G : (Str × V) → (Str × Span) → Prop} : ∀ {es : List (Str × V)} {fs : List (Str × Span)}, Paired G es fs → (∀ e f, G e f → e.1 = f.1) → es.map (·.1) = fs.map (·.1)
  | _, _, .nil, _ => rfl
  | _, _, .cons r t, h => by rw [List.map_cons, List.map_cons, h _ _ r, paired_fst t h]
end FL
/-! ### sorted of pairs of an int and a text, no int with two texts -/
namespace SrtF
open PySem PySem.W PySem.Calls PyProof.Rows Srt SrtO
def IsIS (h : Heap) (v : Value) (x : Int) (z : Str) : Prop := ∃ b ob t u n, v = .ref b ∧ h.get? b = some ob ∧ ob.cls = .type "tuple" ∧ ob.data = .seq #[.int x t, .str z u] n
theorem IsIS.up {h h' : Heap} {v : Value} {x : Int} {z : Str} (p : IsIS h v x z) (k : ∀ b o, h.get? b = some o → o.cls = .type "tuple" → h'.get? b = some o) : IsIS h' v x z :=
  let ⟨b, ob, t, u, n, e1, e2, e3, e4⟩ := p; ⟨b, ob, t, u, n, e1, k _ _ e2 e3, e3, e4⟩
def byFst (k : Value → Int × Str) (v u : Value) : Bool := decide ((k v).1 < (k u).1)
theorem swo_fst {α : Type} (f : α → Int) : Swo fun v u => decide (f v < f u) :=
  ⟨fun x y h => decide_eq_false (by have := of_decide_eq_true h; omega), fun x y z h1 h2 => decide_eq_false (by have := of_decide_eq_false h1; have := of_decide_eq_false h2; omega)⟩
theorem heads_of {h : Heap} : ∀ {us : List Value}, (∀ v ∈ us, ∃ x z, IsIS h v x z) → ∃ fs : List Value, KatTups h us fs ∧ fs.length = us.length ∧ ∀ f ∈ fs, ∃ x t, f = Value.int x t
  | [], _ => ⟨[], .nil, rfl, fun _ q => nomatch q⟩
  | v :: us, hp => by
    obtain ⟨fs, k1, k2, k3⟩ := heads_of (us := us) fun y hy => hp y (.tail _ hy)
    obtain ⟨x, z, b, ob, t, u, n, rfl, e2, e3, e4⟩ := hp v (.head _)
    refine ⟨.int x t :: fs, .cons e2 e3 e4 rfl k1, by simp [k2], fun f hf => ?_⟩
    rcases List.mem_cons.mp hf with e | hf
    · exact ⟨x, t, e⟩
    · exact k3 f hf
section
variable {prog : Program} {w : World} {A : Around} {E : Value → Shared → Prop} {s : Shared}
theorem cmp_is {us : List Value} {k : Value → Int × Str} (hp : ∀ v ∈ us, IsIS s.heap v (k v).1 (k v).2) (hd : ∀ v ∈ us, ∀ u ∈ us, (k v).1 = (k u).1 → (k v).2 = (k u).2) :
    Cmp prog w A s (tuples' true) (fun p => p.1 ∈ us) (lt2 (byFst k)) := by
  intro p q mp mq
  have ip := hp _ mp
  have iq := hp _ mq
  have dd := hd _ mp _ mq
  show wpAny (model prog w) A (keyLt' (tuples' true) p.1 q.1) (fun r s' => s' = s ∧ r = decide ((k p.1).1 < (k q.1).1)) (fun _ _ => False) s
  generalize (k p.1).1 = x at ip dd ⊢
  generalize (k p.1).2 = z at ip dd
  generalize (k q.1).1 = x' at iq dd ⊢
  generalize (k q.1).2 = z' at iq dd
  obtain ⟨b, ob, t, u, n, e1, e2, e3, e4⟩ := ip
  obtain ⟨b', ob', t', u', n', e1', e2', e3', e4'⟩ := iq
  rw [e1, e1']
  refine kat_lt e2 e4 e2' e4' ?_
  show KatLex prog w A true (decide (2 < 2)) _ [(.int x t, .int x' t'), (.str z u, .str z' u')] 0 s
  refine kat_cons (SeqAt.EqAt.int_int x t x' t' prog w _ _ ?_)
  refine kat_go (fun eq => ?_) (fun ne => ?_)
  · have ex : x = x' := by simpa using eq
    have ez := dd ex
    subst ex ez
    refine kat_yes (kat_cons (SeqAt.EqAt.str_str z u z u' prog w _ _ ?_))
    refine kat_go (fun _ => ?_) (fun ne => ?_)
    · exact kat_yes (kat_nil ⟨rfl, (decide_eq_false (Int.lt_irrefl _)).symm⟩)
    · exact absurd ne (by simp)
  · exact kat_no (oneLt_int ⟨rfl, rfl⟩)
theorem sorted_is {l : Addr} {us : List Value} {k : Value → Int × Str} {Q : Value → Shared → Prop} (hl : s.heap.IsList l us.toArray) (hz : us.length ≤ sizeLine) (hp : ∀ v ∈ us, IsIS s.heap v (k v).1 (k v).2)
    (hd : ∀ v ∈ us, ∀ u ∈ us, (k v).1 = (k u).1 → (k v).2 = (k u).2)
    (h : ∀ (h' : Heap) (d : Addr) (out : List Value), Srtd (byFst k) out → out.Perm us → (∀ b o, s.heap.get? b = some o → h'.get? b = some o) → s.heap.objs.size ≤ d → (∃ n, h'.get? d = some (seqObj "list" out.toArray n)) → Q (.ref d) { s with heap := h' }) :
    wpAny (model prog w) A (call (.builtin "sorted") [.ref l]) Q E s := by
  refine sorted_ord (swo_fst fun v => (k v).1) hl hz (fun h2 h1 a ha kk => ?_) fun out hs hb => h _ _ out hs hb.perm (fun b o e => sortedAll_old e) (Nat.le_succ _) (sortedAll_at s.heap us out.toArray)
  intro h' keep
  have at1 : ∀ v ∈ us, IsIS h' v (k v).1 (k v).2 := fun v hv => (hp v hv).up fun b o e c => keep b o (fun z => by
    subst z
    exact (kk _ _ e).1 rfl) (kk _ _ e).2
  obtain ⟨fs, k1, k2, k3⟩ := heads_of fun v hv => ⟨_, _, at1 v hv⟩
  refine ⟨tuples' true, fun Q E hq => ?_, cmp_is at1 hd⟩
  refine kat_kind (T := .type "int") k1 (by omega) (fun f hf => ?_) (by rfl) ?_
  · obtain ⟨x, t, rfl⟩ := k3 f hf
    exact Looks.now
  · rw [show (Value.type "int" != Value.type "tuple") = true from by decide +kernel]
    exact hq
end
end SrtF
namespace FL
open PySem PySem.Spec PyProof.Rows L2
def rSortedF (K : PySem.W.Frag) : List V → Hp → VK → Prop := fun vs H Q => ∃ (a : Addr) (xs : List V) (k : V → Int × Str), vs = [V.ref a] ∧ SqL K H a xs ∧ (∀ x ∈ xs, ∃ t, x = V.ref t ∧ H t = some (.tup [.int (k x).1, .str (k x).2])) ∧
  (∀ x ∈ xs, ∀ y ∈ xs, (k x).1 = (k y).1 → (k x).2 = (k y).2) ∧ ∀ ys p, ys.Perm xs → ys.Pairwise (fun x y => (k x).1 ≤ (k y).1) → H p = none → Q (.ref p) (upd H p (.lst ys))
theorem cr_sortedF {X : Cx} : CallR X (.builtin "sorted") (rSortedF X.K) := by
  intro pins s σ H vs us Q I r h
  obtain ⟨a, xs, k, rfl, hs, hx, hd, q⟩ := h
  obtain ⟨its, rv, hl, hz⟩ := I.list hs
  obtain ⟨u, rfl, ru⟩ := vals1 r
  obtain rfl : u = Value.ref a := ru
  obtain ⟨e1, e2⟩ := refs_back rv fun x m => let ⟨t, e, _⟩ := hx x m; ⟨t, e⟩
  have inX : ∀ v ∈ its, backV v ∈ xs := fun v hv => by rw [e1]; exact List.mem_map.mpr ⟨_, hv, rfl⟩
  refine SrtF.sorted_is (k := fun u => k (backV u)) hl.isList (by rw [← rv.length]; exact hz) (fun v hv => ?_) (fun v hv u hu => hd _ (inX v hv) _ (inX u hu)) fun h' d out h1 h2 kp hd2 hn => ?_
  · have hm := inX v hv
    obtain ⟨t, rfl⟩ := e2 v hv
    obtain ⟨t', e, ht⟩ := hx _ hm
    cases e
    obtain ⟨_, its2, r2, o, ho, hc, n, hd3⟩ := I.hok _ _ ht
    obtain ⟨u1, u2, rfl, ⟨t1, rfl⟩, ⟨t2, rfl⟩⟩ := vals2 r2
    exact ⟨t, o, t1, t2, n, rfl, ho, hc, hd3⟩
  · have h3 : ∀ u ∈ out, ∃ a, u = Value.ref a := fun u hu => e2 u (h2.mem_iff.mp hu)
    obtain ⟨n, hn⟩ := hn
    have hb : (out.map backV).Perm xs := by rw [e1]; exact h2.map backV
    refine ⟨.ref d, upd H d (.lst (out.map backV)), I.laid (t' := s.toks) kp hd2 ⟨by rw [hb.length_eq]; exact hz, out, n, vals_back h3, hn⟩, rfl, q _ d hb ?_ (I.hok.fresh hd2)⟩
    exact List.pairwise_map.mpr (h1.imp fun {v u} e => Int.not_lt.mp (of_decide_eq_false e))
end FL
namespace FL
open PySem PySem.Spec PyProof.Rows L2
section
variable {σ : L2.St} {H F : Hp} {L : List (Addr × HO)} {a : Addr} {kvs : List (Key × V)} {Q : VK} {g : TG} {tt : TT} {te tc : TE} {vs : List Nat}
/-- a comprehension over a dict's items, the dict locked meanwhile -/
theorem lc_lockItems (D0 : Led H F L) (hf : F a = some (.dK kvs)) (hn : kvs.length ≤ 100000) (Inv : Nat → List V → Hp → Prop) (h0 : ∀ F', Inv 0 [] F') (he : ∀ H1 R, R (.ref a) H1 → tc σ H1 R)
    (turn : ∀ (od : Obj) (Kp : V → Hp → Prop) (Sk : Hp → Prop) i acc F' H' T Dl k v, kvs[i]? = some (k, v) → F' a = some (.frz od (.dK kvs)) → Inv i acc F' → Led H' F' ((Dl, .lst acc) :: L) → F' T = some (.tup [kV k, v]) → acc.length ≤ i →
      (∀ y F2 H4, Same F' F2 → Led H4 F2 ((Dl, .lst acc) :: L) → Inv (i + 1) (acc ++ [y]) F2 → Kp y H4) →
      g (.ref T) (wipe σ vs) H' fun σ2 H2 => wipe σ2 vs = wipe σ vs ∧ tt σ2 H2 fun b H3 => if b = true then te σ2 H3 Kp else Sk H3)
    (mono : ∀ i acc F1 F2, Inv i acc F1 → Same F1 F2 → Inv i acc F2)
    (fin : ∀ od acc F1 F2, Inv kvs.length acc F1 → F1 a = some (.frz od (.dK kvs)) → (∀ b o, b ≠ a → F1 b = some o → F2 b = some o) → Inv kvs.length acc F2)
    (done : ∀ acc Dl F' H', Same F F' → Inv kvs.length acc F' → Led H' F' ((Dl, .lst acc) :: L) → acc.length ≤ kvs.length → Q (.ref Dl) H') : tLockE (tLc (iItems tc) g tt te vs) σ H Q := by
  refine ⟨a, .dK kvs, D0.frz hf, trivial, fun od => ?_⟩
  refine y_lc (he _ _ ⟨a, od, kvs, rfl, upd_same, ?_⟩)
  have D1 := D0.lockF (o := .frz od (.dK kvs)) hf
  intro Dl hD
  refine ⟨fun i m H' => m = kvs.length - i ∧ i ≤ kvs.length ∧ ∃ acc F', Same (upd F a (.frz od (.dK kvs))) F' ∧ Led H' F' ((Dl, .lst acc) :: L) ∧ Inv i acc F' ∧ acc.length ≤ i, ⟨kvs.length, by omega, by omega, [], _, Same.refl _, D1.new hD, h0 _, Nat.le_refl _⟩, ?_⟩
  rintro i m H' ⟨rfl, hi, acc, F', s, D, I, ha⟩
  have hfa : F' a = some (.frz od (.dK kvs)) := s _ _ upd_same
  by_cases hlt : i < kvs.length
  · refine .inr ⟨⟨D.frz hfa, hlt⟩, fun H2 => i + 1 ≤ kvs.length ∧ ∃ acc F', Same (upd F a (.frz od (.dK kvs))) F' ∧ Led H2 F' ((Dl, .lst acc) :: L) ∧ Inv (i + 1) acc F' ∧ acc.length ≤ i + 1, fun H2 ⟨_, q⟩ => ⟨kvs.length - (i + 1), by omega, rfl, hlt, q⟩, fun x H2 y => ?_⟩
    obtain ⟨T, k, v, e, rfl, hT, rfl⟩ := y
    obtain ⟨F2, s2, hT2, -, D2⟩ := D.nf hT rfl
    exact turn od _ _ i acc F2 _ T Dl k v e (s2 _ _ hfa) (mono _ _ _ _ I s2) D2 hT2 ha
      (fun y F3 H4 s3 D3 I3 => ⟨acc, D3.get 0, lt_line (by omega), hlt, acc ++ [y], F3, s.trans (s2.trans s3), D3.set 0, I3, by simp; omega⟩)
  · have e : i = kvs.length := by omega
    subst e
    refine .inl ⟨⟨D.frz hfa, Nat.le_refl _⟩, D.frz hfa, ?_⟩
    exact done acc Dl (upd F' a (.dK kvs)) _ (same_lock hf s) (fin od acc F' _ I hfa fun b o nb e => by rw [upd_ne nb]; exact e) (D.lockF hfa) ha
end
/-- the hosts by their positions: no two ways -/
theorem ord_uniq : ∀ {l m : List (Str × Int)}, l.Perm m → l.Pairwise (fun x y => x.2 < y.2) → m.Pairwise (fun x y => x.2 < y.2) → l = m
  | [], m, p, _, _ => (List.Perm.eq_nil p.symm).symm
  | x :: l, [], p, _, _ => absurd p.length_eq (by simp)
  | x :: l, y :: m, p, hl, hm => by
    obtain ⟨x1, x2⟩ := List.pairwise_cons.mp hl
    obtain ⟨y1, y2⟩ := List.pairwise_cons.mp hm
    have e : x = y := by
      rcases List.mem_cons.mp (p.mem_iff.mp (List.mem_cons_self (a := x) (l := l))) with e | hx
      · exact e
      · rcases List.mem_cons.mp (p.mem_iff.mpr (List.mem_cons_self (a := y) (l := m))) with e | hy
        · exact e.symm
        · have := y1 _ hx
          have := x1 _ hy
          omega
    subst e
    rw [ord_uniq (List.Perm.cons_inv p) x2 y2]
def byPos (ks os : List (Str × Int)) : Prop := os.Perm ks ∧ os.Pairwise fun x y => x.2 < y.2
/-- an int and a text out of a tuple -/
def kOf (F : Hp) : V → Int × Str
  | .ref t => match F t with
    | some (.tup [.int i, .str z]) => (i, z)
    | _ => (0, "")
  | _ => (0, "")
theorem kOf_at {F : Hp} {t : Addr} {i : Int} {z : Str} (h : F t = some (.tup [.int i, .str z])) : kOf F (.ref t) = (i, z) := by
  show (match F t with | some (.tup [.int i, .str z]) => (i, z) | _ => (0, Str.ofString "")) = (i, z)
  rw [h]
def IsAt (F : Hp) (ts : List Addr) (ps : List (Str × Int)) : Prop := Paired (fun t (p : Str × Int) => F t = some (.tup [.int p.2, .str p.1])) ts ps
theorem kOf_map {F : Hp} : ∀ {ts : List Addr} {ps : List (Str × Int)}, IsAt F ts ps → (ts.map V.ref).map (fun x => ((kOf F x).2, (kOf F x).1)) = ps
  | _, _, .nil => rfl
  | _, _, .cons r t => by rw [List.map_cons, List.map_cons, kOf_at r, kOf_map t]
theorem kOf_mem {F : Hp} {ts : List Addr} {ps : List (Str × Int)} (h : IsAt F ts ps) : ∀ x ∈ ts.map V.ref, ∃ t, x = V.ref t ∧ F t = some (.tup [.int (kOf F x).1, .str (kOf F x).2]) ∧ ((kOf F x).2, (kOf F x).1) ∈ ps := fun x hx => by
  obtain ⟨t, ht, rfl⟩ := List.mem_map.mp hx
  obtain ⟨p, hp, e⟩ := paired_mem h t ht
  rw [kOf_at e]
  exact ⟨t, rfl, e, hp⟩
theorem pos_inj {ks : List (Str × Int)} (nd : (ks.map (·.2)).Nodup) {p q : Str × Int} (hp : p ∈ ks) (hq : q ∈ ks) (e : p.2 = q.2) : p = q := by
  induction ks with
  | nil => cases hp
  | cons x ks ih =>
    obtain ⟨n1, n2⟩ := List.nodup_cons.mp nd
    rcases List.mem_cons.mp hp with e1 | h1 <;> rcases List.mem_cons.mp hq with e2 | h2
    · rw [e1, e2]
    · subst e1; exact absurd (List.mem_map.mpr ⟨q, h2, e.symm⟩) n1
    · subst e2; exact absurd (List.mem_map.mpr ⟨p, h1, e⟩) n1
    · exact ih n2 h1 h2
theorem sorted_byPos {F : Hp} {ks : List (Str × Int)} {ts : List Addr} {ys : List V} (nd : (ks.map (·.2)).Nodup) (pt : IsAt F ts ks) (perm : ys.Perm (ts.map V.ref)) (srt : ys.Pairwise fun x y => (kOf F x).1 ≤ (kOf F y).1) :
    byPos ks (ys.map fun x => ((kOf F x).2, (kOf F x).1)) := by
  have pm : (ys.map fun x => ((kOf F x).2, (kOf F x).1)).Perm ks := by
    have := perm.map fun x => ((kOf F x).2, (kOf F x).1)
    rwa [kOf_map pt] at this
  refine ⟨pm, List.pairwise_map.mpr ?_⟩
  have n2 : (ys.map fun x => (kOf F x).1).Nodup := by
    have := (pm.map (·.2)).nodup_iff.mpr nd
    rw [List.map_map] at this
    exact this
  have n3 : ys.Pairwise fun x y => (kOf F x).1 ≠ (kOf F y).1 := List.pairwise_map.mp n2
  exact (srt.and n3).imp fun {x y} h => by
    have h1 := h.1
    have h2 := h.2
    show (kOf F x).1 < (kOf F y).1
    omega
end FL
namespace FL
open PySem PySem.Spec PyProof.Rows L2
section
variable {σ : L2.St} {H F : Hp} {L : List (Addr × HO)} {a : Addr} {kvs : List (Key × V)} {Q : VK} {g : TG} {tt : TT} {te tc : TE} {vs : List Nat}
/-- a comprehension over a dict's keys, the dict locked meanwhile -/
theorem lc_lockKeys (D0 : Led H F L) (hf : F a = some (.dK kvs)) (hn : kvs.length ≤ 100000) (Inv : Nat → List V → Hp → Prop) (h0 : ∀ F', Inv 0 [] F') (he : ∀ H1 R, R (.ref a) H1 → tc σ H1 R)
    (turn : ∀ (od : Obj) (Kp : V → Hp → Prop) (Sk : Hp → Prop) i acc F' H' Dl k v, kvs[i]? = some (k, v) → Same (upd F a (.frz od (.dK kvs))) F' → Inv i acc F' → Led H' F' ((Dl, .lst acc) :: L) → acc.length ≤ i →
      (∀ y F2 H4, Same F' F2 → Led H4 F2 ((Dl, .lst acc) :: L) → Inv (i + 1) (acc ++ [y]) F2 → Kp y H4) → (∀ F2 H3, Same F' F2 → Led H3 F2 ((Dl, .lst acc) :: L) → Inv (i + 1) acc F2 → Sk H3) →
      g (kV k) (wipe σ vs) H' fun σ2 H2 => wipe σ2 vs = wipe σ vs ∧ tt σ2 H2 fun b H3 => if b = true then te σ2 H3 Kp else Sk H3)
    (fin : ∀ od acc F1 F2, Inv kvs.length acc F1 → F1 a = some (.frz od (.dK kvs)) → (∀ b o, b ≠ a → F1 b = some o → F2 b = some o) → Inv kvs.length acc F2)
    (done : ∀ acc Dl F' H', Same F F' → Inv kvs.length acc F' → Led H' F' ((Dl, .lst acc) :: L) → acc.length ≤ kvs.length → Q (.ref Dl) H') : tLockE (tLc (iKeys tc) g tt te vs) σ H Q := by
  refine ⟨a, .dK kvs, D0.frz hf, trivial, fun od => ?_⟩
  refine y_lc (he _ _ ⟨a, od, rfl, .inl ⟨kvs, upd_same, ?_⟩⟩)
  have D1 := D0.lockF (o := .frz od (.dK kvs)) hf
  intro Dl hD
  refine ⟨fun i m H' => m = kvs.length - i ∧ i ≤ kvs.length ∧ ∃ acc F', Same (upd F a (.frz od (.dK kvs))) F' ∧ Led H' F' ((Dl, .lst acc) :: L) ∧ Inv i acc F' ∧ acc.length ≤ i, ⟨kvs.length, by omega, by omega, [], _, Same.refl _, D1.new hD, h0 _, Nat.le_refl _⟩, ?_⟩
  rintro i m H' ⟨rfl, hi, acc, F', s, D, I, ha⟩
  have hfa : F' a = some (.frz od (.dK kvs)) := s _ _ upd_same
  by_cases hlt : i < kvs.length
  · refine .inr ⟨⟨D.frz hfa, hlt⟩, fun H2 => i + 1 ≤ kvs.length ∧ ∃ acc F', Same (upd F a (.frz od (.dK kvs))) F' ∧ Led H2 F' ((Dl, .lst acc) :: L) ∧ Inv (i + 1) acc F' ∧ acc.length ≤ i + 1, fun H2 ⟨_, q⟩ => ⟨kvs.length - (i + 1), by omega, rfl, hlt, q⟩, fun x H2 y => ?_⟩
    obtain ⟨rfl, k, v, e, rfl⟩ := y
    exact turn od _ _ i acc F' _ Dl k v e s I D ha
      (fun y F3 H4 s3 D3 I3 => ⟨acc, D3.get 0, lt_line (by omega), hlt, acc ++ [y], F3, s.trans s3, D3.set 0, I3, by simp; omega⟩)
      (fun F3 H3 s3 D3 I3 => ⟨hlt, acc, F3, s.trans s3, D3, I3, by omega⟩)
  · have e : i = kvs.length := by omega
    subst e
    refine .inl ⟨⟨D.frz hfa, Nat.le_refl _⟩, D.frz hfa, ?_⟩
    exact done acc Dl (upd F' a (.dK kvs)) _ (same_lock hf s) (fin od acc F' _ I hfa fun b o nb e => by rw [upd_ne nb]; exact e) (D.lockF hfa) ha
end
theorem lock_asg {t : TE} {σ : L2.St} {H : Hp} {D : Ends} {i : Nat} (h : tLockE t σ H fun v H' => D.nx (σ.set i (some v)) H') : tLock (tAsg t (gName i)) D σ H := h
theorem eqv_texts : ∀ xs ys : List Str, PyData.eqv (.list (dS xs)) (.list (dS ys)) = decide (xs = ys)
  | [], [] => rfl
  | [], _ :: _ => rfl
  | _ :: _, [] => rfl
  | x :: xs, y :: ys => by
    have ih := eqv_texts xs ys
    have e : PyData.eqv (.list (dS (x :: xs))) (.list (dS (y :: ys))) = ((x == y) && PyData.eqv (.list (dS xs)) (.list (dS ys))) := by
      first | rfl | (show PyData.eqvAll _ _ = _; simp only [dS, List.map_cons, PyData.eqvAll]; rfl) | simp [dS, PyData.eqv, PyData.eqvAll]
    rw [e, ih]
    by_cases h : x = y
    · subst h
      rw [beq_self_eq_true, Bool.true_and]
      exact decide_eq_decide.mpr ⟨fun q => by rw [q], fun q => by injection q⟩
    · rw [beq_false_of_ne h, Bool.false_and, decide_eq_false fun q => h (by injection q)]
theorem stAt_val {F : Hp} {ks : List (Str × Int)} {d : Addr} {sp : Str → Span} (h : StAt F ks d sp) (nd : (ks.map (·.1)).Nodup) : ∃ es : List (Str × V), F d = some (.dK (strK es)) ∧ es.length = ks.length ∧ ∀ z ∈ ks.map (·.1), ∃ v, valV (strK es) (.inr z) = some v ∧ SpanAt F v (sp z) := by
  obtain ⟨es, h1, h2, h3⟩ := h
  refine ⟨es, h1, by have := h2.length_eq; rwa [List.length_map, List.length_map] at this, fun z hz => ?_⟩
  obtain ⟨e, he, q⟩ := List.mem_map.mp (h2.mem_iff.mpr hz)
  have := h3 e he
  rw [q] at this
  exact ⟨e.2, valV_str (by rw [← q]; exact he) (h2.nodup_iff.mpr nd), this⟩
theorem SpanAt.up {F F' : Hp} {a : Addr} {kvs : List (Key × V)} {v : V} (ha : F a = some (.dK kvs)) (up : ∀ b o, b ≠ a → F b = some o → F' b = some o) : ∀ {s : Span}, SpanAt F v s → SpanAt F' v s
  | none, h => h
  | some (_, _), ⟨t, e, h⟩ => ⟨t, e, up t _ (fun z => by rw [z, ha] at h; cases h) h⟩
theorem SpanAt.noInt {F : Hp} {o : Int} : ∀ {s : Span}, ¬ SpanAt F (.int o) s
  | none, h => by cases (show V.int o = V.non from h)
  | some (_, _), ⟨t, e, h⟩ => by cases e
theorem flat_texts (n : Nat) (z : Str) : (List.replicate n [V.str z]).flatten = (List.replicate n z).map V.str := by
  induction n with
  | zero => rfl
  | succ n ih => rw [List.replicate_succ, List.flatten_cons, ih, List.replicate_succ, List.map_cons]; rfl
theorem all_same (z : Str) : ∀ kk : List Str, decide (kk = List.replicate kk.length z) = (kk.map fun k => decide (k = z)).all id
  | [] => rfl
  | k :: kk => by
    have ih := all_same z kk
    rw [List.map_cons, List.all_cons, ← ih, List.length_cons, List.replicate_succ]
    by_cases h : k = z
    · subst h
      rw [id, decide_eq_true rfl, Bool.true_and]
      exact decide_eq_decide.mpr ⟨fun q => by injection q, fun q => by rw [← q]⟩
    · rw [id, decide_eq_false h, Bool.false_and]
      exact decide_eq_false fun q => h (by injection q)
end FL
namespace FL
open PySem PySem.Spec PyProof.Rows L2
/-! ### sorted(e.values()) of a dict with fewer than 64 ints as values -/
def rSortVals : V → Hp → VK → Prop := fun x H Q => ∃ (d : Addr) (kvs : List (Key × V)) (ns : List Int), x = .ref d ∧ Rd H d (.dK kvs) ∧ kvs.map (·.2) = ns.map V.int ∧ ns.length < 64 ∧
  ∀ (ns' : List Int) (p : Addr), ns'.Perm ns → ns'.Pairwise (· ≤ ·) → H p = none → Q (.ref p) (upd H p (.lst (ns'.map V.int)))
def tSortVals (te : TE) : TE := fun σ H Q => te σ H fun x H1 => rSortVals x H1 Q
section
variable {X : Cx} {e : Expr} {te : TE} {p apos cpos pos : Pos}
theorem pe_sortValues (hcalm : X.calm = true) (he : PE X e te) (hg : Gl X "sorted") (hm : X.mg "sorted" = none) (hv : bootBuiltins "sorted" = some (.builtin "sorted"))
    (hbase : attributeBase e "values" X.env (eval e X.env) = eval e X.env := by rfl) (hline : (apos.endLine == cpos.line) = true := by rfl)
    (hs : starEach [.Call (.Attribute e "values" apos) [] [] cpos] X.env = (false, eval (.Call (.Attribute e "values" apos) [] [] cpos) X.env) :: starEach [] X.env := by rfl) :
    PE X (.Call (.Name "sorted" p) [.Call (.Attribute e "values" apos) [] [] cpos] [] pos) (tSortVals te) := by
  refine ⟨fun pins s σ H Q I hq => wpAny_Call_Name_kw (ld_blt I hg hm hv (PyProof.Rows.callWith_builtin1 ?_ hs rfl))⟩
  rw [hs]
  show wpAny (model X.prog X.w) X.A (spliced ((false, eval (Expr.Call (Expr.Attribute e "values" apos) [] [] cpos) X.env) :: backTo pos (starEach [] X.env))) _ X.xe s
  refine Calls.spliced_cons (wpAny_Call_method (args := []) (T := "dict") (id := "dict.values") hbase rfl hline F.plainAttrs_dict F.slot_dict_values F.type_dict_values
    (thn (he.run pins s σ H _ I hq) fun u s1 ⟨x, H1, I1, rx, d, kvs, ns, ex, hd, hns, h64, q⟩ => ?_))
  subst ex
  obtain rfl : u = Value.ref d := rx
  obtain ⟨hz, hs0, vs, kv, hdo⟩ : ObjOk X.prog X.w H1 s1.heap d (.dK kvs) := hd.elim (I1.hok d _) fun ⟨_, hq⟩ => (I1.hok d _ hq).2
  obtain ⟨ep, hat⟩ := hdo.dictAt
  have I2 : Inv X pins σ H1 { s1 with heap := s1.heap.push { cls := .type "dict_values", data := .fields #[.ref d] } } := I1.kept (t' := s1.toks) fun b ob w => Heap.get?_push_of_some _ w
  have lk : kvs.length = vs.length := Paired.length kv
  refine ⟨hdo.typeIs, hdo.mapOf.noDict, ?_⟩
  show wpAny (model X.prog X.w) X.A (callWith cpos (Value.builtin "dict.values") [Value.ref d] [] []) _ X.xe s1
  refine method_meetsIn F.slot_dict_values F.entry_dict_values rfl (PySem.evalArgs_none ⟨rfl, hdo.typeIs, F.args_dict_values_1 _, _, meets_dict_values (mixKind X.prog X.w) d hs0, ⟨vs, hdo⟩, Calls.spliced_nil ?_⟩)
  refine Calls.call_function_entry PyProof.Rows.kind_sorted PyProof.Rows.plain_sorted PyProof.Rows.entry_sorted (PyProof.Rows.args_sorted1 _) ?_
  unfold Builtin.«sorted»
  refine wpAny_bind (m := checkCount "sorted" 1 1 _) (wpAny_pure ?_)
  refine wpAny_bind (PySem.W.kdu_collect (A := X.A.in1) (PySem.W.kdl_values (knd := mixKind X.prog X.w) (kvs := vs) (ep := ep)) (I1.ok.hd hcalm) ⟨⟨_, Heap.get?_push_size _ rfl, rfl, rfl⟩, hat.push _⟩ (by omega) fun h' tk acc hk hacc => ?_)
  have ev : acc.toList = vs.map (·.2) := PySem.W.kdl_vals_eq acc.toList (by rw [Array.length_toList]; exact hacc.1) fun j v e => hacc.2 j v (by rw [← Array.getElem?_toList]; exact e)
  have hvv : Vals (kvs.map (·.2)) acc.toList := by rw [ev]; exact kv_snd kv
  rw [hns] at hvv
  have hI := hvv.ints
  have hal : acc.toList.length = ns.length := by rw [← hvv.length, List.length_map]
  have I3 : Inv X pins σ H1 { s1 with heap := h', toks := tk } := I2.kept hk
  refine wpAny_bind (wpAny_newList ?_ (by rw [hal, sizeLine_eq]; omega))
  have hoL : (h'.push (seqObj "list" acc.toList.toArray 0)).get? h'.objs.size = some (seqObj "list" acc.toList.toArray 0) := Heap.get?_push_size _ rfl
  show wpAny _ _ _ _ _ { s1 with heap := h'.push (seqObj "list" acc.toList.toArray 0), toks := tk }
  refine wpAny_bind (wpAny_holding (wpAny_call_entry PyProof.Rows.slot_list_sort ⟨_, hoL, rfl⟩ PyProof.Rows.entry_list_sort
    (PyProof.Rows.list_sort_tree hoL hI (by rw [hal]; exact h64) fun out ns' a1 a2 a3 => ⟨_, rfl, ?_⟩) (PyProof.Rows.args_list_sort _)))
  obtain ⟨ep', he'⟩ := PyProof.Rows.sortedHeap_at (vs := acc.toList) (out := out) hoL
  have hlen : (ns'.map V.int).length ≤ sizeLine := by rw [List.length_map, a2.length_eq]; exact lt_line (by omega) |> Nat.le_of_lt
  refine wpAny_pure ⟨_, rfl, .ref h'.objs.size, upd H1 h'.objs.size (.lst (ns'.map V.int)), I3.laid (t' := tk) (fun b u e => ?_) (Nat.le_refl _)
    (show ObjOk X.prog X.w _ _ _ (.lst (ns'.map V.int)) from ⟨hlen, out.toList, ep', vals_of_ints a1, by rw [Array.toArray_toList]; exact he'⟩), rfl, q ns' _ a2 a3 (I3.hok.fresh (Nat.le_refl _))⟩
  have hb : b < h'.objs.size := Heap.lt_size e
  rw [PyProof.Rows.sortedHeap_old (Nat.ne_of_lt hb) (by rw [size_push']; exact Nat.lt_succ_of_lt hb)]
  exact Heap.get?_push_of_some _ e
end
end FL
namespace FL
open PySem PySem.Spec PyProof.Rows L2
/-! ### who lacks: two ways to say it -/
theorem low_up {l : Option Int} {x z : Int} (h : lowOk l x = true) (e : x ≤ z) : lowOk l z = true := by
  cases l with
  | none => rfl
  | some i => exact decide_eq_true (Int.le_trans (of_decide_eq_true h) e)
theorem high_down {l : Option Int} {y z : Int} (h : highOk l y = true) (e : z ≤ y) : highOk l z = true := by
  cases l with
  | none => rfl
  | some i => exact decide_eq_true (Int.le_trans e (of_decide_eq_true h))
theorem span_mid {s : Span} {x y z : Int} (h1 : inSpan s x = true) (h2 : inSpan s y = true) (e1 : x ≤ z) (e2 : z ≤ y) : inSpan s z = true := by
  match s with
  | none => cases h1
  | some (l, h) =>
    obtain ⟨a1, _⟩ := Bool.and_eq_true_iff.mp (show (lowOk l x && highOk h x) = true from h1)
    obtain ⟨_, b2⟩ := Bool.and_eq_true_iff.mp (show (lowOk l y && highOk h y) = true from h2)
    exact Bool.and_eq_true_iff.mpr ⟨low_up a1 e1, high_down b2 e2⟩
theorem span_own {ks : List (Str × Int)} {o : Int} {s : Span} (ok : spanOk ks o s) (h : s ≠ none) : inSpan s o = true := by
  match s with
  | none => exact absurd rfl h
  | some (l, hi) =>
    obtain ⟨k1, k2⟩ := ok
    refine Bool.and_eq_true_iff.mpr ⟨?_, ?_⟩
    · cases l with
      | none => rfl
      | some i => exact decide_eq_true (k1 i rfl).2
    · cases hi with
      | none => rfl
      | some i => exact decide_eq_true (k2 i rfl).2
theorem pos_head {os : List (Str × Int)} {a : Str × Int} (h : os[0]? = some a) (pw : os.Pairwise fun x y => x.2 < y.2) : ∀ p ∈ os, a.2 ≤ p.2 := by
  match os, h with
  | x :: os, h =>
    have e : x = a := Option.some.inj h
    subst e
    intro p hp
    rcases List.mem_cons.mp hp with e | hp
    · rw [e]; exact Int.le_refl _
    · exact Int.le_of_lt ((List.pairwise_cons.mp pw).1 p hp)
theorem pos_last {oi : List (Str × Int)} {b : Str × Int} (pw : (oi ++ [b]).Pairwise fun x y => x.2 < y.2) : ∀ p ∈ oi ++ [b], p.2 ≤ b.2 := by
  intro p hp
  rcases List.mem_append.mp hp with hp | hp
  · exact Int.le_of_lt ((List.pairwise_append.mp pw).2.2 p hp b List.mem_cons_self)
  · rw [List.mem_singleton.mp hp]; exact Int.le_refl _
def lackN (sp : Str → Span) (os : List (Str × Int)) (lo hi : Int) : List Str := (os.filter fun p => !(inSpan (sp p.1) lo && inSpan (sp p.1) hi)).map (·.1)
/-- the hosts that lack, os by positions -/
def lackO (sp : Str → Span) (os : List (Str × Int)) : List Str := if os.length = 1 then [] else lackN sp os ((os.head?.map (·.2)).getD 0) ((os.getLast?.map (·.2)).getD 0)
def dueAt (sp : Str → Span) (ks : List (Str × Int)) (p : Str × Int) : Bool := !((ks.filter fun q => !decide (q.1 = p.1)).all fun q => inSpan (sp p.1) q.2)
def dueO (sp : Str → Span) (ks os : List (Str × Int)) : List Str := (os.filter (dueAt sp ks)).map (·.1)
theorem name_inj {ks : List (Str × Int)} (nd : (ks.map (·.1)).Nodup) {p q : Str × Int} (hp : p ∈ ks) (hq : q ∈ ks) (e : p.1 = q.1) : p = q := by
  have h1 := posOf_eq nd hp
  have h2 := posOf_eq nd hq
  rw [e] at h1
  exact Prod.ext e (h1.symm.trans h2)
theorem lack_due {ks os : List (Str × Int)} {sp : Str → Span} (hk : LineOk ks) (bp : byPos ks os) (ok : ∀ p ∈ ks, spanOk ks p.2 (sp p.1)) : lackO sp os = dueO sp ks os := by
  have lo := bp.1.length_eq
  have l1 := hk.len1
  unfold lackO
  by_cases h1 : os.length = 1
  · rw [if_pos h1]
    match os, h1, bp with
    | [p], _, bp =>
      have e : ks = [p] := (List.perm_singleton.mp bp.1.symm)
      unfold dueO dueAt
      rw [e]
      simp
  rw [if_neg h1]
  obtain ⟨o1, h0⟩ : ∃ z, os[0]? = some z := ⟨_, List.getElem?_eq_getElem (by omega)⟩
  obtain ⟨oi, ol, eos⟩ : ∃ yi yl, os = yi ++ [yl] := ⟨_, _, (List.dropLast_concat_getLast (l := os) (by intro e; rw [e] at lo; simp at lo; omega)).symm⟩
  rw [show (os.head?.map (·.2)).getD 0 = o1.2 from by rw [List.head?_eq_getElem?, h0]; rfl, show (os.getLast?.map (·.2)).getD 0 = ol.2 from by rw [eos]; simp]
  have m0 : o1 ∈ ks := bp.1.mem_iff.mp (List.mem_of_getElem? h0)
  have ml : ol ∈ ks := bp.1.mem_iff.mp (by rw [eos]; simp)
  have le0 : ∀ q ∈ ks, o1.2 ≤ q.2 := fun q hq => pos_head h0 bp.2 q (bp.1.mem_iff.mpr hq)
  have leL : ∀ q ∈ ks, q.2 ≤ ol.2 := fun q hq => by
    have pw := bp.2
    have hq2 := bp.1.mem_iff.mpr hq
    rw [eos] at pw hq2
    exact pos_last pw q hq2
  have key : ∀ p ∈ os, (!(inSpan (sp p.1) o1.2 && inSpan (sp p.1) ol.2)) = dueAt sp ks p := fun p hp => by
    have pk := bp.1.mem_iff.mp hp
    unfold dueAt
    congr 1
    cases hc : (ks.filter fun q => !decide (q.1 = p.1)).all fun q => inSpan (sp p.1) q.2 with
    | true =>
      have all := List.all_eq_true.mp hc
      have other : ∃ q ∈ ks, q.1 ≠ p.1 := by
        by_cases e : o1.1 = p.1
        · refine ⟨ol, ml, fun e2 => ?_⟩
          have e3 := name_inj hk.ndn m0 ml (e.trans e2.symm)
          have pw := bp.2
          rw [eos] at pw h0
          cases oi with
          | nil => rw [eos] at h1; exact h1 rfl
          | cons x xs =>
            have ex : x = o1 := Option.some.inj h0
            have := (List.pairwise_append.mp pw).2.2 x List.mem_cons_self ol List.mem_cons_self
            rw [ex, e3] at this
            exact absurd this (Int.lt_irrefl _)
        · exact ⟨o1, m0, e⟩
      obtain ⟨q, hq, nq⟩ := other
      have inq := all q (List.mem_filter.mpr ⟨hq, by simp [nq]⟩)
      have nn : sp p.1 ≠ none := fun e => by rw [e] at inq; cases inq
      have own := span_own (ok p pk) nn
      have every : ∀ q ∈ ks, inSpan (sp p.1) q.2 = true := fun q hq => by
        by_cases e : q.1 = p.1
        · rw [name_inj hk.ndn hq pk e]; exact own
        · exact all q (List.mem_filter.mpr ⟨hq, by simp [e]⟩)
      rw [every o1 m0, every ol ml]; rfl
    | false =>
      cases hb : inSpan (sp p.1) o1.2 && inSpan (sp p.1) ol.2 with
      | false => rfl
      | true =>
        obtain ⟨b1, b2⟩ := Bool.and_eq_true_iff.mp hb
        obtain ⟨q, hq, nq⟩ := List.all_eq_false.mp hc
        have qk := (List.mem_filter.mp hq).1
        exact absurd (span_mid b1 b2 (le0 q qk) (leL q qk)) nq
  unfold lackN dueO
  rw [List.filter_congr key]
end FL
namespace FL
open PySem PySem.Spec PyProof.Rows L2
def rReprB : List V → Hp → VK → Prop := fun xs H Q => ∃ b : Bool, xs = [.bl b] ∧ Q (.str (if b then "True" else "False")) H
theorem call_reprB {X : Cx} : CallR X (.builtin "repr") rReprB := by
  intro pins s σ H xs us Q I r h
  obtain ⟨b, rfl, q⟩ := h
  obtain ⟨u, rfl, rb⟩ := vals1 r
  cases rb
  exact PySem.P.repr_of_bool ⟨.str _, H, I.tok _, ⟨_, rfl⟩, q⟩
theorem pos_of {ks : List (Str × Int)} (hk : LineOk ks) {i : Int} (h : i ∈ ks.map (·.2)) : -(10 ^ 39) < i ∧ i < 10 ^ 39 := by
  obtain ⟨p, hp, e⟩ := List.mem_map.mp h
  have b := hk.ps p hp
  rw [← e]
  have c : (10 : Int) ^ 30 < 10 ^ 39 := by decide
  omega
theorem oV_dx {F : Hp} {ks : List (Str × Int)} (hk : LineOk ks) : ∀ {o : Option Int}, (∀ i, o = some i → i ∈ ks.map (·.2)) → Dx F (oV o) 130 0
  | none, _ => xO.more (Nat.zero_le _) (Nat.le_refl _)
  | some i, h => Dx.int (pos_of hk (h i rfl)).1 (pos_of hk (h i rfl)).2
theorem span_dx {F : Hp} {ks : List (Str × Int)} (hk : LineOk ks) {o : Int} {v : V} : ∀ {s : Span}, spanOk ks o s → SpanAt F v s → Dx F v 262 1
  | none, _, e => by rw [show v = V.non from e]; exact xO.more (Nat.zero_le _) (Nat.le_refl _)
  | some (l, h), ⟨k1, k2⟩, ⟨t, e, ht⟩ => by
    rw [e]
    exact (Dx.tup ht (.cons (oV_dx hk fun i e => (k1 i e).1) (.cons (oV_dx hk fun i e => (k2 i e).1) .nil))).more (by decide) (Nat.le_refl _)
theorem es_kv {F : Hp} : ∀ (es : List (Str × V)), (∀ e ∈ es, nmStr e.1 = true ∧ Dx F e.2 262 1) → ∃ ds, DtKv F (strK es) ds ∧ DOkV ds (es.length * 272) 1
  | [], _ => ⟨[], .nil, DOkV.nil⟩
  | e :: es, h => by
    obtain ⟨ds, q1, q2⟩ := es_kv es fun x hx => h x (List.mem_cons_of_mem _ hx)
    obtain ⟨h1, d, h2, h3⟩ := h e List.mem_cons_self
    refine ⟨(.str e.1, d) :: ds, .cons (k := .inr e.1) h2 q1, ?_⟩
    have := DOkV.cons ((DOk.nm h1).more (Nat.le_refl _) (Nat.zero_le 1)) h3 q2
    exact ⟨this.ls, this.sh, Nat.le_trans this.wt (by rw [List.length_cons, Nat.succ_mul]; omega), this.dp⟩
theorem Dx.state {F : Hp} {ks : List (Str × Int)} {d : Addr} {sp : Str → Span} (hk : LineOk ks) (h : StAt F ks d sp) (ok : ∀ p ∈ ks, spanOk ks p.2 (sp p.1)) : Dx F (.ref d) 10880 2 := by
  obtain ⟨es, h1, h2, h3⟩ := h
  have l2 := hk.len2
  have le : es.length ≤ 40 := by have := h2.length_eq; rw [List.length_map, List.length_map] at this; omega
  obtain ⟨ds, q1, q2⟩ := es_kv (F := F) es fun e he => by
    obtain ⟨p, hp, q⟩ := List.mem_map.mp (h2.mem_iff.mp (List.mem_map.mpr ⟨e, he, rfl⟩))
    have o := ok p hp
    rw [q] at o
    exact ⟨by rw [← q]; exact hk.nm p hp, span_dx hk o (h3 e he)⟩
  exact ⟨_, .dct h1 q1, (DOk.dict q2).more (by omega) (Nat.le_refl _)⟩
theorem due_nm {ks os : List (Str × Int)} {sp : Str → Span} (hk : LineOk ks) (bp : byPos ks os) : ∀ z ∈ dueO sp ks os, nmStr z = true := fun z hz => by
  obtain ⟨p, hp, e⟩ := List.mem_map.mp hz
  rw [← e]
  exact hk.nm p (bp.1.mem_iff.mp (List.mem_filter.mp hp).1)
theorem due_len {ks os : List (Str × Int)} {sp : Str → Span} (hk : LineOk ks) (bp : byPos ks os) : (dueO sp ks os).length ≤ 40 := by
  unfold dueO
  rw [List.length_map]
  have h1 := bp.1.length_eq
  have h2 := hk.len2
  exact Nat.le_trans (List.length_filter_le _ _) (by omega)
theorem byPos_uniq {ks os os' : List (Str × Int)} (h : byPos ks os) (h' : byPos ks os') : os' = os := ord_uniq (h'.1.trans h.1.symm) h'.2 h.2
theorem exA3 : LineOk [("a", 3)] := ⟨by decide, by decide, by decide, by decide, by decide, by decide⟩
theorem exAB : LineOk [("a", 0), ("b", 1)] := ⟨by decide, by decide, by decide, by decide, by decide, by decide⟩
def spAB (z : Str) : Span := if z = "a" then some (some 0, some 1) else none
theorem okAB : ∀ p ∈ ([("a", 0), ("b", 1)] : List (Str × Int)), spanOk [("a", 0), ("b", 1)] p.2 (spAB p.1) :=
  alC (by
    show spanOk _ 0 (spAB "a")
    rw [show spAB "a" = some (some 0, some 1) from by decide]
    exact ⟨fun i e => by cases e; decide, fun i e => by cases e; decide⟩) (alC (by
    show spanOk _ 1 (spAB "b")
    rw [show spAB "b" = none from by decide]
    trivial) alN)
theorem byAB : byPos [("a", 0), ("b", 1)] [("a", 0), ("b", 1)] := ⟨List.Perm.refl _, by decide⟩
theorem lackAB : lackO spAB [("a", 0), ("b", 1)] = [Str.ofString "b"] := by decide +kernel
end FL
namespace FL.k03
open PySem PySem.Spec PyProof.Rows L2 FL
-- one step of a reading
local macro_rules | `(tactic| walk_at "py1") => `(tactic| with_reducible first
  | refine y_var (by with_unfolding_all rfl) ?_
  | refine y_c ?_
  | refine y_op ?_
  | refine y_seq ?_
  | refine y_asg ?_
  | refine y_gname (by simp only [L2.wipe, List.map_cons, List.map_nil, List.set_cons_zero, List.set_cons_succ]; rfl) ?_
  | refine y_cb ?_
  | refine y_cons ?_
  | refine y_nil ?_
  | refine y_ret ?_
  | refine y_if ?_
  | refine y_andV ?_
  | refine y_orV ?_
  | refine y_notV ?_
  | refine y_un ?_
  | refine y_tTest ?_
  | refine y_tB ?_
  | refine y_tNot ?_
  | refine y_tAnd ?_
  | refine y_tOr ?_
  | refine y_tIf ?_
  | refine y_chain ?_
  | refine y_call ?_
  | refine y_lst ?_
  | refine y_tup ?_
  | refine y_slice ?_
  | refine y_part ?_
  | refine y_nopart ?_
  | refine y_bm ?_
  | refine y_bm0 ?_
  | refine y_dget ?_
  | refine y_din ?_
  | refine y_dnotin ?_
  | refine y_dnew ?_
  | refine y_next ?_
  | refine y_retN ?_
  | refine y_drop ?_
  | refine y_gsub ?_
  | refine y_par3 ?_
  | refine y_par ?_
  | refine y_dput ?_
  | refine r_add ?_
  | refine r_sub ?_
  | refine r_lt ?_
  | refine r_le ?_
  | refine r_gt ?_
  | refine r_ge ?_
  | refine r_leS ?_
  | refine r_eq (by with_unfolding_all rfl) ?_
  | refine r_ne (by with_unfolding_all rfl) ?_
  | refine r_isN ?_
  | refine r_isB ?_
  | refine r_notN ?_
  | refine r_notB ?_
  | refine y_neg ?_
  | refine tkK ?_
  | refine ikK ?_
  | refine andK_t ?_
  | refine andK_f ?_)
local macro_rules | `(tactic| walk_at "py") => `(tactic| repeat walk_at "py1")
local macro_rules | `(tactic| walk_at "py1") => `(tactic| with_reducible first
  | refine y_lc ?_
  | refine y_lenSet ?_
  | refine y_listVals ?_
  | refine y_listItems ?_
  | refine y_yes ?_
  | refine y_allE fun _ _ _ _ _ => ?_
  | refine y_allT fun _ _ _ _ _ => ?_
  | refine y_allG fun _ _ _ _ _ => ?_
  | refine iteT ?_
  | refine iteF ?_
  | refine iteNT ?_
  | refine iteNF ?_
  | refine y_iList ?_
  | refine y_iStr ?_
  | refine y_iRng ?_)
local macro_rules | `(tactic| walk_at "py1") => `(tactic| with_reducible first
  | refine y_for ?_)
-- the numbers of the drawing
local macro_rules | `(tactic| walk_at "nums") => `(tactic| first
  | (refine r_pow ⟨by decide +kernel, by decide +kernel, by decide +kernel⟩ ?_)
  | (refine r_mul (wide_mul (a := 400) (b := 400) (by decide +kernel) (by decide +kernel) (by decide) (by decide) (by decide)) ?_)
  | (refine r_mod (by decide +kernel) ?_))

def top (i : Nat) : Stmt := PySem.Challenge.pw_floodline_k03_frames_judged.main.body.getD i (.Pass ⟨0, 0, 0, 0⟩)
abbrev s_is_integer : Stmt := top 6
abbrev nn_is_integer : List Str := ["value"]
theorem sc_is_integer : FnScope nn_is_integer ["value"] (defScope s_is_integer) := ⟨rfl, rfl, rfl, by decide +kernel, rfl, by decide +kernel, by decide +kernel⟩
abbrev s_is_position : Stmt := top 7
abbrev nn_is_position : List Str := ["value"]
theorem sc_is_position : FnScope nn_is_position ["value"] (defScope s_is_position) := ⟨rfl, rfl, rfl, by decide +kernel, rfl, by decide +kernel, by decide +kernel⟩
abbrev s_is_name : Stmt := top 8
abbrev nn_is_name : List Str := ["value", "letter"]
theorem sc_is_name : FnScope nn_is_name ["value"] (defScope s_is_name) := ⟨rfl, rfl, rfl, by decide +kernel, rfl, by decide +kernel, by decide +kernel⟩
abbrev s_is_list : Stmt := top 9
abbrev nn_is_list : List Str := ["value"]
theorem sc_is_list : FnScope nn_is_list ["value"] (defScope s_is_list) := ⟨rfl, rfl, rfl, by decide +kernel, rfl, by decide +kernel, by decide +kernel⟩
abbrev s_is_pair : Stmt := top 10
abbrev nn_is_pair : List Str := ["value"]
theorem sc_is_pair : FnScope nn_is_pair ["value"] (defScope s_is_pair) := ⟨rfl, rfl, rfl, by decide +kernel, rfl, by decide +kernel, by decide +kernel⟩
abbrev s_is_line : Stmt := top 14
abbrev nn_is_line : List Str := ["value", "host", "position"]
theorem sc_is_line : FnScope nn_is_line ["value"] (defScope s_is_line) := ⟨rfl, rfl, rfl, by decide +kernel, rfl, by decide +kernel, by decide +kernel⟩
abbrev s_is_frames : Stmt := top 15
abbrev nn_is_frames : List Str := ["line", "value", "item"]
theorem sc_is_frames : FnScope nn_is_frames ["line", "value"] (defScope s_is_frames) := ⟨rfl, rfl, rfl, by decide +kernel, rfl, by decide +kernel, by decide +kernel⟩
abbrev s_is_host : Stmt := top 16
abbrev nn_is_host : List Str := ["line", "value"]
theorem sc_is_host : FnScope nn_is_host ["line", "value"] (defScope s_is_host) := ⟨rfl, rfl, rfl, by decide +kernel, rfl, by decide +kernel, by decide +kernel⟩
abbrev s_is_frame : Stmt := top 17
abbrev nn_is_frame : List Str := ["line", "value", "sender", "target"]
theorem sc_is_frame : FnScope nn_is_frame ["line", "value"] (defScope s_is_frame) := ⟨rfl, rfl, rfl, by decide +kernel, rfl, by decide +kernel, by decide +kernel⟩
abbrev s_check_line : Stmt := top 18
abbrev nn_check_line : List Str := ["line"]
theorem sc_check_line : FnScope nn_check_line ["line"] (defScope s_check_line) := ⟨rfl, rfl, rfl, by decide +kernel, rfl, by decide +kernel, by decide +kernel⟩
abbrev s__law_reel : Stmt := top 20
abbrev nn__law_reel : List Str := ["script", "stir", "cell", "great"]
theorem sc__law_reel : FnScope nn__law_reel ["script"] (defScope s__law_reel) := ⟨rfl, rfl, rfl, by decide +kernel, rfl, by decide +kernel, by decide +kernel⟩
abbrev s__law_draw : Stmt := top 21
abbrev nn__law_draw : List Str := ["reel", "many", "rest", "extra", "stir"]
theorem sc__law_draw : FnScope nn__law_draw ["reel", "many"] (defScope s__law_draw) := ⟨rfl, rfl, rfl, by decide +kernel, rfl, by decide +kernel, by decide +kernel⟩
abbrev s__law_net : Stmt := top 22
abbrev nn__law_net : List Str := ["reel", "most", "way", "count", "found", "pool", "place", "turn", "names", "mixed", "sign", "name"]
theorem sc__law_net : FnScope nn__law_net ["reel", "most"] (defScope s__law_net) := ⟨rfl, rfl, rfl, by decide +kernel, rfl, by decide +kernel, by decide +kernel⟩
abbrev s__law_sends : Stmt := top 23
abbrev nn__law_sends : List Str := ["reel", "net", "many", "names", "found", "way", "few", "turn", "pool", "sender", "others", "name"]
theorem sc__law_sends : FnScope nn__law_sends ["reel", "net", "many"] (defScope s__law_sends) := ⟨rfl, rfl, rfl, by decide +kernel, rfl, by decide +kernel, by decide +kernel⟩
abbrev s_law : Stmt := top 24
abbrev nn_law : List Str := ["script", "reel", "k", "net", "sends", "names", "one", "other", "at", "odd", "bad", "good", "kept", "item", "value"]
theorem sc_law : FnScope nn_law ["script"] (defScope s_law) := ⟨rfl, rfl, rfl, by decide +kernel, rfl, by decide +kernel, by decide +kernel⟩
structure Tx (mg : Str → Option Value) : Prop where
  b_all : mg "all" = none
  b_bool : mg "bool" = none
  b_dict : mg "dict" = none
  b_int : mg "int" = none
  b_isinstance : mg "isinstance" = none
  b_len : mg "len" = none
  b_list : mg "list" = none
  b_min : mg "min" = none
  b_range : mg "range" = none
  b_repr : mg "repr" = none
  b_set : mg "set" = none
  b_sorted : mg "sorted" = none
  b_str : mg "str" = none
  b_tuple : mg "tuple" = none
  b_type : mg "type" = none
  g_FARTHEST : ∃ t, mg "FARTHEST" = some (.int (1000000000000000000000000000000) t)
  g_MOST_FRAMES : ∃ t, mg "MOST_FRAMES" = some (.int (300) t)
  g_MOST_HOSTS : ∃ t, mg "MOST_HOSTS" = some (.int (40) t)
  g_MOST_LETTERS : ∃ t, mg "MOST_LETTERS" = some (.int (8) t)
section
variable {P : Program} {w : World} {K : PySem.W.Frag} {mg : Str → Option Value} {base : Heap}
/-- whether a value is an int -/
def isI : V → Bool
  | .int _ => true
  | _ => false
def sp_is_integer : Sp := fun vs H Q _ => ∃ (x : V) (s : String), vs = [x] ∧ Ar H x s ∧ Q (.bl (isI x)) H
theorem ok_is_integer (T : Tx mg) (D : At K mg "is_integer" s_is_integer ["value"]) : Dfn P w K mg base "is_integer" ["value"] 1 (sp_is_integer ) := by
  refine dfn D sc_is_integer (fun vs H Q E h => ?_) (fun X f cdv A outer s H vs Q E hX hr h => ?_)
  · obtain ⟨x, s, rfl, ha, q⟩ := h
    rfl
  · subst hX
    obtain ⟨x, s, rfl, ha, q⟩ := h
    refine ⟨_, (pss_one (ps_ret (pe_and (pe_callB call_isi (by rfl) T.b_isinstance (by decide +kernel) (pa_cons (pvl 0) (pa_cons (pe_bltn (v := .ty "int") (by rfl) T.b_int boot_int rfl) pa_nil))) (pe_one (pe_not (pe_callB call_isi (by rfl) T.b_isinstance (by decide +kernel) (pa_cons (pvl 0) (pa_cons (pe_bltn (v := .ty "bool") (by rfl) T.b_bool (by decide +kernel) rfl) pa_nil)))))))), ?_⟩
    refine y_start (σ' := [some _]) (by rfl) ?_
    walk_at "py"
    refine r_isi ha (by simp) ?_
    cases ha
    all_goals (try exact andK_f q)
    all_goals (refine andK_t ?_; (walk_at "py"))
    · exact r_isi (.bl _) (by simp) (tkK q)
    · exact r_isi (.int _) (by simp) (tkK q)
def isNm : V → Bool
  | .str z => nmStr z
  | _ => false
def sp_is_name : Sp := fun vs H Q _ => ∃ (x : V) (s : String), vs = [x] ∧ Ar H x s ∧ (∀ z, x = .str z → z.length ≤ 100000) ∧ ∀ H', Same H H' → Q (.bl (isNm x)) H'
theorem sign_lt (c d : Nat) : decide ((⟨#[c]⟩ : Str).cps.toList < (⟨#[d]⟩ : Str).cps.toList) = decide (c < d) := by
  refine decide_eq_decide.mpr ?_
  show [c] < [d] ↔ c < d
  rw [List.cons_lt_cons_iff]
  exact ⟨fun h => h.elim id fun z => absurd z.2 (by simp), fun h => .inl h⟩
theorem sign_a : (Str.ofString "a" : Str) = ⟨#[97]⟩ := by decide +kernel
theorem sign_z : (Str.ofString "z" : Str) = ⟨#[122]⟩ := by decide +kernel
theorem ok_is_name (T : Tx mg) (D : At K mg "is_name" s_is_name ["value"]) : Dfn P w K mg base "is_name" ["value"] 1 (sp_is_name ) := by
  refine dfn D sc_is_name (fun vs H Q E h => ?_) (fun X f cdv A outer s H vs Q E hX hr h => ?_)
  · obtain ⟨x, s, rfl, ha, hz, q⟩ := h
    rfl
  · subst hX
    obtain ⟨x, s, rfl, ha, hz, q⟩ := h
    refine ⟨_, (pss_cons (ps_if (PW.pt (pw_or (pt_not (pt_val (pe_callB call_isi (by rfl) T.b_isinstance (by decide +kernel) (pa_cons (pvl 0) (pa_cons (pe_bltn (v := .ty "str") (by rfl) T.b_str (by decide +kernel) rfl) pa_nil))))) (pw_or1 (pt_not (pt_chain opLe opLe pe_int (pe_callB call_len (by rfl) T.b_len PySem.boot_len (pa_cons (pvl 0) pa_nil)) (pe_glob (v := .int (8)) (by rfl) (Exists.choose_spec T.g_MOST_LETTERS) ⟨_, rfl⟩)))))) (pss_one (ps_ret pe_bl)) pss_nil) (pss_one (ps_ret (pe_callB (cr_all rfl) (by rfl) T.b_all (by decide +kernel) (pa_cons (pe_lc (own := [("letter", 1)]) (g := gName 1) (tt := tYes) rfl sc_is_name.nd (pi_str (pvl 0)) (blkOk_by (own := [("letter", 1)]) (N := nn_is_name) (sc := defScope s_is_name) (by decide +kernel)) (fun _ _ _ _ _ => (pg_name (i := 1) sc_is_name.nd rfl (Or.inl rfl))) (fun _ _ _ _ _ => pts_nil) (blk_e fun _ _ _ _ _ => (pe_chain opLe opLe pe_str (pvl 1) pe_str))) pa_nil))))), ?_⟩
    refine y_start (σ' := [some _, none]) (by rfl) ?_
    walk_at "py"
    refine r_isi ha (by simp) ?_
    walk_at "py"
    refine ite_b (fun e => ?_) (fun e => ?_)
    · have e1 : isT s "str" = false := by simpa using e
      have e2 : isNm x = false := by
        cases x with
        | str z => exact absurd rfl (ha.noStr e1 z)
        | _ => rfl
      refine iteT ?_
      walk_at "py"
      have q2 := q H (Same.refl H)
      rw [e2] at q2
      exact q2
    obtain ⟨z, rfl⟩ := ha.isStr (by simpa using e)
    have hz := hz z rfl
    walk_at "py"
    refine ⟨.str z, z.length, rfl, ⟨le_line (by omega), rfl⟩, ?_⟩
    walk_at "py"
    refine andK_b (fun e1 => ?_) (fun e1 => ?_)
    rotate_left
    · walk_at "py"
      have q2 := q H (Same.refl H)
      have e2 : isNm (.str z) = false := by
        have e3 := of_decide_eq_false e1
        show nmStr z = false
        unfold nmStr
        rw [decide_eq_false (by omega)]; rfl
      rw [e2] at q2
      exact q2
    have e2 := of_decide_eq_true e1
    walk_at "py"
    refine ite_b (fun e3 => ?_) (fun e3 => ?_)
    · have e4 : ¬ (z.length : Int) ≤ 8 := by simpa using e3
      walk_at "py"
      have q2 := q H (Same.refl H)
      have e2 : isNm (.str z) = false := by
        show nmStr z = false
        unfold nmStr
        rw [decide_eq_false (by omega)]; rfl
      rw [e2] at q2
      exact q2
    have e4 : (z.length : Int) ≤ 8 := by simpa using e3
    walk_at "py"
    refine ⟨z, rfl, ?_⟩
    refine lc_led (Led.same0 H) walk_str (by show z.length ≤ 100000; omega) (fun i acc F' L' => Same H F' ∧ L' = [] ∧ acc = ((z.cps.toList.take i).map fun c => decide (97 ≤ c ∧ c ≤ 122)).map V.bl) ⟨Same.refl H, rfl, rfl⟩ (fun _ _ _ _ _ _ _ _ => trivial) ?_ ?_
    · rintro Kp Sk i acc F' L' H' Dl x hi ⟨c, hc, rfl⟩ ⟨i1, rfl, i3⟩ D ha kp sk
      walk_at "py"
      refine ⟨rfl, ?_⟩
      walk_at "py"
      rw [sign_a, sign_lt]
      have ec : z.cps.toList[i]? = some c := by simpa using hc
      have et : (z.cps.toList.take (i + 1)) = z.cps.toList.take i ++ [c] := by rw [List.take_add_one, ec]; rfl
      have fin : ∀ b : Bool, b = decide (97 ≤ c ∧ c ≤ 122) → Kp (.bl b) H' := fun b eb => by
        refine kp _ F' [] H' D ⟨i1, rfl, ?_⟩
        rw [et, i3, eb]; simp
      refine andK_b (fun e5 => ?_) (fun e5 => fin _ ?_)
      · walk_at "py"
        rw [sign_z, sign_lt]
        refine fin _ ?_
        have e6 : ¬ c < 97 := by simpa using e5
        by_cases e7 : 122 < c
        · rw [decide_eq_true e7, decide_eq_false (by omega)]; rfl
        · rw [decide_eq_false e7, decide_eq_true (by omega)]; rfl
      · have e6 : c < 97 := by simpa using e5
        rw [decide_eq_false (by omega)]
    · rintro acc F' L' H' Dl ⟨i1, rfl, i3⟩ D ha
      walk_at "py"
      refine ⟨Dl, _, rfl, SqL.of (by rw [← i3]; exact D.get 0), ?_⟩
      have q2 := q H' (i1.trans D.ext)
      have e5 : isNm (.str z) = ((z.cps.toList.take z.cps.size).map fun c => decide (97 ≤ c ∧ c ≤ 122)).all id := by
        show nmStr z = _
        unfold nmStr
        rw [decide_eq_true (by omega), Bool.true_and, List.take_of_length_le (by simp), List.all_map]
        rfl
      rw [e5] at q2
      exact q2
def sp_is_list : Sp := fun vs H Q _ => ∃ (x : V) (s : String), vs = [x] ∧ Ar H x s ∧ Q (.bl (decide (s = "list"))) H
theorem ok_is_list (T : Tx mg) (D : At K mg "is_list" s_is_list ["value"]) : Dfn P w K mg base "is_list" ["value"] 1 (sp_is_list ) := by
  refine dfn D sc_is_list (fun vs H Q E h => ?_) (fun X f cdv A outer s H vs Q E hX hr h => ?_)
  · obtain ⟨x, s, rfl, ha, q⟩ := h
    rfl
  · subst hX
    obtain ⟨x, s, rfl, ha, q⟩ := h
    refine ⟨_, (pss_one (ps_ret (pe_cmpR (opEq hr.units) (pe_callTy call_type1 (by rfl) T.b_type (by decide +kernel) (pa_cons (pvl 0) pa_nil)) (pe_bltn (v := .ty "list") (by rfl) T.b_list boot_list rfl) (nomark _)))), ?_⟩
    refine y_start (σ' := [some _]) (by rfl) ?_
    walk_at "py"
    refine r_typ ha ?_
    walk_at "py"
    exact r_eqT ha.isTy TypeEq.meta_list q
def sp_is_pair : Sp := fun vs H Q _ => ∃ (x : V) (s : String) (b : Bool), vs = [x] ∧ Ar H x s ∧ (b = true ↔ ∃ t u v, x = .ref t ∧ H t = some (.tup [u, v])) ∧ (∀ t xs, x = .ref t → H t = some (.tup xs) → xs.length ≤ 100000) ∧ Q (.bl b) H
theorem ok_is_pair (T : Tx mg) (D : At K mg "is_pair" s_is_pair ["value"]) : Dfn P w K mg base "is_pair" ["value"] 1 (sp_is_pair ) := by
  refine dfn D sc_is_pair (fun vs H Q E h => ?_) (fun X f cdv A outer s H vs Q E hX hr h => ?_)
  · obtain ⟨x, s, b, rfl, ha, hb, hz, q⟩ := h
    rfl
  · subst hX
    obtain ⟨x, s, b, rfl, ha, hb, hz, q⟩ := h
    refine ⟨_, (pss_one (ps_ret (pe_and (pe_cmpR (opEq hr.units) (pe_callTy call_type1 (by rfl) T.b_type (by decide +kernel) (pa_cons (pvl 0) pa_nil)) (pe_bltn (v := .ty "tuple") (by rfl) T.b_tuple boot_tuple rfl) (nomark _)) (pe_one (pe_cmpR (opEq hr.units) (pe_callB call_len (by rfl) T.b_len PySem.boot_len (pa_cons (pvl 0) pa_nil)) pe_int (nomark _)))))), ?_⟩
    refine y_start (σ' := [some _]) (by rfl) ?_
    walk_at "py"
    refine r_typ ha ?_
    walk_at "py"
    refine r_eqT ha.isTy TypeEq.meta_tuple ?_
    refine andK_b (fun e => ?_) (fun e => ?_)
    · have e := of_decide_eq_true e
      obtain ⟨t, xs, rfl, ht⟩ := ha.isTup (by rw [e]; decide)
      walk_at "py"
      refine ⟨.ref t, xs.length, rfl, Or.inr ⟨xs, SqT.of ht, rfl⟩, ?_⟩
      walk_at "py"
      have e2 : decide (V.int (xs.length : Int) = V.int 2) = b := by
        by_cases h2 : xs.length = 2
        · obtain ⟨u, v, rfl⟩ : ∃ u v, xs = [u, v] := by
            match xs, h2 with
            | [u, v], _ => exact ⟨u, v, rfl⟩
          rw [hb.mpr ⟨t, u, v, rfl, ht⟩]; rfl
        · rw [decide_eq_false (fun z => h2 (by injection z with z; omega))]
          cases b with
          | false => rfl
          | true =>
            obtain ⟨t', u, v, e1, e2⟩ := hb.mp rfl
            cases e1
            rw [ht] at e2
            cases e2
            exact absurd rfl h2
      rw [e2]; exact q
    · have e := of_decide_eq_false e
      cases b with
      | false => exact q
      | true =>
        obtain ⟨t', u, v, rfl, e2⟩ := hb.mp rfl
        cases ha with
        | tup h => exact absurd rfl e
        | lst h => rw [h] at e2; cases e2
        | dK h => rw [h] at e2; cases e2
def sp_is_host : Sp := fun vs H Q _ => ∃ (a : Addr) (x : V) (s : String) (ks : List (Str × Int)), vs = [.ref a, x] ∧ H a = some (.dK (lineK ks)) ∧ Ar H x s ∧ Q (.bl (isHost ks x)) H
theorem ok_is_host (T : Tx mg) (D : At K mg "is_host" s_is_host ["line", "value"]) : Dfn P w K mg base "is_host" ["line", "value"] 1 (sp_is_host ) := by
  refine dfn D sc_is_host (fun vs H Q E h => ?_) (fun X f cdv A outer s H vs Q E hX hr h => ?_)
  · obtain ⟨a, x, s, ks, rfl, hl, ha, q⟩ := h
    rfl
  · subst hX
    obtain ⟨a, x, s, ks, rfl, hl, ha, q⟩ := h
    refine ⟨_, (pss_one (ps_ret (pe_and (pe_callB call_isi (by rfl) T.b_isinstance (by decide +kernel) (pa_cons (pvl 1) (pa_cons (pe_bltn (v := .ty "str") (by rfl) T.b_str (by decide +kernel) rfl) pa_nil))) (pe_one (pe_cmp (pc_din (hu_of hr) (pvl 1) (pvl 0))))))), ?_⟩
    refine y_start (σ' := [some _, some _]) (by rfl) ?_
    walk_at "py"
    refine r_isi ha (by simp) ?_
    refine andK_b (fun e => ?_) (fun e => ?_)
    · obtain ⟨z, rfl⟩ := ha.isStr e
      walk_at "py"
      refine ⟨a, _, rfl, DGet.k (k := Sum.inr z) hl, ?_⟩
      rw [valV_line]
      exact q
    · have e2 : isHost ks x = false := by
        cases x with
        | str z => exact absurd rfl (ha.noStr e z)
        | _ => rfl
      rw [e2] at q
      exact q
def sp__law_reel (K : PySem.W.Frag) : Sp := fun vs H Q _ => ∃ (F : Hp) (L : List (Addr × HO)) (a : Addr) (ns : List Int), vs = [.ref a] ∧ Led H F L ∧ SqL K F a (ns.map V.int) ∧ ns.length ≤ 63 ∧
  ∀ r g c R F' H', Same F F' → Led H' F' (rE r g c R ++ L) → RlOk R → R.n = 0 → Q (.ref r) H'
theorem ok__law_reel (T : Tx mg) (D : At K mg "_law_reel" s__law_reel ["script"]) : Dfn P w K mg base "_law_reel" ["script"] 1 (sp__law_reel K) := by
  refine dfn D sc__law_reel (fun vs H Q E h => ?_) (fun X f cdv A outer s H vs Q E hX hr h => ?_)
  · obtain ⟨F, L, a, ns, rfl, D0, hs, hl, q⟩ := h
    rfl
  · subst hX
    obtain ⟨F, L, a, ns, rfl, D0, hs, hl, q⟩ := h
    refine ⟨_, (pss_cons (ps_set (i := 1) sc__law_reel.nd rfl (Or.inl rfl) (pe_op opPow pe_int pe_int)) (pss_cons (ps_for PassesOwn.never rfl (pi_list (pe_slice sl_list (pvl 0) po_none (po_some pe_int))) (pg_name (i := 2) sc__law_reel.nd rfl (Or.inl rfl)) (pss_one (ps_set (i := 1) sc__law_reel.nd rfl (Or.inl rfl) (pe_op opMod (pe_op opAdd (pe_op opAdd (pe_op opMul (pvl 1) (pvl 1)) (pe_op opMod (pvl 2) pe_int)) pe_int) (pe_op opSub (pe_op opMul (pe_op opPow pe_int pe_int) (pe_op opPow pe_int pe_int)) pe_int))))) (pss_cons (ps_setLc (i := 3) (own := [("cell", 2)]) (g := gName 2)  rfl sc__law_reel.nd rfl rfl (sw_true rfl rfl rfl (by decide +kernel)) (pi_list (pe_slice sl_list (pvl 0) po_none (po_some pe_int))) (blkOk_by (own := [("cell", 2)]) (N := nn__law_reel) (sc := defScope s__law_reel) (by decide +kernel)) (fun _ _ _ _ _ => (pg_name (i := 2) sc__law_reel.nd rfl (Or.inl rfl))) (blk_t fun _ _ _ _ _ => (pts_one (pt_cmpR opGe (pvl 2) (pe_op opPow pe_int pe_int) (nomark _)))) (blk_e fun _ _ _ _ _ => (pe_op opSub (pvl 2) (pe_op opPow pe_int pe_int)))) (pss_one (ps_ret (pe_lst (pa_cons (pvl 3) (pa_cons (pe_op opAdd (pe_lc (own := [("cell", 2)]) (g := gName 2) (tt := tYes) rfl sc__law_reel.nd (pi_list (pe_slice sl_list (pvl 0) po_none (po_some pe_int))) (blkOk_by (own := [("cell", 2)]) (N := nn__law_reel) (sc := defScope s__law_reel) (by decide +kernel)) (fun _ _ _ _ _ => (pg_name (i := 2) sc__law_reel.nd rfl (Or.inl rfl))) (fun _ _ _ _ _ => pts_nil) (blk_e fun _ _ _ _ _ => (pe_op opMod (pvl 2) pe_int))) (pe_lst (pa_cons pe_int pa_nil))) (pa_cons pe_int (pa_cons (pvl 1) pa_nil)))))))))), ?_⟩
    refine y_start (σ' := [some _, none, none, none]) (by rfl) ?_
    walk_at "py"
    walk_at "nums"
    walk_at "py"
    have cut : cutV (ns.map V.int) none (some 63) = ns.map V.int := (cut_take _ 63).trans (List.take_of_length_le (by rw [List.length_map]; exact hl))
    refine r_sl (D0.seq hs) ?_
    rw [cut]
    intro p np
    generalize eh : upd H p _ = H1
    obtain ⟨F1, e1, hp, -, D1⟩ := D0.nf np eh
    refine ⟨p, rfl, ⟨_, SqL.of (D1.frz hp)⟩, ?_⟩
    refine for_any (walk_list (xs := ns.map V.int)) (fun i σ' H' => ∃ (st : Int) (v : Option V), σ' = [some (.ref a), some (.int st), v, none] ∧ H' = H1 ∧ 0 ≤ st ∧ st < 2 ^ 140) ⟨_, _, rfl, rfl, by decide +kernel, by decide +kernel⟩ (fun i σ' H' ⟨st, v, _, e, _⟩ => by rw [e]; exact SqL.of (D1.frz hp)) ?_ ?_
    · rintro i x σ' H' hi hx ⟨st, v, rfl, rfl, h0, h1⟩
      obtain ⟨z, rfl⟩ : ∃ z, x = V.int z := by
        rw [List.getElem?_map] at hx
        cases e : ns[i]? with
        | none => rw [e] at hx; cases hx
        | some z => rw [e] at hx; exact ⟨z, (Option.some.inj hx).symm⟩
      walk_at "py"
      refine r_mul (wide_mul (abs_lt h0 h1) (abs_lt h0 h1) (by decide) (by decide) (by decide)) ?_
      walk_at "py"
      walk_at "nums"
      walk_at "py"
      walk_at "nums"
      walk_at "py"
      walk_at "nums"
      walk_at "nums"
      walk_at "py"
      walk_at "nums"
      walk_at "py"
      obtain ⟨m0, m1⟩ := mod_m (st * st + z % 1000000000000000003 + 29)
      exact ⟨_, _, rfl, rfl, m0, m1⟩
    · rintro σ' H' ⟨st, v, rfl, rfl, h0, h1⟩
      walk_at "py"
      refine r_sl (D1.seq (e1.seq hs)) ?_
      rw [cut]
      intro p2 np2
      generalize eh2 : upd H' p2 _ = H2
      obtain ⟨F2, e2, hp2, -, D2⟩ := D1.nf np2 eh2
      refine ⟨p2, rfl, ⟨_, SqL.of (D2.frz hp2)⟩, ?_⟩
      refine lc_led D2 (walk_list (xs := ns.map V.int)) (by rw [List.length_map]; omega) (fun i acc F' L' => F' = F2 ∧ L' = L ∧ ∃ gs : List Int, acc = gs.map V.int) ⟨rfl, rfl, [], rfl⟩
        (fun i acc F' L' H' Dl ⟨z, _, _⟩ D => SqL.of (D.ext _ _ (by rw [z]; exact hp2))) ?_ ?_
      · rintro Kp Sk i acc F' L' H3 Dl x hi hx ⟨rfl, rfl, gs, rfl⟩ D ha kp sk
        obtain ⟨z, rfl, hz⟩ := ints_at hx
        walk_at "py"
        refine ⟨rfl, ?_⟩
        walk_at "py"
        walk_at "nums"
        walk_at "py"
        refine ite_b (fun _ => ?_) (fun _ => sk F' L' H3 D ⟨rfl, rfl, gs, rfl⟩)
        walk_at "py"
        walk_at "nums"
        walk_at "py"
        exact kp _ F' L' H3 D ⟨rfl, rfl, gs ++ [_], by rw [List.map_append]; rfl⟩
      rintro acc F3 L3 H3 Dg ⟨rfl, rfl, gs, rfl⟩ D3 hgl
      walk_at "py"
      refine r_sl (D3.seq (e2.seq (e1.seq hs))) ?_
      rw [cut]
      intro p4 np4
      generalize eh4 : upd H3 p4 _ = H4
      obtain ⟨F4, e4, hp4, -, D4⟩ := D3.nf np4 eh4
      refine ⟨p4, rfl, ⟨_, SqL.of (D4.frz hp4)⟩, ?_⟩
      refine lc_led D4 (walk_list (xs := ns.map V.int)) (by rw [List.length_map]; omega) (fun i acc F' L' => F' = F4 ∧ L' = (Dg, .lst (gs.map V.int)) :: L3 ∧ ∃ cs : List Int, acc = cs.map V.int ∧ ∀ x ∈ cs, 0 ≤ x ∧ x < 1000003) ⟨rfl, rfl, [], rfl, by simp⟩
        (fun i acc F' L' H' Dl ⟨z, _, _⟩ D => SqL.of (D.ext _ _ (by rw [z]; exact hp4))) ?_ ?_
      · rintro Kp Sk i acc F' L' H5 Dl x hi hx ⟨rfl, rfl, cs, rfl, hcs⟩ D ha kp sk
        obtain ⟨z, rfl, hz⟩ := ints_at hx
        walk_at "py"
        refine ⟨rfl, ?_⟩
        walk_at "py"
        walk_at "nums"
        refine kp _ F' _ H5 D ⟨rfl, rfl, cs ++ [_], by rw [List.map_append]; rfl, fun y hy => ?_⟩
        rcases List.mem_append.mp hy with h | h
        · exact hcs y h
        · rw [List.mem_singleton.mp h]; exact ⟨Int.emod_nonneg _ (by decide), Int.emod_lt_of_pos _ (by decide)⟩
      rintro acc F5 L5 H5 Dc ⟨rfl, rfl, cs, rfl, hcs⟩ D5 hcl
      walk_at "py"
      refine ⟨by decide, ?_⟩
      intro p6 np6
      generalize eh6 : upd H5 p6 _ = H6
      have D6 := D5.nl np6 eh6
      refine r_addL (D6.get 1) (D6.get 0) (by rw [List.length_map] at hcl ⊢; rw [List.length_map] at hcl; exact le_line (by show cs.length + 1 ≤ 1000000; omega)) ?_
      intro p7 np7
      generalize eh7 : upd H6 p7 _ = H7
      have D7 := D6.nl np7 eh7
      walk_at "py"
      refine ⟨by show 4 ≤ sizeLine; decide, ?_⟩
      intro p8 np8
      generalize eh8 : upd H7 p8 _ = H8
      have D8 := D7.nl np8 eh8
      rw [List.length_map, List.length_map] at hgl hcl
      refine q p8 Dg p7 ⟨gs, cs ++ [57], 0, st⟩ _ H8 (e1.trans (e2.trans e4)) ?_ ⟨by show gs.length ≤ 64; omega, by simp, by show (cs ++ [57]).length ≤ 64; simp; omega, fun x hx => ?_, h0, h1⟩ rfl
      · have D9 := D8.sub (L' := [_, _, _] ++ L3) (.cons₂ _ (.cons₂ _ (.cons _ (.cons _ (.cons₂ _ (List.Sublist.refl _))))))
        have D10 := (D9.perm (.cons _ (.swap _ _ _)))
        show Led H8 _ ((p8, HO.lst [.ref Dg, .ref p7, .int 0, .int st]) :: (Dg, _) :: (p7, .lst ((cs ++ [57]).map V.int)) :: L3)
        rw [List.map_append]
        exact D10
      · rcases List.mem_append.mp hx with h | h
        · exact hcs x h
        · rw [List.mem_singleton.mp h]; decide
def sp__law_draw : Sp := fun vs H Q _ => ∃ (F : Hp) (L : List (Addr × HO)) (r g c : Addr) (R : Rl) (m : Int), vs = [.ref r, .int m] ∧ Led H F (rE r g c R ++ L) ∧ RlOk R ∧ 0 < m ∧ m < 2 ^ 100 ∧ R.n < 1000000000 ∧
  ∀ d g' R' H', 0 ≤ d → d < m → Led H' F (rE r g' c R' ++ L) → RlOk R' → R'.n ≤ R.n + 1 → Q (.int d) H'
theorem ok__law_draw (T : Tx mg) (D : At K mg "_law_draw" s__law_draw ["reel", "many"]) : Dfn P w K mg base "_law_draw" ["reel", "many"] 1 (sp__law_draw ) := by
  refine dfn D sc__law_draw (fun vs H Q E h => ?_) (fun X f cdv A outer s H vs Q E hX hr h => ?_)
  · obtain ⟨F, L, r, g, c, R, m, rfl, D0, ok, hm, hm2, hn, q⟩ := h
    rfl
  · subst hX
    obtain ⟨F, L, r, g, c, R, m, rfl, D0, ok, hm, hm2, hn, q⟩ := h
    refine ⟨_, (pss_cons (ps_if (pt_cmpR (opNe hr.units) (pe_ix ix_seq (pvl 0) pe_int (fun _ _ => rfl)) (pe_lst pa_nil) (nomark _)) (pss_cons (ps_set (i := 2) sc__law_draw.nd rfl (Or.inl rfl) (pe_ix ix_seq (pe_ix ix_seq (pvl 0) pe_int (fun _ _ => rfl)) pe_int (fun _ _ => rfl))) (pss_cons (ps_asg (pe_op opAdd (pe_op opMul (pe_lst (pa_cons (pe_op opFdv (pvl 2) (pvl 1)) pa_nil)) (pe_callTy call_int1 (by rfl) T.b_int boot_int (pa_cons (pe_cmpR opGe (pvl 2) (pvl 1) (nomark _)) pa_nil))) (pe_slice sl_list (pe_ix ix_seq (pvl 0) pe_int (fun _ _ => rfl)) (po_some pe_int) po_none)) (pg_sub (pvl 0) pe_int set_list)) (pss_one (ps_ret (pe_op opMod (pvl 2) (pvl 1)))))) pss_nil) (pss_cons (ps_asg (pe_op opAdd (pe_ix ix_seq (pvl 0) pe_int (fun _ _ => rfl)) pe_int) (pg_sub (pvl 0) pe_int set_list)) (pss_cons (ps_set (i := 3) sc__law_draw.nd rfl (Or.inl rfl) (pe_ix ix_seq (pe_ix ix_seq (pvl 0) pe_int (fun _ _ => rfl)) (pe_op opMod (pe_ix ix_seq (pvl 0) pe_int (fun _ _ => rfl)) (pe_callB call_len (by rfl) T.b_len PySem.boot_len (pa_cons (pe_ix ix_seq (pvl 0) pe_int (fun _ _ => rfl)) pa_nil))) (fun _ _ => rfl))) (pss_cons (ps_set (i := 4) sc__law_draw.nd rfl (Or.inl rfl) (pe_op opAdd (pe_op opAdd (pe_op opMul (pe_ix ix_seq (pvl 0) pe_int (fun _ _ => rfl)) (pe_ix ix_seq (pvl 0) pe_int (fun _ _ => rfl))) (pe_op opMul (pe_op opAdd (pvl 3) pe_int) pe_int)) (pe_op opMul (pe_ix ix_seq (pvl 0) pe_int (fun _ _ => rfl)) pe_int))) (pss_cons (ps_asg (pe_op opMod (pvl 4) (pe_op opSub (pe_op opMul (pe_op opPow pe_int pe_int) (pe_op opPow pe_int pe_int)) pe_int)) (pg_sub (pvl 0) pe_int set_list)) (pss_one (ps_ret (pe_op opMod (pe_op opFdv (pe_ix ix_seq (pvl 0) pe_int (fun _ _ => rfl)) (pe_op opPow pe_int pe_int)) (pvl 1))))))))), ?_⟩
    refine y_start (σ' := [some _, some _, none, none, none]) (by rfl) ?_
    walk_at "py"
    refine r_ixL (SqL.of (D0.get 0)) (at_nat (k := 0) rfl) ?_
    walk_at "py"
    refine ⟨by decide, ?_⟩
    intro p np
    generalize eh : upd H p _ = H1
    have D1 := D0.nl np eh
    refine r_neD (.lst (SqL.of (D1.get 2)) (dpI R.great)) (.lst (SqL.of (D1.get 0)) (dpI [])) (shI _) (shI _) ?_
    obtain ⟨great, cells, n, stir⟩ := R
    cases great with
    | cons rest more =>
      rw [show (!PyData.eqv (.list (dI (rest :: more))) (.list (dI []))) = true from rfl]
      walk_at "py"
      refine r_ixL (SqL.of (D1.get 1)) (at_nat (k := 0) rfl) ?_
      walk_at "py"
      refine r_ixL (SqL.of (D1.get 2)) (at_nat (k := 0) rfl) ?_
      walk_at "py"
      refine r_fdv (wide_div hm (b := 101) (by omega) (by decide) (by decide)) ?_
      walk_at "py"
      refine ⟨by show 1 ≤ sizeLine; decide, ?_⟩
      intro p2 np2
      generalize eh2 : upd H1 p2 _ = H2
      have D2 := D1.nl np2 eh2
      walk_at "py"
      refine .inr ⟨_, rfl, ?_⟩
      refine r_mulL (D2.get 0) (by split <;> decide) (by split <;> decide) (by split <;> first | (show 1 * 1 ≤ sizeLine; decide) | (show 1 * 0 ≤ sizeLine; decide)) ?_
      intro p3 np3
      generalize eh3 : upd H2 p3 _ = H3
      have D3 := D2.nl np3 eh3
      walk_at "py"
      refine r_ixL (SqL.of (D3.get 3)) (at_nat (k := 0) rfl) ?_
      walk_at "py"
      refine r_sl (SqL.of (D3.get 4)) ?_
      intro p4 np4
      generalize eh4 : upd H3 p4 _ = H4
      have D4 := D3.nl np4 eh4
      have el : (List.replicate (if decide (m ≤ rest) = true then (1 : Int) else 0).toNat [V.int (rest / m)]).flatten = ((if m ≤ rest then [rest / m] else []).map V.int) := by
        by_cases h : m ≤ rest
        · rw [if_pos (decide_eq_true h), if_pos h]; rfl
        · rw [if_neg (by rw [decide_eq_false h]; decide), if_neg h]; rfl
      have ec : cutV ((rest :: more).map V.int) (some 1) none = more.map V.int := cut_drop _ 1
      have hl := ok.gl
      have hlm : more.length + 1 ≤ 64 := hl
      refine r_addL (D4.get 1) (D4.get 0) ?_ ?_
      · show _ + (cutV ((rest :: more).map V.int) (some 1) none).length ≤ _
        rw [el, ec, List.length_map, List.length_map]
        refine le_line ?_
        split <;> simp <;> omega
      intro p5 np5
      generalize eh5 : upd H4 p5 _ = H5
      have D5 := D4.nl np5 eh5
      walk_at "py"
      refine r_setL (j := 0) (D5.get 5) (by show 0 < 4; decide) ?_
      generalize eh6 : upd H5 r _ = H6
      have D6 := D5.st 5 eh6
      walk_at "py"
      refine r_mod hm ?_
      refine q _ p5 ⟨(if m ≤ rest then [rest / m] else []) ++ more, cells, n, stir⟩ H6 (Int.emod_nonneg _ (by omega)) (Int.emod_lt_of_pos _ hm) ?_ ⟨?_, ok.c1, ok.c2, ok.cb, ok.s0, ok.s1⟩ (by show n ≤ n + 1; omega)
      · have D7 := D6.sub (L' := (p5, _) :: (r, _) :: (c, _) :: L) (.cons₂ _ (.cons _ (.cons _ (.cons _ (.cons _ (.cons₂ _ (.cons _ (List.Sublist.refl _))))))))
        have D8 := D7.swap
        have e8 : (List.replicate (if decide (m ≤ rest) = true then (1 : Int) else 0).toNat [V.int (rest / m)]).flatten ++ cutV ((rest :: more).map V.int) (some 1) none = ((if m ≤ rest then [rest / m] else []) ++ more).map V.int := by
          rw [el, ec, List.map_append]
        show Led H6 F ((r, HO.lst [.ref p5, .ref c, .int n, .int stir]) :: (p5, .lst (((if m ≤ rest then [rest / m] else []) ++ more).map V.int)) :: (c, .lst (cells.map V.int)) :: L)
        rw [← e8]
        exact D8
      · show ((if m ≤ rest then [rest / m] else []) ++ more).length ≤ 64
        split <;> simp <;> omega
    | nil =>
      rw [show (!PyData.eqv (.list (dI [])) (.list (dI []))) = false from rfl]
      walk_at "py"
      refine r_ixL (SqL.of (D1.get 1)) (at_nat (k := 2) rfl) ?_
      walk_at "py"
      refine r_setL (j := 2) (D1.get 1) (by show 2 < 4; decide) ?_
      generalize eh2 : upd H1 r _ = H2
      have D2 := D1.st 1 eh2
      walk_at "py"
      refine r_ixL (SqL.of (D2.get 1)) (at_nat (k := 1) rfl) ?_
      walk_at "py"
      refine r_ixL (SqL.of (D2.get 1)) (at_nat (k := 2) rfl) ?_
      walk_at "py"
      refine r_ixL (SqL.of (D2.get 1)) (at_nat (k := 1) rfl) ?_
      walk_at "py"
      refine ⟨_, _, rfl, Or.inl ⟨_, SqL.of (D2.get 3), rfl⟩, ?_⟩
      have c1 := ok.c1
      have c1 : 1 ≤ cells.length := c1
      have cl : (cells.map V.int).length = cells.length := List.length_map ..
      rw [cl]
      refine r_mod (by omega) ?_
      obtain ⟨k, hk, ek⟩ : ∃ k : Nat, k < cells.length ∧ ((n : Int) + 1) % (cells.length : Int) = (k : Int) := by
        refine ⟨(n + 1) % cells.length, Nat.mod_lt _ (by omega), ?_⟩
        rw [Int.natCast_emod]; rfl
      rw [ek]
      obtain ⟨z, hz⟩ : ∃ z, cells[k]? = some z := ⟨_, List.getElem?_eq_getElem hk⟩
      have zb := ok.cb z (List.mem_of_getElem? hz)
      refine r_ixL (SqL.of (D2.get 3)) (at_nat (c := V.int z) (by rw [List.getElem?_map, hz]; rfl)) ?_
      walk_at "py"
      refine r_ixL (SqL.of (D2.get 1)) (at_nat (k := 3) rfl) ?_
      walk_at "py"
      refine r_ixL (SqL.of (D2.get 1)) (at_nat (k := 3) rfl) ?_
      have s0 := ok.s0
      have s1 := ok.s1
      have s0 : 0 ≤ stir := s0
      have s1 : stir < 2 ^ 140 := s1
      have hn : n < 1000000000 := hn
      refine r_mul (wide_mul (abs_lt s0 s1) (abs_lt s0 s1) (by decide) (by decide) (by decide)) ?_
      walk_at "py"
      refine r_mul (wide_mul (a := 21) (b := 26) (by omega) (by decide) (by decide) (by decide) (by decide)) ?_
      walk_at "py"
      refine r_ixL (SqL.of (D2.get 1)) (at_nat (k := 2) rfl) ?_
      walk_at "py"
      refine r_mul (wide_mul (a := 31) (b := 26) (by omega) (by decide) (by decide) (by decide) (by decide)) ?_
      walk_at "py"
      walk_at "nums"
      walk_at "py"
      walk_at "nums"
      walk_at "nums"
      walk_at "py"
      walk_at "nums"
      walk_at "py"
      obtain ⟨m0, m1⟩ := mod_m (stir * stir + (z + 11) * 32452867 + ((n : Int) + 1) * 999953)
      refine r_setL (j := 3) (D2.get 1) (by show 3 < 4; decide) ?_
      generalize eh3 : upd H2 r _ = H3
      have D3 := D2.st 1 eh3
      walk_at "py"
      refine r_ixL (SqL.of (D3.get 1)) (at_nat (k := 3) rfl) ?_
      walk_at "py"
      walk_at "nums"
      refine r_fdv (wide_div (b := 42) (by decide +kernel) (by decide +kernel) (by decide) (by decide)) ?_
      walk_at "py"
      refine r_mod hm ?_
      exact q _ g ⟨[], cells, n + 1, _⟩ H3 (Int.emod_nonneg _ (by omega)) (Int.emod_lt_of_pos _ hm) D3.drop ⟨by show 0 ≤ 64; decide, ok.c1, ok.c2, ok.cb, m0, m1⟩ (Nat.le_refl _)
def isPos : V → Bool
  | .int i => decide (-(10 ^ 30) ≤ i ∧ i ≤ 10 ^ 30)
  | _ => false
def sp_is_position : Sp := fun vs H Q _ => ∃ (x : V) (s : String), vs = [x] ∧ Ar H x s ∧ Q (.bl (isPos x)) H
theorem ok_is_position (T : Tx mg) (D : At K mg "is_position" s_is_position ["value"]) (D_is_integer : Dfn P w K mg base "is_integer" ["value"] 1 (sp_is_integer )) : Dfn P w K mg base "is_position" ["value"] 2 (sp_is_position ) := by
  refine dfn D sc_is_position (fun vs H Q E h => ?_) (fun X f cdv A outer s H vs Q E hX hr h => ?_)
  · obtain ⟨x, s, rfl, ha, q⟩ := h
    rfl
  · subst hX
    obtain ⟨x, s, rfl, ha, q⟩ := h
    refine ⟨_, (pss_one (ps_ret (pe_and (pe_callD D_is_integer (hr.mono (by decide)) (by rfl) (pa_cons (pvl 0) pa_nil)) (pe_one (pe_chain opLe opLe (pe_un un_neg (pe_glob (v := .int (1000000000000000000000000000000)) (by rfl) (Exists.choose_spec T.g_FARTHEST) ⟨_, rfl⟩)) (pvl 0) (pe_glob (v := .int (1000000000000000000000000000000)) (by rfl) (Exists.choose_spec T.g_FARTHEST) ⟨_, rfl⟩)))))), ?_⟩
    refine y_start (σ' := [some _]) (by rfl) ?_
    walk_at "py"
    refine ⟨x, s, rfl, ha, ?_⟩
    cases ha
    all_goals (try exact andK_f q)
    rename_i i
    refine andK_t ?_
    walk_at "py"
    refine andK_b (fun e => ?_) (fun e => ?_)
    · walk_at "py"
      have e1 := of_decide_eq_true e
      have e2 : (decide (i ≤ 1000000000000000000000000000000)) = isPos (.int i) := by
        show _ = decide (-(10 ^ 30) ≤ i ∧ i ≤ 10 ^ 30)
        exact decide_eq_decide.mpr ⟨fun z => ⟨by omega, by omega⟩, fun z => by omega⟩
      rw [e2]; exact q
    · have e1 := of_decide_eq_false e
      have e2 : isPos (.int i) = false := decide_eq_false fun z => e1 (by omega)
      rw [e2] at q; exact q
def sp_is_frame : Sp := fun vs H Q _ => ∃ (a : Addr) (x : V) (b : Bool) (ks : List (Str × Int)), vs = [.ref a, x] ∧ H a = some (.dK (lineK ks)) ∧ FrB ks H x b ∧ Q (.bl b) H
theorem ok_is_frame (T : Tx mg) (D : At K mg "is_frame" s_is_frame ["line", "value"]) (D_is_host : Dfn P w K mg base "is_host" ["line", "value"] 1 (sp_is_host )) (D_is_pair : Dfn P w K mg base "is_pair" ["value"] 1 (sp_is_pair )) : Dfn P w K mg base "is_frame" ["line", "value"] 2 (sp_is_frame ) := by
  refine dfn D sc_is_frame (fun vs H Q E h => ?_) (fun X f cdv A outer s H vs Q E hX hr h => ?_)
  · obtain ⟨a, x, b, ks, rfl, hl, hb, q⟩ := h
    rfl
  · subst hX
    obtain ⟨a, x, b, ks, rfl, hl, hb, q⟩ := h
    refine ⟨_, (pss_cons (ps_if (pt_not (pt_val (pe_callD D_is_pair (hr.mono (by decide)) (by rfl) (pa_cons (pvl 1) pa_nil)))) (pss_one (ps_ret pe_bl)) pss_nil) (pss_cons (ps_asg (pvl 1) (pg_tup rfl (pgs_cons (pg_name (i := 2) sc_is_frame.nd rfl (Or.inl rfl)) (pgs_cons (pg_name (i := 3) sc_is_frame.nd rfl (Or.inl rfl)) pgs_nil)))) (pss_one (ps_ret (pe_and (pe_callD D_is_host (hr.mono (by decide)) (by rfl) (pa_cons (pvl 0) (pa_cons (pvl 2) pa_nil))) (pe_and (pe_callD D_is_host (hr.mono (by decide)) (by rfl) (pa_cons (pvl 0) (pa_cons (pvl 3) pa_nil))) (pe_one (pe_cmpR (opNe hr.units) (pvl 2) (pvl 3) (nomark _))))))))), ?_⟩
    refine y_start (σ' := [some _, some _, none, none]) (by rfl) ?_
    have hz := hb.len
    walk_at "py"
    cases hb with
    | @no _ s h n m =>
      refine ⟨x, s, false, rfl, h, ⟨fun z => (nomatch z), fun ⟨t, u, v, e1, e2⟩ => absurd e2 (n t u v e1)⟩, hz, ?_⟩
      walk_at "py"
      exact q
    | @pair t u v s s' h hu hv =>
      refine ⟨.ref t, "tuple", true, rfl, .tup h, ⟨fun _ => ⟨t, u, v, rfl, h⟩, fun _ => rfl⟩, hz, ?_⟩
      walk_at "py"
      refine y_gtup (SqT.of h) rfl ?_
      refine y_gcons ?_
      walk_at "py"
      refine y_gcons ?_
      walk_at "py"
      refine y_gnil ?_
      walk_at "py"
      refine ⟨a, u, s, ks, rfl, hl, hu, ?_⟩
      refine andK_b (fun e => ?_) (fun e => by rw [e] at q; exact q)
      walk_at "py"
      refine ⟨a, v, s', ks, rfl, hl, hv, ?_⟩
      refine andK_b (fun e2 => ?_) (fun e2 => by rw [e, e2] at q; exact q)
      rw [e, e2] at q
      walk_at "py"
      obtain ⟨z, rfl⟩ : ∃ z, u = .str z := by cases u <;> first | exact ⟨_, rfl⟩ | cases e
      obtain ⟨z2, rfl⟩ : ∃ z, v = .str z := by cases v <;> first | exact ⟨_, rfl⟩ | cases e2
      exact r_ne rfl q
def poolA : List Str := (Str.ofString "abcdefghijklmnopqrstuvwxyz").cps.toList.map fun c => ⟨#[c]⟩
def poolB : List Str := ["ab", "ba", "zz", "abcdefgh", "all", "flood"]
def poolC : List Str := (Str.ofString "abcdefghij").cps.toList.map fun c => Str.ofString "h" ++ ⟨#[c]⟩
def POOL : List Str := poolA ++ poolB ++ poolC
theorem pool_nd : POOL.Nodup := by decide +kernel
theorem pool_nm : ∀ z ∈ POOL, nmStr z = true := by decide +kernel
theorem pool_len : POOL.length = 42 := by decide +kernel
def stepOf (k : Nat) : Int := ([1, 5, 4 * 10 ^ (28 : Int).toNat, 6] : List Int).getD k 1
theorem step_at : ∀ k : Nat, k < 4 → ([V.int 1, V.int 5, V.int (4 * 10 ^ (28 : Int).toNat), V.int 6] : List V)[k]? = some (V.int (stepOf k)) ∧ 0 < stepOf k ∧ stepOf k < 2 ^ 100
  | 0, _ => ⟨rfl, by decide +kernel, by decide +kernel⟩
  | 1, _ => ⟨rfl, by decide +kernel, by decide +kernel⟩
  | 2, _ => ⟨rfl, by decide +kernel, by decide +kernel⟩
  | 3, _ => ⟨rfl, by decide +kernel, by decide +kernel⟩
theorem place_at (d : Int) (h0 : 0 ≤ d) (h1 : d < 50) : ∀ k : Nat, k < 4 → ∃ p, ([V.int 0, V.int (0 - d), V.int (0 - 10 ^ (30 : Int).toNat), V.int (10 ^ (30 : Int).toNat - 240)] : List V)[k]? = some (V.int p) ∧ -(10 ^ 30) ≤ p ∧ p + 39 * stepOf k ≤ 10 ^ 30
  | 0, _ => ⟨_, rfl, by decide +kernel, by decide +kernel⟩
  | 1, _ => ⟨_, rfl, by omega, by rw [show stepOf 1 = 5 from rfl]; omega⟩
  | 2, _ => ⟨_, rfl, by decide +kernel, by decide +kernel⟩
  | 3, _ => ⟨_, rfl, by decide +kernel, by decide +kernel⟩
def sp__law_net : Sp := fun vs H Q _ => ∃ (F : Hp) (L : List (Addr × HO)) (r g c : Addr) (R : Rl) (m : Int), vs = [.ref r, .int m] ∧ Led H F (rE r g c R ++ L) ∧ RlOk R ∧ 1 ≤ m ∧ m ≤ 40 ∧ R.n < 999999000 ∧
  ∀ a ks g' R' F' H', LineOk ks → (∀ p ∈ ks, p.1 ∈ POOL) → (ks.length : Int) ≤ m → Same F F' → F' a = some (.dK (lineK ks)) → Led H' F' (rE r g' c R' ++ L) → RlOk R' → R'.n ≤ R.n + 200 → Q (.ref a) H'
theorem ok__law_net (T : Tx mg) (D : At K mg "_law_net" s__law_net ["reel", "most"]) (D__law_draw : Dfn P w K mg base "_law_draw" ["reel", "many"] 1 (sp__law_draw )) : Dfn P w K mg base "_law_net" ["reel", "most"] 2 (sp__law_net ) := by
  refine dfn D sc__law_net (fun vs H Q E h => ?_) (fun X f cdv A outer s H vs Q E hX hr h => ?_)
  · obtain ⟨F, L, r, g, c, R, m, rfl, D0, ok, m1, m2, hn, q⟩ := h
    rfl
  · subst hX
    obtain ⟨F, L, r, g, c, R, m, rfl, D0, ok, m1, m2, hn, q⟩ := h
    refine ⟨_, (pss_cons (ps_asg (pe_tup (pa_cons (pe_callD D__law_draw (hr.mono (by decide)) (by rfl) (pa_cons (pvc 0) (pa_cons pe_int pa_nil))) (pa_cons (pe_op opAdd pe_int (pe_callD D__law_draw (hr.mono (by decide)) (by rfl) (pa_cons (pvc 0) (pa_cons (pvl 1) pa_nil)))) (pa_cons pe_dnewK pa_nil)))) (pg_tup rfl (pgs_cons (pg_name (i := 2) sc__law_net.nd rfl (Or.inl rfl)) (pgs_cons (pg_name (i := 3) sc__law_net.nd rfl (Or.inl rfl)) (pgs_cons (pg_name (i := 4) sc__law_net.nd rfl (Or.inr rfl)) pgs_nil))))) (pss_cons (ps_set (i := 5) sc__law_net.nd rfl (Or.inl rfl) (pe_op opAdd (pe_callTy (call_listStr rfl) (by rfl) T.b_list boot_list (pa_cons pe_str pa_nil)) (pe_lst (pa_cons pe_str (pa_cons pe_str (pa_cons pe_str (pa_cons pe_str (pa_cons pe_str (pa_cons pe_str pa_nil))))))))) (pss_cons (ps_set (i := 5) sc__law_net.nd rfl (Or.inl rfl) (pe_op opAdd (pvl 5) (pe_lc (own := [("sign", 10)]) (g := gName 10) (tt := tYes) rfl sc__law_net.nd (pi_str pe_str) (blkOk_by (own := [("sign", 10)]) (N := nn__law_net) (sc := defScope s__law_net) (by decide +kernel)) (fun _ _ _ _ _ => (pg_name (i := 10) sc__law_net.nd rfl (Or.inl rfl))) (fun _ _ _ _ _ => pts_nil) (blk_e fun _ _ _ _ _ => (pe_op opAdd pe_str (pvl 10)))))) (pss_cons (ps_set (i := 6) sc__law_net.nd rfl (Or.inl rfl) (pe_ix ix_seq (pe_lst (pa_cons pe_int (pa_cons (pe_op opSub pe_int (pe_callD D__law_draw (hr.mono (by decide)) (by rfl) (pa_cons (pvc 0) (pa_cons pe_int pa_nil)))) (pa_cons (pe_op opSub pe_int (pe_op opPow pe_int pe_int)) (pa_cons (pe_op opSub (pe_op opPow pe_int pe_int) pe_int) pa_nil))))) (pvl 2) (fun _ _ => rfl))) (pss_cons (ps_for PassesOwn.never rfl (pi_range1 (by rfl) T.b_range (pa_cons (pvl 3) pa_nil)) (pg_name (i := 7) sc__law_net.nd rfl (Or.inl rfl)) (pss_cons (ps_dput (hu_of hr) (pvc 4) (pe_bm PySem.F.plainAttrs_list PySem.F.slot_list_pop PySem.F.type_list_pop mt_popAt (pvl 5) (pa_cons (pe_callD D__law_draw (hr.mono (by decide)) (by rfl) (pa_cons (pvc 0) (pa_cons (pe_callB call_len (by rfl) T.b_len PySem.boot_len (pa_cons (pvl 5) pa_nil)) pa_nil))) pa_nil)) (pvl 6) rfl) (pss_one (ps_set (i := 6) sc__law_net.nd rfl (Or.inl rfl) (pe_op opAdd (pe_op opAdd (pvl 6) pe_int) (pe_callD D__law_draw (hr.mono (by decide)) (by rfl) (pa_cons (pvc 0) (pa_cons (pe_ix ix_seq (pe_lst (pa_cons pe_int (pa_cons pe_int (pa_cons (pe_op opMul pe_int (pe_op opPow pe_int pe_int)) (pa_cons pe_int pa_nil))))) (pvl 2) (fun _ _ => rfl)) pa_nil)))))))) (pss_cons (ps_set (i := 8) sc__law_net.nd rfl (Or.inr rfl) (pe_callB (call_sortedD rfl) (by rfl) T.b_sorted (by decide +kernel) (pa_cons (pvc 4) pa_nil))) (pss_cons (ps_setLc (i := 9) (own := [("turn", 7)]) (g := gName 7) (tt := tYes) rfl sc__law_net.nd rfl rfl (sw_true rfl rfl rfl (by decide +kernel)) (pi_range1 (by rfl) T.b_range (pa_cons (pvl 3) pa_nil)) (blkOk_by (own := [("turn", 7)]) (N := nn__law_net) (sc := defScope s__law_net) (by decide +kernel)) (fun _ _ _ _ _ => (pg_name (i := 7) sc__law_net.nd rfl (Or.inl rfl))) (fun _ _ _ _ _ => pts_nil) (blk_e fun _ _ _ _ _ => (pe_bm PySem.F.plainAttrs_list PySem.F.slot_list_pop PySem.F.type_list_pop mt_popAt (pvc 8) (pa_cons (pe_callD D__law_draw (hr.mono (by decide)) (by rfl) (pa_cons (pvc 0) (pa_cons (pe_callB call_len (by rfl) T.b_len PySem.boot_len (pa_cons (pvc 8) pa_nil)) pa_nil))) pa_nil)))) (pss_one (ps_ret (pe_callTy (call_dictP rfl) (by rfl) T.b_dict boot_dict (pa_cons (pe_lc (own := [("name", 11)]) (g := gName 11) (tt := tYes) rfl sc__law_net.nd (pi_list (pvl 9)) (blkOk_by (own := [("name", 11)]) (N := nn__law_net) (sc := defScope s__law_net) (by decide +kernel)) (fun _ _ _ _ _ => (pg_name (i := 11) sc__law_net.nd rfl (Or.inl rfl))) (fun _ _ _ _ _ => pts_nil) (blk_e fun _ _ _ _ _ => (pe_tup (pa_cons (pvl 11) (pa_cons (pe_dget (hu_of hr) (pvc 4) (pvl 11) (fun _ _ => rfl)) pa_nil))))) pa_nil))))))))))), ?_⟩
    refine y_start (σ' := [some _, some _, none, none, none, none, none, none, none, none, none, none]) (by rfl) ?_
    walk_at "py"
    refine ⟨F, L, r, g, c, R, 4, rfl, D0, ok, by decide, by decide, by omega, fun d1 g1 R1 H1 a1 b1 D1 ok1 n1 => ?_⟩
    walk_at "py"
    refine ⟨F, L, r, g1, c, R1, m, rfl, D1, ok1, by omega, by omega, by omega, fun d2 g2 R2 H2 a2 b2 D2 ok2 n2 => ?_⟩
    walk_at "py"
    intro fd nfd
    generalize eh3 : upd H2 fd _ = H3
    have D3 := (D2.nl nfd eh3).back
    walk_at "py"
    refine ⟨by show 3 ≤ sizeLine; decide, ?_⟩
    intro t nt
    generalize eh4 : upd H3 t _ = H4
    have D4 := D3.nl nt eh4
    refine y_gtup (SqT.of (D4.get 0)) rfl ?_
    refine y_gcons ?_
    walk_at "py"
    refine y_gcons ?_
    walk_at "py"
    refine y_gcons ?_
    walk_at "py"
    refine y_gnil ?_
    have D5 := D4.drop
    clear D4 eh4
    walk_at "py"
    refine ⟨_, rfl, by decide +kernel, ?_⟩
    intro p1 np1
    generalize eh5 : upd H4 p1 _ = H5
    have D6 := (D5.nl np1 eh5).back
    walk_at "py"
    refine ⟨by show 6 ≤ sizeLine; decide, ?_⟩
    intro p2 np2
    generalize eh6 : upd H5 p2 _ = H6
    have D7 := (D6.nl np2 eh6).back
    refine r_addL (D7.get 4) (D7.get 3) (by decide +kernel) ?_
    intro p3 np3
    generalize eh7 : upd H6 p3 _ = H7
    have D8 := (D7.nl np3 eh7).back
    walk_at "py"
    refine ⟨_, rfl, ?_⟩
    refine lc_led D8 walk_str (by decide +kernel) (fun i acc F' L' => F' = F ∧ L' = rE r g2 c R2 ++ ((p3, .lst (signV (Str.ofString "abcdefghijklmnopqrstuvwxyz") ++ [.str "ab", .str "ba", .str "zz", .str "abcdefgh", .str "all", .str "flood"])) :: (p2, _) :: (p1, _) :: (fd, .dK []) :: L) ∧
      acc = (((Str.ofString "abcdefghij").cps.toList.take i).map fun c => Str.ofString "h" ++ ⟨#[c]⟩).map V.str) ⟨rfl, rfl, rfl⟩ (fun _ _ _ _ _ _ _ _ => trivial) ?_ ?_
    · rintro Kp Sk i acc F' L' H8 Dl x hi ⟨ch, hc, rfl⟩ ⟨rfl, rfl, rfl⟩ D ha kp sk
      walk_at "py"
      refine ⟨rfl, ?_⟩
      walk_at "py"
      refine r_addS (by show (Str.ofString "h").length + 1 ≤ sizeLine; decide +kernel) ?_
      have ec : (Str.ofString "abcdefghij").cps.toList[i]? = some ch := by simpa using hc
      exact kp _ F' _ H8 D ⟨rfl, rfl, by rw [List.take_add_one, ec, List.map_append, List.map_append]; rfl⟩
    rintro acc F8 L8 H8 Dl ⟨rfl, rfl, rfl⟩ D9 ha
    have D10 := D9.back
    refine r_addL (D10.get 4) (D10.get 3) (by decide +kernel) ?_
    intro pl npl
    generalize eh8 : upd H8 pl _ = H9
    have D11 := (D10.nl npl eh8).back
    have D12 : Led H9 F8 (rE r g2 c R2 ++ ((pl, .lst (POOL.map V.str)) :: (fd, .dK []) :: L)) := by
      have D13 := D11.sub (L' := rE r g2 c R2 ++ ((pl, _) :: (fd, _) :: L)) (.cons₂ _ (.cons₂ _ (.cons₂ _ (.cons₂ _ (.cons _ (.cons _ (.cons _ (.cons _ (.cons₂ _ (List.Sublist.refl _))))))))))
      have e : signV (Str.ofString "abcdefghijklmnopqrstuvwxyz") ++ [V.str "ab", .str "ba", .str "zz", .str "abcdefgh", .str "all", .str "flood"] ++ (((Str.ofString "abcdefghij").cps.toList.take (Str.ofString "abcdefghij").cps.size).map fun c => Str.ofString "h" ++ ⟨#[c]⟩).map V.str = POOL.map V.str := by decide +kernel
      rw [← e]; exact D13
    clear D11 D10 D9 D8 D7 D6 D5 D3 eh3 eh5 eh6 eh7 eh8
    obtain ⟨k1, rfl⟩ := Int.eq_ofNat_of_zero_le a1
    walk_at "py"
    refine ⟨F8, _, r, g2, c, R2, 50, rfl, D12, ok2, by decide, by decide, by omega, fun d3 g3 R3 H10 a3 b3 D14 ok3 n3 => ?_⟩
    walk_at "py"
    walk_at "nums"
    walk_at "py"
    walk_at "nums"
    walk_at "py"
    refine ⟨by show 4 ≤ sizeLine; decide, ?_⟩
    intro p4 np4
    generalize eh9 : upd H10 p4 _ = H11
    have D15 := D14.nl np4 eh9
    walk_at "py"
    obtain ⟨p0, hp0, pb0, pb1⟩ := place_at d3 a3 b3 k1 (by omega)
    refine r_ixL (SqL.of (D15.get 0)) (at_nat hp0) ?_
    have D16 := D15.drop
    clear D15 eh9 D14 D12
    walk_at "py"
    obtain ⟨k2, rfl⟩ := Int.eq_ofNat_of_zero_le a2
    have hk1 : k1 < 4 := by omega
    have hk2 : (k2 : Int) + 1 ≤ 40 := by omega
    obtain ⟨hst, sp0, sp1⟩ := step_at k1 hk1
    refine ⟨_, rfl, by omega, by omega, ?_⟩
    have ecn : (1 + (k2 : Int)).toNat = k2 + 1 := by omega
    rw [ecn]
    refine for_any walk_range (fun i σ' H' => ∃ g' R' ks P place tv, σ' = [some (.ref r), some (.int m), some (.int (k1 : Int)), some (.int (1 + (k2 : Int))), some (.ref fd), some (.ref pl), some (.int place), tv, none, none, none, none] ∧
        Led H' F8 (rE r g' c R' ++ ((pl, .lst (P.map V.str)) :: (fd, .dK (lineK ks)) :: L)) ∧ RlOk R' ∧ R'.n ≤ R3.n + 2 * i ∧ ks.length = i ∧ P.length + i = 42 ∧ (P ++ ks.map (·.1)).Nodup ∧ (∀ z ∈ P, z ∈ POOL) ∧
        (∀ p ∈ ks, p.1 ∈ POOL ∧ -(10 ^ 30) ≤ p.2 ∧ p.2 < place ∧ p.2 ≤ 10 ^ 30) ∧ (ks.map (·.2)).Nodup ∧ -(10 ^ 30) ≤ place ∧ place ≤ p0 + (i : Int) * stepOf k1)
      ⟨g3, R3, [], POOL, p0, none, rfl, D16, ok3, by omega, rfl, pool_len, by rw [List.map_nil, List.append_nil]; exact pool_nd, fun z hz => hz, by simp, by simp, pb0, by simp⟩ (fun _ _ _ _ => trivial) ?_ ?_
    · rintro i x σ' H' hi rfl ⟨g', R', ks, P, place, tv, rfl, D, ok', n', lk, lp, nd, hP, hks, ndp, pl0, pl1⟩
      walk_at "py"
      refine ⟨Or.inl ⟨rfl, _, SqL.of (D.get 3)⟩, ?_⟩
      walk_at "py"
      refine ⟨_, _, rfl, Or.inl ⟨_, SqL.of (D.get 3), rfl⟩, ?_⟩
      rw [List.length_map]
      walk_at "py"
      refine ⟨F8, _, r, g', c, R', _, rfl, D, ok', by omega, by omega, by omega, fun d4 g4 R4 H4 a4 b4 D4 ok4 n4 => ?_⟩
      walk_at "py"
      refine r_popAt (D4.get 3) a4 b4 (by omega) (fun z hz => ?_)
      generalize eh5 : upd H4 pl _ = H5
      have D5 := D4.st 3 eh5
      have zP : z ∈ P := List.mem_of_getElem? hz
      have pz := erase_perm hz
      have nd2 : ((z :: P.eraseIdx d4.toNat) ++ ks.map (·.1)).Nodup := ((pz.append_right _).nodup_iff).mpr nd
      have zk : z ∉ ks.map (·.1) := fun w => by
        have := (List.nodup_cons.mp nd2).1
        exact this (List.mem_append_right _ w)
      refine ⟨fd, _, rfl, DPut.k (k := Sum.inr z) (D5.get 4) (by rw [lineK_len]; exact lt_line (by omega)), ?_⟩
      rw [putK_line place zk]
      generalize eh6 : upd H5 fd _ = H6
      have D6 : Led H6 F8 (rE r g4 c R4 ++ ((pl, .lst ((P.eraseIdx d4.toNat).map V.str)) :: (fd, .dK (lineK (ks ++ [(z, place)]))) :: L)) := D5.st 4 eh6
      walk_at "py"
      walk_at "nums"
      walk_at "nums"
      walk_at "py"
      refine ⟨by show 4 ≤ sizeLine; decide, ?_⟩
      intro p5 np5
      generalize eh7 : upd H6 p5 _ = H7
      have D7 := D6.nl np5 eh7
      walk_at "py"
      refine r_ixL (SqL.of (D7.get 0)) (at_nat hst) ?_
      walk_at "py"
      refine ⟨F8, _, r, g4, c, R4, _, rfl, D7.drop, ok4, sp0, sp1, by omega, fun d8 g8 R8 H8 a8 b8 D8 ok8 n8 => ?_⟩
      walk_at "py"
      have e1 : ((i + 1 : Nat) : Int) * stepOf k1 = (i : Int) * stepOf k1 + stepOf k1 := by rw [Int.natCast_add, Int.add_mul]; simp
      have hle : (i : Int) * stepOf k1 ≤ 39 * stepOf k1 := Int.mul_le_mul_of_nonneg_right (by omega) (by omega)
      have plen : (P.eraseIdx d4.toNat).length + 1 = P.length := by have := pz.length_eq; simpa using this
      refine ⟨g8, R8, ks ++ [(z, place)], P.eraseIdx d4.toNat, place + 1 + d8, _, rfl, D8, ok8, by omega, by simp [lk], by omega, ?_, fun y hy => hP y (pz.mem_iff.mp (List.mem_cons_of_mem _ hy)), ?_, ?_, by omega, by omega⟩
      · rw [List.map_append]
        refine (List.Perm.nodup_iff ?_).mp nd2
        show (z :: (P.eraseIdx d4.toNat ++ ks.map (·.1))).Perm (P.eraseIdx d4.toNat ++ (ks.map (·.1) ++ [z]))
        rw [← List.append_assoc]
        exact (List.perm_append_singleton z _).symm
      · intro p hp
        rcases List.mem_append.mp hp with h | h
        · obtain ⟨q1, q2, q3, q4⟩ := hks p h
          exact ⟨q1, q2, by omega, q4⟩
        · rw [List.mem_singleton.mp h]
          exact ⟨hP z zP, pl0, by show place < _; omega, by show place ≤ _; omega⟩
      · rw [List.map_append, List.nodup_append]
        refine ⟨ndp, by simp, fun a ha b hb e => ?_⟩
        obtain ⟨p, hp, rfl⟩ := List.mem_map.mp ha
        have hb : b = place := by simpa using hb
        have := (hks p hp).2.2.1
        omega
    rintro σ' H' ⟨g', R', ks, P, place, tv, rfl, D, ok', n', lk, lp, nd, hP, hks, ndp, pl0, pl1⟩
    walk_at "py"
    have ndk : (ks.map (·.1)).Nodup := (List.nodup_append.mp nd).2.1
    have hlk : (ks.map (·.1)).length = k2 + 1 := by rw [List.length_map]; exact lk
    have ekk : (lineK ks).map (·.1) = (ks.map (·.1)).map Sum.inr := by
      unfold lineK
      rw [List.map_map, List.map_map]; rfl
    refine ⟨fd, _, ks.map (·.1), rfl, .inl (D.get 4), ekk, by omega, fun ys nm perm _ nnm => ?_⟩
    generalize eh8 : upd H' nm _ = H8
    have D8 := (D.nl nnm eh8).back
    walk_at "py"
    refine ⟨_, rfl, by omega, by omega, ?_⟩
    rw [ecn]
    refine lc_led (D8) walk_range (by omega) (fun i acc F' L' => F' = F8 ∧ ∃ g4 R4 Nn As, L' = rE r g4 c R4 ++ ((nm, .lst (Nn.map V.str)) :: (pl, .lst (P.map V.str)) :: (fd, .dK (lineK ks)) :: L) ∧ RlOk R4 ∧ R4.n ≤ R'.n + i ∧ acc = As.map V.str ∧ (As ++ Nn).Perm ys ∧ As.length = i)
      ⟨rfl, g', R', ys, [], rfl, ok', by omega, rfl, List.Perm.refl _, rfl⟩ (fun _ _ _ _ _ _ _ _ => trivial) ?_ ?_
    · rintro Kp Sk i acc F' L' H9 Dl x hi rfl ⟨rfl, g4, R4, Nn, As, rfl, ok4, n4, rfl, pn, la⟩ D9 ha kp sk
      have D10 := D9.back
      have ln : As.length + Nn.length = k2 + 1 := by rw [← hlk, ← perm.length_eq, ← pn.length_eq, List.length_append]
      walk_at "py"
      refine ⟨rfl, ?_⟩
      walk_at "py"
      refine ⟨Or.inl ⟨rfl, _, SqL.of (D10.get 4)⟩, ?_⟩
      walk_at "py"
      refine ⟨_, _, rfl, Or.inl ⟨_, SqL.of (D10.get 4), rfl⟩, ?_⟩
      rw [List.length_map]
      walk_at "py"
      refine ⟨F', _, r, g4, c, R4, _, rfl, D10, ok4, by omega, by omega, by omega, fun d5 g5 R5 H10 a5 b5 D11 ok5 n5 => ?_⟩
      walk_at "py"
      refine r_popAt (D11.get 4) a5 b5 (by omega) (fun z hz => ?_)
      generalize eh9 : upd H10 nm _ = H11
      have D12 : Led H11 F' (rE r g5 c R5 ++ ((Dl, .lst (As.map V.str)) :: (nm, .lst ((Nn.eraseIdx d5.toNat).map V.str)) :: (pl, .lst (P.map V.str)) :: (fd, .dK (lineK ks)) :: L)) := D11.st 4 eh9
      refine kp (.str z) F' _ H11 D12.fwd ⟨rfl, g5, R5, Nn.eraseIdx d5.toNat, As ++ [z], rfl, ok5, by omega, by rw [List.map_append]; rfl, ?_, by simp [la]⟩
      rw [List.append_assoc]
      exact (List.Perm.append_left As (erase_perm hz)).trans pn
    rintro acc F9 L9 H9 mx ⟨rfl, g4, R4, Nn, As, rfl, ok4, n4, rfl, pn, la⟩ D9 ha
    have ln : As.length + Nn.length = k2 + 1 := by rw [← hlk, ← perm.length_eq, ← pn.length_eq, List.length_append]
    have eN : Nn = [] := List.eq_nil_of_length_eq_zero (by omega)
    subst eN
    rw [List.append_nil] at pn
    have pA : As.Perm (ks.map (·.1)) := pn.trans perm
    have ndA : As.Nodup := pA.nodup_iff.mpr ndk
    walk_at "py"
    refine ⟨mx, rfl, ⟨_, SqL.of (D9.get 0)⟩, ?_⟩
    refine lc_led D9 (walk_list (xs := As.map V.str)) (by rw [List.length_map]; omega) (fun i acc F' L' => Same F9 F' ∧ L' = (mx, .lst (As.map V.str)) :: (rE r g4 c R4 ++ ((nm, .lst (([] : List Str).map V.str)) :: (pl, .lst (P.map V.str)) :: (fd, .dK (lineK ks)) :: L)) ∧
      ∃ ts, acc = ts.map V.ref ∧ Paired (fun t kv => F' t = some (.tup [kV kv.1, kv.2])) ts (lineK ((As.take i).map fun z => (z, posOf ks z)))) ⟨Same.refl _, rfl, [], rfl, .nil⟩
      (fun i acc F' L' H' Dl ⟨_, e, _⟩ D => SqL.of (by subst e; exact D.get 1)) ?_ ?_
    · rintro Kp Sk i acc F' L' H10 Dl x hi hx ⟨s1, rfl, ts, rfl, pt⟩ D10 ha2 kp sk
      obtain ⟨z, rfl, hz⟩ := strs_at hx
      have zk : z ∈ ks.map (·.1) := pA.mem_iff.mp (List.mem_of_getElem? hz)
      walk_at "py"
      refine ⟨rfl, ?_⟩
      walk_at "py"
      refine ⟨fd, _, rfl, (valV_line_some (posOf_in zk) ndk) ▸ DGet.k (k := Sum.inr z) (D10.get 7), ?_⟩
      walk_at "py"
      refine ⟨by show 2 ≤ sizeLine; decide, ?_⟩
      intro t nt
      generalize eh10 : upd H10 t _ = H11
      obtain ⟨F2, s2, ht, -, D11⟩ := D10.nf nt eh10
      refine kp (.ref t) F2 _ H11 D11 ⟨s1.trans s2, rfl, ts ++ [t], by rw [List.map_append]; rfl, ?_⟩
      rw [List.take_add_one, hz, List.map_append, lineK_app]
      exact Paired.app (L2.Paired.mapP pt fun _ _ h => s2 _ _ h) (.cons ht .nil)
    rintro acc F10 L10 H10 Dt ⟨s1, rfl, ts, rfl, pt⟩ D10 ha2
    walk_at "py"
    rw [List.length_map, List.take_of_length_le (Nat.le_refl _)] at pt
    refine ⟨Dt, ts, _, rfl, SqL.of (D10.get 0), L2.Paired.mapP pt fun _ _ h => SqT.of (D10.frz h), ?_⟩
    intro a na
    have pks : (As.map fun z => (z, posOf ks z)).Perm ks := by
      have := pA.map (fun z => (z, posOf ks z))
      rwa [posOf_map ndk] at this
    have okk : LineOk ks := ⟨by omega, by omega, fun p hp => pool_nm _ (hks p hp).1, fun p hp => ⟨(hks p hp).2.1, (hks p hp).2.2.2⟩, ndk, ndp⟩
    have okl := okk.perm pks
    rw [show mergeK [] (lineK (As.map fun z => (z, posOf ks z))) = lineK (As.map fun z => (z, posOf ks z)) from merge_line _ [] okl.ndn]
    generalize eh11 : upd H10 a _ = H11
    obtain ⟨F11, s2, hf, -, D11⟩ := D10.nf na eh11
    refine q a _ g4 R4 F11 H11 okl (fun p hp => (hks p (pks.mem_iff.mp hp)).1) (by rw [List.length_map]; omega) (s1.trans s2) hf ?_ ok4 (by omega)
    exact D11.sub (.cons _ (.cons _ (.cons₂ _ (.cons₂ _ (.cons₂ _ (.cons _ (.cons _ (.cons _ (List.Sublist.refl _)))))))))
def SendsOk (ks : List (Str × Int)) (ps : List (Str × Str)) : Prop := ∀ p ∈ ps, p.1 ∈ ks.map (·.1) ∧ p.2 ∈ ks.map (·.1) ∧ p.1 ≠ p.2
def sp__law_sends : Sp := fun vs H Q _ => ∃ (F : Hp) (L : List (Addr × HO)) (r g c a : Addr) (R : Rl) (ks : List (Str × Int)) (m : Nat), vs = [.ref r, .ref a, .int m] ∧ Led H F (rE r g c R ++ L) ∧ RlOk R ∧ F a = some (.dK (lineK ks)) ∧ LineOk ks ∧ m ≤ 400 ∧ R.n < 999990000 ∧
  ∀ l ts ps g' R' F' H', SendsOk ks ps → ps.length = (if 1 < ks.length then m else 0) → TupsAt F' ts ps → Same F F' → F' l = some (.lst (ts.map V.ref)) → Led H' F' (rE r g' c R' ++ L) → RlOk R' → R'.n ≤ R.n + 2000 → Q (.ref l) H'
theorem ok__law_sends (T : Tx mg) (D : At K mg "_law_sends" s__law_sends ["reel", "net", "many"]) (D__law_draw : Dfn P w K mg base "_law_draw" ["reel", "many"] 1 (sp__law_draw )) : Dfn P w K mg base "_law_sends" ["reel", "net", "many"] 2 (sp__law_sends ) := by
  refine dfn D sc__law_sends (fun vs H Q E h => ?_) (fun X f cdv A outer s H vs Q E hX hr h => ?_)
  · obtain ⟨F, L, r, g, c, a, R, ks, m, rfl, D0, ok, hf, hk, hm, hn, q⟩ := h
    rfl
  · subst hX
    obtain ⟨F, L, r, g, c, a, R, ks, m, rfl, D0, ok, hf, hk, hm, hn, q⟩ := h
    refine ⟨_, (pss_cons (ps_par3 (i := 3) (j := 4) (l := 5) (by rfl) sc__law_sends.nd rfl rfl rfl (by decide) (by decide) (by decide) rfl rfl rfl (pa_cons (pe_callB (call_sortedD rfl) (by rfl) T.b_sorted (by decide +kernel) (pa_cons (pvl 1) pa_nil)) (pa_cons (pe_lst pa_nil) (pa_cons (pe_callD D__law_draw (hr.mono (by decide)) (by rfl) (pa_cons (pvl 0) (pa_cons pe_int pa_nil))) pa_nil))) (by rfl)) (pss_cons (ps_set (i := 6) sc__law_sends.nd rfl (Or.inl rfl) (pe_slice sl_list (pvl 3) po_none (po_some pe_int))) (pss_cons (ps_for PassesOwn.never rfl (pi_range1 (by rfl) T.b_range (pa_cons (pe_op opMul (pvl 2) (pe_callTy call_int1 (by rfl) T.b_int boot_int (pa_cons (pe_cmpR opGt (pe_callB call_len (by rfl) T.b_len PySem.boot_len (pa_cons (pvl 3) pa_nil)) pe_int (nomark _)) pa_nil))) pa_nil)) (pg_name (i := 7) sc__law_sends.nd rfl (Or.inl rfl)) (pss_cons (ps_set (i := 8) sc__law_sends.nd rfl (Or.inl rfl) (pe_ifExp (PW.pt (pw_and (pt_cmpR (opEq hr.units) (pvl 5) pe_int (nomark _)) (pw_and1 (pt_cmpR opGt (pe_callD D__law_draw (hr.mono (by decide)) (by rfl) (pa_cons (pvl 0) (pa_cons pe_int pa_nil))) pe_int (nomark _))))) (pvl 6) (pvl 3))) (pss_cons (ps_set (i := 9) sc__law_sends.nd rfl (Or.inr rfl) (pe_ix ix_seq (pvl 8) (pe_callD D__law_draw (hr.mono (by decide)) (by rfl) (pa_cons (pvl 0) (pa_cons (pe_callB call_len (by rfl) T.b_len PySem.boot_len (pa_cons (pvl 8) pa_nil)) pa_nil))) (fun _ _ => rfl))) (pss_cons (ps_if (PW.pt (pw_and (pt_cmpR (opEq hr.units) (pvl 5) pe_int (nomark _)) (pw_and (pt_cmpR (opNe hr.units) (pvl 4) (pe_lst pa_nil) (nomark _)) (pw_and1 (pt_cmpR (opEq hr.units) (pe_callD D__law_draw (hr.mono (by decide)) (by rfl) (pa_cons (pvl 0) (pa_cons pe_int pa_nil))) pe_int (nomark _)))))) (pss_one (ps_set (i := 9) sc__law_sends.nd rfl (Or.inr rfl) (pe_ix ix_seq (pe_ix ix_seq (pvl 4) (pe_un un_neg pe_int) (fun _ _ => rfl)) pe_int (fun _ _ => rfl)))) pss_nil) (pss_cons (ps_setLc (i := 10) (own := [("name", 11)]) (g := gName 11)  rfl sc__law_sends.nd rfl rfl (sw_true rfl rfl rfl (by decide +kernel)) (pi_list (pvl 8)) (blkOk_by (own := [("name", 11)]) (N := nn__law_sends) (sc := defScope s__law_sends) (by decide +kernel)) (fun _ _ _ _ _ => (pg_name (i := 11) sc__law_sends.nd rfl (Or.inl rfl))) (blk_t fun _ _ _ _ _ => (pts_one (pt_cmpR (opNe hr.units) (pvl 11) (pvc 9) (nomark _)))) (blk_e fun _ _ _ _ _ => (pvl 11))) (pss_cons (ps_set (i := 10) sc__law_sends.nd rfl (Or.inl rfl) (pe_ifExp (pt_cmpR (opNe hr.units) (pvl 10) (pe_lst pa_nil) (nomark _)) (pvl 10) (pe_lc (own := [("name", 11)]) (g := gName 11)  rfl sc__law_sends.nd (pi_list (pvl 3)) (blkOk_by (own := [("name", 11)]) (N := nn__law_sends) (sc := defScope s__law_sends) (by decide +kernel)) (fun _ _ _ _ _ => (pg_name (i := 11) sc__law_sends.nd rfl (Or.inl rfl))) (blk_t fun _ _ _ _ _ => (pts_one (pt_cmpR (opNe hr.units) (pvl 11) (pvc 9) (nomark _)))) (blk_e fun _ _ _ _ _ => (pvl 11))))) (pss_one (ps_expr (pe_bm PySem.F.plainAttrs_list PySem.F.slot_list_append PySem.F.type_list_append mt_append (pvl 4) (pa_cons (pe_tup (pa_cons (pvc 9) (pa_cons (pe_ix ix_seq (pvl 10) (pe_callD D__law_draw (hr.mono (by decide)) (by rfl) (pa_cons (pvl 0) (pa_cons (pe_callB call_len (by rfl) T.b_len PySem.boot_len (pa_cons (pvl 10) pa_nil)) pa_nil))) (fun _ _ => rfl)) pa_nil))) pa_nil)))))))))) (pss_one (ps_ret (pvl 4)))))), ?_⟩
    refine y_start (σ' := [some _, some _, some _, none, none, none, none, none, none, none, none, none]) (by rfl) ?_
    have l1 := hk.len1
    have l2 := hk.len2
    have ekk : (lineK ks).map (·.1) = (ks.map (·.1)).map Sum.inr := by
      unfold lineK
      rw [List.map_map, List.map_map]; rfl
    walk_at "py"
    refine ⟨a, _, ks.map (·.1), rfl, .inl (D0.frz hf), ekk, by rw [List.length_map]; omega, fun ys nm perm _ nnm => ?_⟩
    generalize eh1 : upd H nm _ = H1
    have D1 := (D0.nl nnm eh1).back
    have ly : ys.length = ks.length := by rw [perm.length_eq, List.length_map]
    have ndy : ys.Nodup := perm.nodup_iff.mpr hk.ndn
    have nmy : ∀ z ∈ ys, nmStr z = true := fun z hz => by
      obtain ⟨p, hp, rfl⟩ := List.mem_map.mp (perm.mem_iff.mp hz)
      exact hk.nm p hp
    walk_at "py"
    refine ⟨by decide, ?_⟩
    intro fl nfl
    generalize eh2 : upd H1 fl _ = H2
    have D2 := (D1.nl nfl eh2).back
    walk_at "py"
    refine ⟨F, _, r, g, c, R, 3, rfl, D2, ok, by decide, by decide, by omega, fun d1 g1 R1 H3 a1 b1 D3 ok1 n1 => ?_⟩
    walk_at "py"
    refine ⟨_, _, _, rfl, ?_⟩
    simp only [List.set_cons_zero, List.set_cons_succ]
    walk_at "py"
    refine r_sl (SqL.of (D3.get 4)) ?_
    rw [show cutV (ys.map V.str) none (some 3) = (ys.take 3).map V.str from (cut_take _ 3).trans (List.map_take ..).symm]
    intro fw nfw
    generalize eh4 : upd H3 fw _ = H4
    have D4 := (D3.nl nfw eh4).back
    walk_at "py"
    refine ⟨_, _, rfl, Or.inl ⟨_, SqL.of (D4.get 5), rfl⟩, ?_⟩
    walk_at "py"
    refine .inr ⟨_, rfl, ?_⟩
    rw [List.length_map, ly]
    refine r_mul (wide_mul (a := 9) (b := 2) (by omega) (by split <;> decide) (by decide) (by decide) (by decide)) ?_
    walk_at "py"
    have ecn : (m : Int) * (if decide ((1 : Int) < (ks.length : Int)) = true then 1 else 0) = ((if 1 < ks.length then m else 0 : Nat) : Int) := by
      by_cases h : 1 < ks.length
      · rw [if_pos h, if_pos (decide_eq_true (by omega))]; simp
      · rw [if_neg h, if_neg (by rw [decide_eq_false (by omega)]; decide)]; simp
    rw [ecn]
    have ecm : (if 1 < ks.length then m else 0) ≤ m := by split <;> omega
    refine ⟨_, rfl, by omega, by omega, ?_⟩
    rw [Int.toNat_natCast]
    have hy2 : ∀ i, i < (if 1 < ks.length then m else 0) → 2 ≤ ys.length := fun i hi => by
      by_cases h : 1 < ks.length
      · omega
      · rw [if_neg h] at hi; omega
    refine for_any walk_range (fun i σ' H' => ∃ F' g' R' ts ps v7 v8 v9 v10, σ' = [some (.ref r), some (.ref a), some (.int (m : Int)), some (.ref nm), some (.ref fl), some (.int d1), some (.ref fw), v7, v8, v9, v10, none] ∧ Same F F' ∧
        Led H' F' (rE r g' c R' ++ ((fw, .lst ((ys.take 3).map V.str)) :: (fl, .lst (ts.map V.ref)) :: (nm, .lst (ys.map V.str)) :: L)) ∧ RlOk R' ∧ R'.n ≤ R1.n + 4 * i ∧ TupsAt F' ts ps ∧ SendsOk ks ps ∧ ps.length = i)
      ⟨F, g1, R1, [], [], none, none, none, none, rfl, Same.refl _, D4, ok1, by omega, .nil, (fun p hp => (nomatch hp)), rfl⟩ (fun _ _ _ _ => trivial) ?_ ?_
    · rintro i x σ' H' hi rfl ⟨F', g', R', ts, ps, v7, v8, v9, v10, rfl, s1, D, ok', n', tp, so, lp⟩
      have h2 := hy2 i hi
      have hps : ∀ p ∈ ps, nmStr p.1 = true ∧ nmStr p.2 = true := fun p hp => by
        obtain ⟨q1, q2, _⟩ := so p hp
        exact ⟨nmy _ (perm.mem_iff.mpr q1), nmy _ (perm.mem_iff.mpr q2)⟩
      walk_at "py1"
      walk_at "py1"
      walk_at "py1"
      refine with_e (fun v H5 => ∃ pa Pn g5 R5, v = .ref pa ∧ Led H5 F' (rE r g5 c R5 ++ ((fw, .lst ((ys.take 3).map V.str)) :: (fl, .lst (ts.map V.ref)) :: (nm, .lst (ys.map V.str)) :: L)) ∧ RlOk R5 ∧ R5.n ≤ R'.n + 1 ∧ ((Pn = ys.take 3 ∧ pa = fw) ∨ (Pn = ys ∧ pa = nm))) ?_ (fun rest => ?_)
      rotate_left
      · refine y_tIf (y_tAnd (y_tTest (y_op (y_var rfl (y_c (r_eq rfl (tkK ?_)))))))
        refine ite_b (fun e => ?_) (fun e => iteF (y_var rfl (rest _ _ ⟨nm, ys, g', R', rfl, D, ok', by omega, .inr ⟨rfl, rfl⟩⟩)))
        walk_at "py"
        refine ⟨F', _, r, g', c, R', 4, rfl, D, ok', by decide, by decide, by omega, fun d4 g4 R4 H5 a4 b4 D5 ok4 n4 => ?_⟩
        refine y_c (r_gt (tkK ?_))
        refine ite_b (fun e2 => ?_) (fun e2 => ?_)
        · exact y_var rfl (rest _ _ ⟨fw, _, g4, R4, rfl, D5, ok4, by omega, .inl ⟨rfl, rfl⟩⟩)
        · exact y_var rfl (rest _ _ ⟨nm, _, g4, R4, rfl, D5, ok4, by omega, .inr ⟨rfl, rfl⟩⟩)
      rintro v H5 ⟨pa, Pn, g5, R5, rfl, D5, ok5, n5, hP⟩
      have pn2 : 2 ≤ Pn.length := by
        rcases hP with ⟨rfl, _⟩ | ⟨rfl, _⟩
        · rw [List.length_take]; omega
        · exact h2
      have pnl : Pn.length ≤ 40 := by
        rcases hP with ⟨rfl, _⟩ | ⟨rfl, _⟩
        · rw [List.length_take]; omega
        · omega
      have pny : ∀ z ∈ Pn, z ∈ ys := fun z hz => by
        rcases hP with ⟨rfl, _⟩ | ⟨rfl, _⟩
        · exact List.mem_of_mem_take hz
        · exact hz
      have hpa : ∀ {Hx : Hp} {gx : Addr} {Rx : Rl} {fs : List V}, Led Hx F' (rE r gx c Rx ++ ((fw, .lst ((ys.take 3).map V.str)) :: (fl, .lst fs) :: (nm, .lst (ys.map V.str)) :: L)) → Hx pa = some (.lst (Pn.map V.str)) := fun Dx => by
        rcases hP with ⟨rfl, rfl⟩ | ⟨rfl, rfl⟩
        · exact Dx.get 3
        · exact Dx.get 5
      walk_at "py"
      refine ⟨_, _, rfl, Or.inl ⟨_, SqL.of (hpa D5), rfl⟩, ?_⟩
      rw [List.length_map]
      walk_at "py"
      refine ⟨F', _, r, g5, c, R5, _, rfl, D5, ok5, by omega, by omega, by omega, fun d6 g6 R6 H6 a6 b6 D6 ok6 n6 => ?_⟩
      obtain ⟨k6, rfl⟩ := Int.eq_ofNat_of_zero_le a6
      have hk6 : k6 < Pn.length := by omega
      refine r_ixL (SqL.of (hpa D6)) (at_nat (c := V.str Pn[k6]) (by rw [List.getElem?_map, List.getElem?_eq_getElem hk6]; rfl)) ?_
      have hs0 : Pn[k6] ∈ ys := pny _ (List.getElem_mem hk6)
      generalize Pn[k6] = s0 at hs0 ⊢
      walk_at "py1"
      walk_at "py1"
      refine with_s (fun σ2 H7 => ∃ g7 R7 s v7, σ2 = [some (.ref r), some (.ref a), some (.int (m : Int)), some (.ref nm), some (.ref fl), some (.int d1), some (.ref fw), v7, some (.ref pa), some (.str s), v10, none] ∧
        Led H7 F' (rE r g7 c R7 ++ ((fw, .lst ((ys.take 3).map V.str)) :: (fl, .lst (ts.map V.ref)) :: (nm, .lst (ys.map V.str)) :: L)) ∧ RlOk R7 ∧ R7.n ≤ R5.n + 2 ∧ s ∈ ys) ?_ (fun rest => ?_)
      rotate_left
      · refine y_if (y_tAnd (y_tTest (y_op (y_var rfl (y_c (r_eq rfl (tkK ?_)))))))
        refine ite_b (fun e => ?_) (fun e => iteF (y_next (rest _ _ ⟨g6, R6, s0, _, rfl, D6, ok6, by omega, hs0⟩)))
        walk_at "py"
        refine ⟨by decide, ?_⟩
        intro p7 np7
        generalize eh7 : upd H6 p7 _ = H7
        have D7 := D6.nl np7 eh7
        refine r_neD (.lst (SqL.of (D7.get 5)) (TupsAt.dp (tp.mono D7.ext))) (.lst (SqL.of (D7.get 0)) (dpS [])) (shT ps hps) (shS [] (by simp)) ?_
        rw [show dS [] = [] from rfl, eqv_nil]
        refine tkK (ite_b (fun e2 => ?_) (fun e2 => iteF (y_next (rest _ _ ⟨g6, R6, s0, _, rfl, D7.drop, ok6, by omega, hs0⟩))))
        have ne : ps ≠ [] := fun z => by subst z; cases e2
        walk_at "py"
        refine ⟨F', _, r, g6, c, R6, 2, rfl, D7.drop, ok6, by decide, by decide, by omega, fun d8 g8 R8 H8 a8 b8 D8 ok8 n8 => ?_⟩
        refine y_c (r_eq rfl (tkK ?_))
        refine ite_b (fun e3 => ?_) (fun e3 => y_next (rest _ _ ⟨g8, R8, s0, _, rfl, D8, ok8, by omega, hs0⟩))
        obtain ⟨ts', t, ps', p, rfl, rfl, ht⟩ := paired_last tp ne
        refine y_asg (y_op (y_op (y_var rfl ?_)))
        walk_at "py"
        refine r_ixL (SqL.of (D8.get 4)) (by rw [List.map_append]; exact atI_last _ _) ?_
        refine y_c ?_
        refine r_ixT (SqT.of (D8.frz ht)) (at_nat (k := 1) rfl) ?_
        refine y_gname (by simp only [List.set_cons_zero, List.set_cons_succ]; rfl) (rest _ _ ⟨g8, R8, p.2, _, rfl, D8, ok8, by omega, ?_⟩)
        exact perm.mem_iff.mpr (so p (by simp)).2.1
      rintro σ2 H7 ⟨g7, R7, s, v7', rfl, D7, ok7, n7, hs⟩
      walk_at "py"
      refine ⟨pa, rfl, ⟨_, SqL.of (hpa D7)⟩, ?_⟩
      refine lc_led D7 (walk_list (xs := Pn.map V.str)) (by rw [List.length_map]; omega) (fun j acc F2 L2 => F2 = F' ∧ L2 = rE r g7 c R7 ++ ((fw, .lst ((ys.take 3).map V.str)) :: (fl, .lst (ts.map V.ref)) :: (nm, .lst (ys.map V.str)) :: L) ∧ acc = ((Pn.take j).filter fun z => !decide (z = s)).map V.str) ⟨rfl, rfl, rfl⟩
        (fun j acc F2 L2 H2 Dl ⟨e1, e, _⟩ Dx => SqL.of (by subst e1 e; exact hpa Dx.drop)) ?_ ?_
      · rintro Kp Sk j acc F2 L2 H8 Dl x hj hx ⟨rfl, rfl, rfl⟩ D8 ha kp sk
        obtain ⟨z, rfl, hz⟩ := strs_at hx
        walk_at "py1"
        refine ⟨rfl, ?_⟩
        walk_at "py"
        rw [dec_str]
        have et : Pn.take (j + 1) = Pn.take j ++ [z] := by rw [List.take_add_one, hz]; rfl
        refine ite_b (fun e => ?_) (fun e => ?_)
        · walk_at "py"
          exact kp _ F2 _ H8 D8 ⟨rfl, rfl, by rw [et, List.filter_append, List.map_append, List.filter_cons_of_pos (by exact e)]; rfl⟩
        · exact sk F2 _ H8 D8 ⟨rfl, rfl, by rw [et, List.filter_append, List.filter_cons_of_neg (by rw [e]; decide)]; simp⟩
      rintro acc F2 L2 H8 oa ⟨rfl, rfl, rfl⟩ D8 ha
      rw [List.length_map, List.take_of_length_le (Nat.le_refl _)] at D8
      have mem1 : ∀ (Zs : List Str), (∀ z ∈ Zs, z ∈ ys) → ∀ z ∈ Zs.filter (fun z => !decide (z = s)), z ∈ ys ∧ z ≠ s := fun Zs hZ z hz => by
        obtain ⟨q1, q2⟩ := List.mem_filter.mp hz
        exact ⟨hZ z q1, by simpa using q2⟩
      have O1 := mem1 Pn pny
      have O2 := mem1 ys fun z hz => hz
      have ne2 : ys.filter (fun z => !decide (z = s)) ≠ [] := fun e => by
        have : ∀ z ∈ ys, z = s := fun z hz => by
          by_cases w : z = s
          · exact w
          · have : z ∈ ys.filter (fun z => !decide (z = s)) := List.mem_filter.mpr ⟨hz, by simp [w]⟩
            rw [e] at this; cases this
        match ys, h2, ndy with
        | u :: v :: _, _, nd =>
          have e1 := this u (by simp)
          have e2 := this v (by simp)
          subst e1
          subst e2
          simp at nd
      have hl1 : (Pn.filter fun z => !decide (z = s)).length ≤ 40 := Nat.le_trans (List.length_filter_le ..) pnl
      have hl2 : (ys.filter fun z => !decide (z = s)).length ≤ 40 := Nat.le_trans (List.length_filter_le ..) (by omega)
      generalize (Pn.filter fun z => !decide (z = s)) = Z1 at D8 O1 hl1
      walk_at "py1"
      walk_at "py1"
      walk_at "py1"
      refine with_e (fun v H9 => ∃ ob O, v = .ref ob ∧ O ≠ [] ∧ O.length ≤ 40 ∧ (∀ z ∈ O, z ∈ ys ∧ z ≠ s) ∧ Led H9 F2 (rE r g7 c R7 ++ ((ob, .lst (O.map V.str)) :: (fw, .lst ((ys.take 3).map V.str)) :: (fl, .lst (ts.map V.ref)) :: (nm, .lst (ys.map V.str)) :: L))) ?_ (fun rest => ?_)
      rotate_left
      · refine y_tIf ?_
        walk_at "py"
        refine ⟨by decide, ?_⟩
        intro p9 np9
        generalize eh9 : upd H8 p9 _ = H9
        have D9 := D8.nl np9 eh9
        refine r_neD (.lst (SqL.of (D9.get 1)) (dpS _)) (.lst (SqL.of (D9.get 0)) (dpS [])) (shS _ fun z hz => nmy z (O1 z hz).1) (shS [] (by simp)) ?_
        rw [show dS [] = [] from rfl, eqv_nil]
        refine tkK (ite_b (fun e2 => ?_) (fun e2 => ?_))
        · have hne : Z1 ≠ [] := fun z => by subst z; cases e2
          exact y_var rfl (rest _ _ ⟨oa, Z1, rfl, hne, hl1, O1, D9.drop.back⟩)
        · walk_at "py"
          refine ⟨nm, rfl, ⟨_, SqL.of (D9.get 7)⟩, ?_⟩
          refine lc_led D9.drop.drop (walk_list (xs := ys.map V.str)) (by rw [List.length_map]; omega) (fun j acc F3 L3 => F3 = F2 ∧ L3 = rE r g7 c R7 ++ ((fw, .lst ((ys.take 3).map V.str)) :: (fl, .lst (ts.map V.ref)) :: (nm, .lst (ys.map V.str)) :: L) ∧ acc = ((ys.take j).filter fun z => !decide (z = s)).map V.str) ⟨rfl, rfl, rfl⟩
            (fun j acc F3 L3 H3 Dl ⟨_, e, _⟩ Dx => SqL.of (by subst e; exact Dx.get 6)) ?_ ?_
          · rintro Kp Sk j acc F3 L3 H10 Dl x hj hx ⟨rfl, rfl, rfl⟩ D10 ha kp sk
            obtain ⟨z, rfl, hz⟩ := strs_at hx
            walk_at "py1"
            refine ⟨rfl, ?_⟩
            walk_at "py"
            rw [dec_str]
            have et : ys.take (j + 1) = ys.take j ++ [z] := by rw [List.take_add_one, hz]; rfl
            refine ite_b (fun e => ?_) (fun e => ?_)
            · walk_at "py"
              exact kp _ F3 _ H10 D10 ⟨rfl, rfl, by rw [et, List.filter_append, List.map_append, List.filter_cons_of_pos (by exact e)]; rfl⟩
            · exact sk F3 _ H10 D10 ⟨rfl, rfl, by rw [et, List.filter_append, List.filter_cons_of_neg (by rw [e]; decide)]; simp⟩
          · rintro acc F3 L3 H10 ob ⟨rfl, rfl, rfl⟩ D10 ha
            rw [List.length_map, List.take_of_length_le (Nat.le_refl _)] at D10
            exact rest _ _ ⟨ob, _, rfl, ne2, hl2, O2, D10.back⟩
      rintro v H9 ⟨ob, O, rfl, One, Ol, Om, D9⟩
      have Op : 0 < O.length := List.length_pos_iff.mpr One
      walk_at "py"
      refine ⟨Or.inl ⟨rfl, _, SqL.of (D9.get 5)⟩, ?_⟩
      walk_at "py"
      refine ⟨_, _, rfl, Or.inl ⟨_, SqL.of (D9.get 3), rfl⟩, ?_⟩
      rw [List.length_map]
      walk_at "py"
      refine ⟨F2, _, r, g7, c, R7, _, rfl, D9, ok7, by omega, by omega, by omega, fun d10 g10 R10 H10 a10 b10 D10 ok10 n10 => ?_⟩
      obtain ⟨k10, rfl⟩ := Int.eq_ofNat_of_zero_le a10
      have hk10 : k10 < O.length := by omega
      refine r_ixL (SqL.of (D10.get 3)) (at_nat (c := V.str O[k10]) (by rw [List.getElem?_map, List.getElem?_eq_getElem hk10]; rfl)) ?_
      have hz0 := Om _ (List.getElem_mem hk10)
      generalize O[k10] = z0 at hz0 ⊢
      walk_at "py"
      refine ⟨by show 2 ≤ sizeLine; decide, ?_⟩
      intro t nt
      generalize eh11 : upd H10 t _ = H11
      obtain ⟨F11, s11, ht, -, D11⟩ := D10.nf nt eh11
      walk_at "py"
      have ltp : ts.length = ps.length := tp.length
      have himi : i < m := Nat.lt_of_lt_of_le hi ecm
      refine ⟨fl, _, _, rfl, rfl, D11.get 5, by rw [List.length_map]; exact lt_line (by omega), ?_⟩
      generalize eh12 : upd H11 fl _ = H12
      have D12 : Led H12 F11 (rE r g10 c R10 ++ ((ob, .lst (O.map V.str)) :: (fw, .lst ((ys.take 3).map V.str)) :: (fl, .lst (ts.map V.ref ++ [.ref t])) :: (nm, .lst (ys.map V.str)) :: L)) := D11.st 5 eh12
      refine ⟨F11, g10, R10, ts ++ [t], ps ++ [(s, z0)], _, _, _, _, rfl, s1.trans s11, ?_, ok10, by omega, Paired.app (TupsAt.mono s11 tp) (.cons ht .nil), ?_, by simp [lp]⟩
      · rw [List.map_append]
        exact D12.fwd.drop
      · intro p hp
        rcases List.mem_append.mp hp with h | h
        · exact so p h
        · rw [List.mem_singleton.mp h]
          exact ⟨perm.mem_iff.mp hs, perm.mem_iff.mp hz0.1, fun e => hz0.2 e.symm⟩
    rintro σ' H' ⟨F', g', R', ts, ps, v7, v8, v9, v10, rfl, s1, D, ok', n', tp, so, lp⟩
    walk_at "py"
    have D9 := (D.sub (L' := rE r g' c R' ++ ((fl, _) :: L)) (.cons₂ _ (.cons₂ _ (.cons₂ _ (.cons _ (.cons₂ _ (.cons _ (List.Sublist.refl _)))))))).fwd
    refine q fl ts ps g' R' _ H' so lp (tp.mono D9.grow) (s1.trans D9.grow) upd_same D9.freeze ok' (by omega)
def sp_is_line : Sp := fun vs H Q _ => ∃ (a : Addr) (ks : List (Str × Int)), vs = [.ref a] ∧ H a = some (.dK (lineK ks)) ∧ LineOk ks ∧ ∀ H', Same H H' → Q (.bl true) H'
theorem ok_is_line (T : Tx mg) (D : At K mg "is_line" s_is_line ["value"]) (D_is_name : Dfn P w K mg base "is_name" ["value"] 1 (sp_is_name )) (D_is_position : Dfn P w K mg base "is_position" ["value"] 2 (sp_is_position )) : Dfn P w K mg base "is_line" ["value"] 3 (sp_is_line ) := by
  refine dfn D sc_is_line (fun vs H Q E h => ?_) (fun X f cdv A outer s H vs Q E hX hr h => ?_)
  · obtain ⟨a, ks, rfl, hl, hk, q⟩ := h
    rfl
  · subst hX
    obtain ⟨a, ks, rfl, hl, hk, q⟩ := h
    refine ⟨_, (pss_cons (ps_if (PW.pt (pw_or (pt_not (pt_val (pe_callB call_isi (by rfl) T.b_isinstance (by decide +kernel) (pa_cons (pvl 0) (pa_cons (pe_bltn (v := .ty "dict") (by rfl) T.b_dict boot_dict rfl) pa_nil))))) (pw_or1 (pt_not (pt_chain opLe opLe pe_int (pe_callB call_lenD (by rfl) T.b_len PySem.boot_len (pa_cons (pvl 0) pa_nil)) (pe_glob (v := .int (40)) (by rfl) (Exists.choose_spec T.g_MOST_HOSTS) ⟨_, rfl⟩)))))) (pss_one (ps_ret pe_bl)) pss_nil) (pss_cons (ps_lock (ps_for PassesOwn.never rfl (pi_items (pvl 0)) (pg_tup rfl (pgs_cons (pg_name (i := 1) sc_is_line.nd rfl (Or.inl rfl)) (pgs_cons (pg_name (i := 2) sc_is_line.nd rfl (Or.inl rfl)) pgs_nil))) (pss_one (ps_if (PW.pt (pw_or (pt_not (pt_val (pe_callD D_is_name (hr.mono (by decide)) (by rfl) (pa_cons (pvl 1) pa_nil)))) (pw_or1 (pt_not (pt_val (pe_callD D_is_position (hr.mono (by decide)) (by rfl) (pa_cons (pvl 2) pa_nil))))))) (pss_one (ps_ret pe_bl)) pss_nil)))) (pss_one (ps_ret (pe_cmpR (opEq hr.units) (RZ.pe_lenSetI (by rfl) T.b_len (by rfl) T.b_set (pe_listValues rfl (pvl 0) (by rfl) T.b_list boot_list)) (pe_callB call_lenD (by rfl) T.b_len PySem.boot_len (pa_cons (pvl 0) pa_nil)) (nomark _)))))), ?_⟩
    refine y_start (σ' := [some _, none, none]) (by rfl) ?_
    have hlen : (lineK ks).length = ks.length := by simp [lineK]
    have l1 := hk.len1
    have l2 := hk.len2
    walk_at "py"
    refine r_isi (.dK hl) (by simp) ?_
    rw [show isT "dict" "dict" = true from by decide]
    walk_at "py"
    refine ⟨a, _, rfl, hl, ?_⟩
    walk_at "py"
    rw [hlen, decide_eq_true (by omega)]
    walk_at "py"
    rw [decide_eq_true (by omega)]
    walk_at "py"
    refine y_lockItems (fun H1 R r => ⟨_, rfl, r⟩) hl (fun od i σ' H' => ∃ u v, σ' = [some (.ref a), u, v] ∧ Same (upd H a (.frz od (.dK (lineK ks)))) H') (fun od => ⟨_, _, rfl, Same.refl _⟩) (fun od i σ' H' ⟨_, _, _, s⟩ => s _ _ upd_same) ?_ ?_
    · rintro od i k v T σ' H' hi ⟨u0, v0, rfl, s⟩ hT
      obtain ⟨p, hp, e⟩ : ∃ p, ks[i]? = some p ∧ (k, v) = (.inr p.1, .int p.2) := by
        unfold lineK at hi
        rw [List.getElem?_map] at hi
        cases e : ks[i]? with
        | none => rw [e] at hi; cases hi
        | some p => rw [e] at hi; exact ⟨p, rfl, (Option.some.inj hi).symm⟩
      cases e
      have hpm := List.mem_of_getElem? hp
      refine y_gtup (SqT.of upd_same) rfl ?_
      refine y_gcons ?_
      walk_at "py"
      refine y_gcons ?_
      walk_at "py"
      refine y_gnil ?_
      walk_at "py"
      have s2 : Same (upd H a (.frz od (.dK (lineK ks)))) (upd H' T (.tup [.str p.1, .int p.2])) := fun b o e => by
        rw [upd_ne (ne_of_none (s b o e) hT)]; exact s b o e
      refine ⟨.str p.1, "str", rfl, .str _, fun z e => by cases e; have := nm_len (hk.nm p hpm); omega, fun H3 s3 => ?_⟩
      rw [show isNm (.str p.1) = true from hk.nm p hpm]
      walk_at "py"
      refine ⟨.int p.2, "int", rfl, .int _, ?_⟩
      rw [show isPos (.int p.2) = true from decide_eq_true (hk.ps p hpm)]
      walk_at "py"
      exact ⟨_, _, rfl, s2.trans s3⟩
    · rintro od σ' H' ⟨u0, v0, rfl, s⟩
      have s2 := same_lock hl s
      walk_at "py"
      refine ⟨a, _, rfl, .inl upd_same, fun p hp => ?_⟩
      have ev : (lineK ks).map (·.2) = (ks.map (·.2)).map V.int := by
        unfold lineK
        rw [List.map_map, List.map_map]; rfl
      refine ⟨p, ks.map (·.2), rfl, SqL.of (by rw [upd_same, ev]), hk.ndp, by rw [List.length_map]; omega, ?_⟩
      walk_at "py"
      have hpa : a ≠ p := fun e => by rw [← e, upd_same] at hp; cases hp
      refine ⟨a, _, rfl, by rw [upd_ne hpa, upd_same], ?_⟩
      walk_at "py"
      rw [List.length_map, hlen]
      rw [decide_eq_true rfl]
      refine q _ (s2.trans fun b o e => ?_)
      rw [upd_ne (ne_of_none e hp)]; exact e
def sp_check_line : Sp := fun vs H Q _ => ∃ (a : Addr) (ks : List (Str × Int)), vs = [.ref a] ∧ H a = some (.dK (lineK ks)) ∧ LineOk ks ∧ ∀ H', Same H H' → Q .non H'
theorem ok_check_line (T : Tx mg) (D : At K mg "check_line" s_check_line ["line"]) (D_is_line : Dfn P w K mg base "is_line" ["value"] 3 (sp_is_line )) : Dfn P w K mg base "check_line" ["line"] 4 (sp_check_line ) := by
  refine dfn D sc_check_line (fun vs H Q E h => ?_) (fun X f cdv A outer s H vs Q E hX hr h => ?_)
  · obtain ⟨a, ks, rfl, hl, hk, q⟩ := h
    rfl
  · subst hX
    obtain ⟨a, ks, rfl, hl, hk, q⟩ := h
    refine ⟨_, (pss_one (ps_if (pt_not (pt_val (pe_callD D_is_line (hr.mono (by decide)) (by rfl) (pa_cons (pvl 0) pa_nil)))) (pss_one ps_never) pss_nil)), ?_⟩
    refine y_start (σ' := [some _]) (by rfl) ?_
    walk_at "py"
    refine ⟨a, ks, rfl, hl, hk, fun H' e => ?_⟩
    walk_at "py"
    exact q H' e
def sp_is_frames : Sp := fun vs H Q _ => ∃ (a : Addr) (x : V) (b : Bool) (ks : List (Str × Int)), vs = [.ref a, x] ∧ H a = some (.dK (lineK ks)) ∧ LineOk ks ∧ FramesB ks H x b ∧ ∀ H', Same H H' → Q (.bl b) H'
theorem ok_is_frames (T : Tx mg) (D : At K mg "is_frames" s_is_frames ["line", "value"]) (D_check_line : Dfn P w K mg base "check_line" ["line"] 4 (sp_check_line )) (D_is_frame : Dfn P w K mg base "is_frame" ["line", "value"] 2 (sp_is_frame )) (D_is_list : Dfn P w K mg base "is_list" ["value"] 1 (sp_is_list )) : Dfn P w K mg base "is_frames" ["line", "value"] 5 (sp_is_frames ) := by
  refine dfn D sc_is_frames (fun vs H Q E h => ?_) (fun X f cdv A outer s H vs Q E hX hr h => ?_)
  · obtain ⟨a, x, b, ks, rfl, hl, hk, hb, q⟩ := h
    rfl
  · subst hX
    obtain ⟨a, x, b, ks, rfl, hl, hk, hb, q⟩ := h
    refine ⟨_, (pss_cons (ps_expr (pe_callD D_check_line (hr.mono (by decide)) (by rfl) (pa_cons (pvc 0) pa_nil))) (pss_cons (ps_if (PW.pt (pw_or (pt_not (pt_val (pe_callD D_is_list (hr.mono (by decide)) (by rfl) (pa_cons (pvl 1) pa_nil)))) (pw_or1 (pt_cmpR opGt (pe_callB call_len (by rfl) T.b_len PySem.boot_len (pa_cons (pvl 1) pa_nil)) (pe_glob (v := .int (300)) (by rfl) (Exists.choose_spec T.g_MOST_FRAMES) ⟨_, rfl⟩) (nomark _))))) (pss_one (ps_ret pe_bl)) pss_nil) (pss_one (ps_ret (pe_callB (cr_all rfl) (by rfl) T.b_all (by decide +kernel) (pa_cons (pe_lc (own := [("item", 2)]) (g := gName 2) (tt := tYes) rfl sc_is_frames.nd (pi_list (pvl 1)) (blkOk_by (own := [("item", 2)]) (N := nn_is_frames) (sc := defScope s_is_frames) (by decide +kernel)) (fun _ _ _ _ _ => (pg_name (i := 2) sc_is_frames.nd rfl (Or.inl rfl))) (fun _ _ _ _ _ => pts_nil) (blk_e fun _ _ _ _ _ => (pe_callD D_is_frame (hr.mono (by decide)) (by rfl) (pa_cons (pvc 0) (pa_cons (pvl 2) pa_nil))))) pa_nil)))))), ?_⟩
    refine y_start (σ' := [some _, some _, none]) (by rfl) ?_
    walk_at "py"
    refine ⟨a, ks, rfl, hl, hk, fun H1 s1 => ?_⟩
    walk_at "py"
    have hb1 := hb.mono s1
    cases hb1 with
    | @no _ s h n =>
      refine ⟨x, s, rfl, h, ?_⟩
      rw [decide_eq_false n]
      walk_at "py"
      exact q _ s1
    | @long l xs h n m =>
      refine ⟨_, _, rfl, .lst h, ?_⟩
      rw [decide_eq_true (rfl : "list" = "list")]
      walk_at "py"
      refine ⟨.ref l, xs.length, rfl, Or.inl ⟨xs, SqL.of h, rfl⟩, ?_⟩
      walk_at "py"
      rw [decide_eq_true (by omega)]
      walk_at "py"
      exact q _ s1
    | @lst l xs bs h n p =>
      refine ⟨_, _, rfl, .lst h, ?_⟩
      rw [decide_eq_true (rfl : "list" = "list")]
      walk_at "py"
      refine ⟨.ref l, xs.length, rfl, Or.inl ⟨xs, SqL.of h, rfl⟩, ?_⟩
      walk_at "py"
      rw [decide_eq_false (by omega)]
      walk_at "py"
      refine ⟨l, rfl, ⟨xs, SqL.of h⟩, ?_⟩
      refine lc_led (Led.same0 H1) (walk_list (xs := xs)) (by omega) (fun i acc F' L' => Same H1 F' ∧ L' = [] ∧ acc = (bs.take i).map V.bl) ⟨Same.refl _, rfl, rfl⟩ (fun i acc F' L' H' Dl ⟨i1, i2, i3⟩ D => SqL.of (D.ext _ _ (i1 _ _ h))) ?_ ?_
      · rintro Kp Sk i acc F' L' H' Dl y hi hy ⟨i1, rfl, i3⟩ D ha kp sk
        walk_at "py"
        refine ⟨rfl, ?_⟩
        walk_at "py"
        obtain ⟨c, hc, fb⟩ := Paired.get p hy
        have s2 : Same H1 H' := i1.trans D.ext
        refine ⟨a, y, c, ks, rfl, (s1.trans s2) _ _ hl, fb.mono s2, ?_⟩
        · refine kp _ F' [] H' D ⟨i1, rfl, ?_⟩
          rw [i3, List.take_add_one, hc]
          simp
      · rintro acc F' L' H' Dl ⟨i1, rfl, i3⟩ D ha
        walk_at "py"
        have hn : bs.length = xs.length := p.length.symm
        rw [List.take_of_length_le (by omega)] at i3
        refine ⟨Dl, bs, rfl, SqL.of (by rw [← i3]; exact D.get 0), ?_⟩
        exact q _ ((s1.trans i1).trans D.ext)
def sp_law (K : PySem.W.Frag) : Sp := fun vs H Q _ => ∃ (a : Addr) (ns : List Int), vs = [.ref a] ∧ SqL K H a (ns.map V.int) ∧ ns.length ≤ 63 ∧ ∀ H', Q (.bl true) H'
theorem ok_law (T : Tx mg) (hm : ∃ o, base.get? sysModules = some o) (D : At K mg "law" s_law ["script"]) (D__law_draw : Dfn P w K mg base "_law_draw" ["reel", "many"] 1 (sp__law_draw )) (D__law_net : Dfn P w K mg base "_law_net" ["reel", "most"] 2 (sp__law_net )) (D__law_reel : Dfn P w K mg base "_law_reel" ["script"] 1 (sp__law_reel K)) (D__law_sends : Dfn P w K mg base "_law_sends" ["reel", "net", "many"] 2 (sp__law_sends )) (D_is_frames : Dfn P w K mg base "is_frames" ["line", "value"] 5 (sp_is_frames )) : DfnG P w K mg base "law" ["script"] 6 (sp_law K) := by
  refine dfnG hm D sc_law (fun vs H Q E h => ?_) (fun X G f cdv A outer s H vs Q E hX hr h => ?_)
  · obtain ⟨a, ns, rfl, hs, hl, q⟩ := h
    rfl
  · subst hX
    obtain ⟨a, ns, rfl, hs, hl, q⟩ := h
    refine ⟨_, (pss_cons (ps_set (i := 1) sc_law.nd rfl (Or.inl rfl) (pe_callD D__law_reel (hr.mono (by decide)) (by rfl) (pa_cons (pvl 0) pa_nil))) (pss_cons (ps_for PassesOwn.never rfl (pi_range1 (by rfl) T.b_range (pa_cons (pe_op opAdd pe_int (pe_callB (call_min2 rfl) (by rfl) T.b_min (by decide +kernel) (pa_cons (pe_callB call_len (by rfl) T.b_len PySem.boot_len (pa_cons (pvl 0) pa_nil)) (pa_cons pe_int pa_nil)))) pa_nil)) (pg_name (i := 2) sc_law.nd rfl (Or.inl rfl)) (pss_cons (ps_set (i := 3) sc_law.nd rfl (Or.inr rfl) (pe_callD D__law_net (hr.mono (by decide)) (by rfl) (pa_cons (pvl 1) (pa_cons (pe_ix ix_seq (pe_lst (pa_cons pe_int (pa_cons pe_int pa_nil))) (pe_op opMod (pvl 2) pe_int) (fun _ _ => rfl)) pa_nil)))) (pss_cons (ps_set (i := 4) sc_law.nd rfl (Or.inr rfl) (pe_callD D__law_sends (hr.mono (by decide)) (by rfl) (pa_cons (pvl 1) (pa_cons (pvc 3) (pa_cons (pe_ix ix_seq (pe_lst (pa_cons (pe_callD D__law_draw (hr.mono (by decide)) (by rfl) (pa_cons (pvl 1) (pa_cons pe_int pa_nil))) (pa_cons pe_int pa_nil))) (pe_callD D__law_draw (hr.mono (by decide)) (by rfl) (pa_cons (pvl 1) (pa_cons pe_int pa_nil))) (fun _ _ => rfl)) pa_nil))))) (pss_cons (ps_set (i := 5) sc_law.nd rfl (Or.inl rfl) (pe_callB (call_sortedD rfl) (by rfl) T.b_sorted (by decide +kernel) (pa_cons (pvc 3) pa_nil))) (pss_cons (ps_par (i := 6) (j := 7) (by rfl) sc_law.nd rfl rfl (by decide) rfl rfl (pa_cons (pe_ix ix_seq (pvl 5) pe_int (fun _ _ => rfl)) (pa_cons (pe_ix ix_seq (pvl 5) (pe_un un_neg pe_int) (fun _ _ => rfl)) pa_nil)) (by rfl)) (pss_cons (ps_set (i := 8) sc_law.nd rfl (Or.inr rfl) (pe_callD D__law_draw (hr.mono (by decide)) (by rfl) (pa_cons (pvl 1) (pa_cons (pe_op opAdd (pe_callB call_len (by rfl) T.b_len PySem.boot_len (pa_cons (pvc 4) pa_nil)) pe_int) pa_nil)))) (pss_cons (ps_set (i := 9) sc_law.nd rfl (Or.inl rfl) (pe_lst (pa_cons (pe_tup (pa_cons (pvl 6) (pa_cons (pvl 6) pa_nil))) (pa_cons (pe_tup (pa_cons (pvl 6) (pa_cons pe_str pa_nil))) (pa_cons (pe_tup (pa_cons pe_str (pa_cons (pvl 6) pa_nil))) (pa_cons (pe_tup (pa_cons (pvl 6) pa_nil)) (pa_cons (pe_tup (pa_cons (pvl 6) (pa_cons (pvl 7) (pa_cons (pvl 6) pa_nil)))) (pa_cons (pe_lst (pa_cons (pvl 6) (pa_cons (pvl 7) pa_nil))) (pa_cons (pvl 6) (pa_cons pe_non pa_nil)))))))))) (pss_cons (ps_set (i := 9) sc_law.nd rfl (Or.inl rfl) (pe_op opAdd (pvl 9) (pe_lst (pa_cons pe_int (pa_cons pe_bl pa_nil))))) (pss_cons (ps_set (i := 9) sc_law.nd rfl (Or.inl rfl) (pe_op opAdd (pvl 9) (pe_lst (pa_cons (pe_tup (pa_cons (pvl 6) (pa_cons pe_non pa_nil))) (pa_cons (pe_tup (pa_cons pe_int (pa_cons (pvl 6) pa_nil))) (pa_cons (pe_tup (pa_cons (pvl 6) (pa_cons (pe_tup (pa_cons (pvl 7) pa_nil)) pa_nil))) (pa_cons (pe_tup (pa_cons (pvl 6) (pa_cons (pe_lst (pa_cons (pvl 7) pa_nil)) pa_nil))) (pa_cons (pe_tup (pa_cons pe_str (pa_cons (pvl 6) pa_nil))) (pa_cons (pe_tup (pa_cons (pvl 6) (pa_cons pe_str pa_nil))) (pa_cons pe_dnewK (pa_cons (pe_tup (pa_cons (pe_tup (pa_cons (pvl 6) (pa_cons (pvl 7) pa_nil))) pa_nil)) pa_nil))))))))))) (pss_cons (ps_setLc (i := 10) (own := [("item", 13)]) (g := gName 13) (tt := tYes) rfl sc_law.nd rfl rfl (sw_true rfl rfl rfl (by decide +kernel)) (pi_list (pvl 9)) (blkOk_by (own := [("item", 13)]) (N := nn_law) (sc := defScope s_law) (by decide +kernel)) (fun _ _ _ _ _ => (pg_name (i := 13) sc_law.nd rfl (Or.inl rfl))) (fun _ _ _ _ _ => pts_nil) (blk_e fun _ _ _ _ _ => (pe_op opAdd (pe_op opAdd (pe_slice sl_list (pvc 4) po_none (po_some (pvc 8))) (pe_lst (pa_cons (pvl 13) pa_nil))) (pe_slice sl_list (pvc 4) (po_some (pvc 8)) po_none)))) (pss_cons (ps_set (i := 10) sc_law.nd rfl (Or.inl rfl) (pe_op opAdd (pvl 10) (pe_lst (pa_cons pe_non (pa_cons pe_int (pa_cons pe_str (pa_cons pe_dnewK (pa_cons pe_bl (pa_cons (pe_callTy call_tuple_of (by rfl) T.b_tuple boot_tuple (pa_cons (pvc 4) pa_nil)) (pa_cons (pe_lst (pa_cons (pe_lst pa_nil) pa_nil)) (pa_cons (pe_tup pa_nil) (pa_cons (pe_lst (pa_cons pe_non pa_nil)) (pa_cons pe_str pa_nil))))))))))))) (pss_cons (ps_if (pt_cmpR (opNe hr.units) (pvl 6) (pvl 7) (nomark _)) (pss_one (ps_set (i := 10) sc_law.nd rfl (Or.inl rfl) (pe_op opAdd (pvl 10) (pe_lst (pa_cons (pe_op opMul (pe_lst (pa_cons (pe_tup (pa_cons (pvl 6) (pa_cons (pvl 7) pa_nil))) pa_nil)) pe_int) (pa_cons (pe_tup (pa_cons (pe_tup (pa_cons (pvl 6) (pa_cons (pvl 7) pa_nil))) pa_nil)) pa_nil)))))) pss_nil) (pss_cons (ps_set (i := 11) sc_law.nd rfl (Or.inl rfl) (pe_lst (pa_cons (pvc 4) (pa_cons (pe_lst pa_nil) (pa_cons (pe_op opMul (pe_lst (pa_cons (pe_tup (pa_cons (pvl 6) (pa_cons (pvl 7) pa_nil))) pa_nil)) (pe_op opMul pe_int (pe_callTy call_int1 (by rfl) T.b_int boot_int (pa_cons (pe_cmpR (opNe hr.units) (pvl 6) (pvl 7) (nomark _)) pa_nil)))) pa_nil))))) (pss_cons (ps_set (i := 12) sc_law.nd rfl (Or.inl rfl) (pe_callB (call_reprD G hr.units) (by rfl) T.b_repr (by decide +kernel) (pa_cons (pe_lst (pa_cons (pvc 3) (pa_cons (pvl 11) (pa_cons (pvl 10) pa_nil)))) pa_nil))) (pss_cons (ps_if (pt_cmpR (opNe hr.units) (pe_lc (own := [("value", 14)]) (g := gName 14)  rfl sc_law.nd (pi_list (pvl 11)) (blkOk_by (own := [("value", 14)]) (N := nn_law) (sc := defScope s_law) (by decide +kernel)) (fun _ _ _ _ _ => (pg_name (i := 14) sc_law.nd rfl (Or.inl rfl))) (blk_t fun _ _ _ _ _ => (pts_one (pt_cmpR opIsNot (pe_callD D_is_frames (hr.mono (by decide)) (by rfl) (pa_cons (pvc 3) (pa_cons (pvl 14) pa_nil))) pe_bl (nomark _)))) (blk_e fun _ _ _ _ _ => (pvl 14))) (pe_lst pa_nil) (nomark _)) (pss_one (ps_ret pe_bl)) pss_nil) (pss_cons (ps_if (pt_cmpR (opNe hr.units) (pe_lc (own := [("value", 14)]) (g := gName 14)  rfl sc_law.nd (pi_list (pvl 10)) (blkOk_by (own := [("value", 14)]) (N := nn_law) (sc := defScope s_law) (by decide +kernel)) (fun _ _ _ _ _ => (pg_name (i := 14) sc_law.nd rfl (Or.inl rfl))) (blk_t fun _ _ _ _ _ => (pts_one (pt_cmpR opIsNot (pe_callD D_is_frames (hr.mono (by decide)) (by rfl) (pa_cons (pvc 3) (pa_cons (pvl 14) pa_nil))) pe_bl (nomark _)))) (blk_e fun _ _ _ _ _ => (pvl 14))) (pe_lst pa_nil) (nomark _)) (pss_one (ps_ret pe_bl)) pss_nil) (pss_one (ps_if (pt_cmpR (opNe hr.units) (pe_callB (call_reprD G hr.units) (by rfl) T.b_repr (by decide +kernel) (pa_cons (pe_lst (pa_cons (pvc 3) (pa_cons (pvl 11) (pa_cons (pvl 10) pa_nil)))) pa_nil)) (pvl 12) (nomark _)) (pss_one (ps_ret pe_bl)) pss_nil)))))))))))))))))) (pss_one (ps_ret (pe_and (pe_cmpR opIs (pe_callD D_is_frames (hr.mono (by decide)) (by rfl) (pa_cons (pe_disp (pps_cons pe_str pe_int pps_nil) (by rfl) (by rfl) (fun z => by cases z) (by decide)) (pa_cons (pe_lst pa_nil) pa_nil))) pe_bl (nomark _)) (pe_one (pe_cmpR opIs (pe_callD D_is_frames (hr.mono (by decide)) (by rfl) (pa_cons (pe_disp (pps_cons pe_str pe_int pps_nil) (by rfl) (by rfl) (fun z => by cases z) (by decide)) (pa_cons (pe_lst (pa_cons (pe_tup (pa_cons pe_str (pa_cons pe_str pa_nil))) pa_nil)) pa_nil))) pe_bl (nomark _)))))))), ?_⟩
    refine y_start (σ' := [some _, none, none, none, none, none, none, none, none, none, none, none, none, none, none]) (by rfl) ?_
    walk_at "py"
    refine ⟨H, [], a, ns, rfl, Led.same0 H, hs, hl, fun r g c R F0 H0 s0 D0 ok0 n0 => ?_⟩
    rw [List.append_nil] at D0
    walk_at "py"
    refine ⟨_, _, rfl, Or.inl ⟨_, D0.seq (s0.seq hs), rfl⟩, ?_⟩
    walk_at "py"
    refine ⟨_, _, rfl, ?_⟩
    walk_at "py"
    rw [List.length_map]
    refine ⟨_, rfl, by split <;> omega, by split <;> omega, ?_⟩
    have hturns : (2 + (if (4 : Int) < (ns.length : Int) then 4 else (ns.length : Int))).toNat ≤ 6 := by split <;> omega
    generalize (2 + (if (4 : Int) < (ns.length : Int) then 4 else (ns.length : Int))).toNat = turns at hturns ⊢
    refine for_any walk_range (fun i σ' H' => ∃ F g R v2 v3 v4 v5 v6 v7 v8 v9 v10 v11 v12 v13 v14, σ' = [some (.ref a), some (.ref r), v2, v3, v4, v5, v6, v7, v8, v9, v10, v11, v12, v13, v14] ∧ Led H' F (rE r g c R ++ []) ∧ RlOk R ∧ R.n ≤ i * 5000)
      ⟨F0, g, R, none, none, none, none, none, none, none, none, none, none, none, none, none, rfl, by rw [List.append_nil]; exact D0, ok0, by omega⟩ (fun _ _ _ _ => trivial) ?_ ?_
    rotate_left
    · rintro σ' H' ⟨F, g, R, v2, v3, v4, v5, v6, v7, v8, v9, v10, v11, v12, v13, v14, rfl, D, ok, hn⟩
      walk_at "py"
      have s200 : Same F F := Same.refl _
      have hh200 : Has F [] := Has.nil
      have D200 := D
      refine y_disp1 ?_
      intro x1 np
      generalize eh : upd _ x1 _ = K201
      obtain ⟨F201, s201, hh201, D201⟩ := D200.nh s200 hh200 np eh
      clear np eh
      walk_at "py"
      refine ⟨by show 0 ≤ sizeLine; decide, ?_⟩
      intro x2 np
      generalize eh : upd _ x2 _ = K202
      obtain ⟨F202, s202, hh202, D202⟩ := D201.nh s201 hh201 np eh
      clear np eh
      walk_at "py"
      refine ⟨_, _, true, [("a", 0)], rfl, D202.frz (hh202.get 1), oneA, framesT (D202.frz (hh202.get 0)) (by simp) alN, fun HA sA => ?_⟩
      have D220 := D202.after sA
      have s220 := s202
      have hh220 := hh202
      walk_at "py"
      refine andK_t ?_
      walk_at "py"
      refine y_disp1 ?_
      intro x3 np
      generalize eh : upd _ x3 _ = K221
      obtain ⟨F221, s221, hh221, D221⟩ := D220.nh s220 hh220 np eh
      clear np eh
      walk_at "py"
      refine ⟨by show 2 ≤ sizeLine; decide, ?_⟩
      intro x4 np
      generalize eh : upd _ x4 _ = K222
      obtain ⟨F222, s222, hh222, D222⟩ := D221.nh s221 hh221 np eh
      clear np eh
      walk_at "py"
      refine ⟨by show 1 ≤ sizeLine; decide, ?_⟩
      intro x5 np
      generalize eh : upd _ x5 _ = K223
      obtain ⟨F223, s223, hh223, D223⟩ := D222.nh s222 hh222 np eh
      clear np eh
      walk_at "py"
      refine ⟨_, _, false, [("a", 0)], rfl, D223.frz (hh223.get 2), oneA, framesF (D223.frz (hh223.get 0)) (by simp) List.mem_cons_self (frE (D223.frz (hh223.get 1))) (alC ⟨_, frE (D223.frz (hh223.get 1))⟩ alN), fun HB sB => ?_⟩
      walk_at "py"
      exact q _
    rintro i x σ' H' hi rfl ⟨F, g, R, v2, v3, v4, v5, v6, v7, v8, v9, v10, v11, v12, v13, v14, rfl, D, ok, hn⟩
    walk_at "py"
    refine ⟨by show 2 ≤ sizeLine; decide, ?_⟩
    intro p np
    generalize eh : upd _ p _ = G1
    have D1 := D.nl np eh
    walk_at "py"
    refine r_mod (by decide) ?_
    have hm : ∃ m : Int, (m = 4 ∨ m = 40) ∧ atI [V.int 4, V.int 40] ((0 + (i : Int)) % 2) = some (V.int m) := by
      have h0 := Int.emod_nonneg (0 + (i : Int)) (show (2 : Int) ≠ 0 by decide)
      have h1 := Int.emod_lt_of_pos (0 + (i : Int)) (show (0 : Int) < 2 by decide)
      rcases (show (0 + (i : Int)) % 2 = 0 ∨ (0 + (i : Int)) % 2 = 1 by omega) with e | e
      · exact ⟨4, .inl rfl, by rw [e]; rfl⟩
      · exact ⟨40, .inr rfl, by rw [e]; rfl⟩
    obtain ⟨m, hm, em⟩ := hm
    refine r_ixL (SqL.of (D1.get 0)) em ?_
    have D2 := D1.drop
    clear D1 eh np
    walk_at "py"
    refine ⟨F, [], r, g, c, R, m, rfl, D2, ok, by omega, by omega, by omega, fun an ks g1 R1 F1 H1 okl hpool kl s1 hnet D3 ok1 n1 => ?_⟩
    walk_at "py"
    refine ⟨F1, [], r, g1, c, R1, 300, rfl, D3, ok1, by decide, by decide, by omega, fun d1 g2 R2 H2 a1 b1 D4 ok2 n2 => ?_⟩
    walk_at "py"
    refine ⟨by show 2 ≤ sizeLine; decide, ?_⟩
    intro p np
    generalize eh : upd _ p _ = G1
    have D5 := (D4.nl np eh).back
    clear eh np
    walk_at "py"
    refine ⟨F1, _, r, g2, c, R2, 2, rfl, D5, ok2, by decide, by decide, by omega, fun d2 g3 R3 H3 a2 b2 D6 ok3 n3 => ?_⟩
    obtain ⟨k1, rfl⟩ := Int.eq_ofNat_of_zero_le a1
    have hmm : ∃ mm : Nat, mm ≤ 299 ∧ atI [V.int (k1 : Int), V.int 299] d2 = some (V.int (mm : Int)) := by
      rcases (show d2 = 0 ∨ d2 = 1 by omega) with e | e
      · exact ⟨k1, by omega, by rw [e]; rfl⟩
      · exact ⟨299, by omega, by rw [e]; rfl⟩
    obtain ⟨mm, hmm, emm⟩ := hmm
    refine r_ixL (SqL.of (D6.get 3)) emm ?_
    have D7 := D6.fwd.drop
    clear D6 D5 D4
    walk_at "py"
    refine ⟨F1, [], r, g3, c, an, R3, ks, mm, rfl, D7, ok3, hnet, okl, by omega, by omega, fun sa ts ps g4 R4 F2 H4 so lps tp s2 hsa D8 ok4 n4 => ?_⟩
    have hnet2 := s2 _ _ hnet
    walk_at "py"
    have ekk : (lineK ks).map (·.1) = (ks.map (·.1)).map Sum.inr := by
      unfold lineK
      rw [List.map_map, List.map_map]; rfl
    have l1 := okl.len1
    have l2 := okl.len2
    refine ⟨an, _, ks.map (·.1), rfl, .inl (D8.frz hnet2), ekk, by rw [List.length_map]; omega, fun ys nm perm _ nnm => ?_⟩
    generalize eh : upd H4 nm _ = H5
    have D9 := (D8.nl nnm eh).back
    clear eh
    have ly : ys.length = ks.length := by rw [perm.length_eq, List.length_map]
    have ymem : ∀ z ∈ ys, z ∈ ks.map (·.1) := fun z hz => perm.mem_iff.mp hz
    walk_at "py"
    obtain ⟨one, hone⟩ : ∃ z, ys[0]? = some z := ⟨_, List.getElem?_eq_getElem (by omega)⟩
    refine r_ixL (SqL.of (D9.get 3)) (at_nat (k := 0) (c := V.str one) (by rw [List.getElem?_map, hone]; rfl)) ?_
    walk_at "py"
    obtain ⟨yi, other, eys⟩ : ∃ yi yl, ys = yi ++ [yl] := ⟨_, _, (List.dropLast_concat_getLast (l := ys) (by intro e; rw [e] at ly; simp at ly; omega)).symm⟩
    refine r_ixL (SqL.of (D9.get 3)) (by rw [eys, List.map_append]; exact atI_last _ (V.str other)) ?_
    walk_at "py"
    refine ⟨_, _, rfl, ?_⟩
    simp only [List.set_cons_zero, List.set_cons_succ]
    have h1 : one ∈ ks.map (·.1) := ymem _ (List.mem_of_getElem? hone)
    have h2 : other ∈ ks.map (·.1) := ymem _ (by rw [eys]; simp)
    have D10 := D9.fwd.drop
    clear D9
    walk_at "py"
    refine ⟨_, _, rfl, Or.inl ⟨_, SqL.of (D10.frz hsa), rfl⟩, ?_⟩
    walk_at "py"
    rw [List.length_map]
    refine ⟨F2, [], r, g4, c, R4, _, rfl, D10, ok4, by omega, by have := tp.length; rw [lps] at this; split at this <;> omega, by omega, fun d3 g5 R5 H6 a3 b3 D11 ok5 n5 => ?_⟩
    obtain ⟨at', rfl⟩ := Int.eq_ofNat_of_zero_le a3
    have s20 : Same F2 F2 := Same.refl _
    have hh20 : Has F2 [] := Has.nil
    have D20 := D11
    clear D11
    have hts : ts.length ≤ 299 := by have := tp.length; rw [this, lps]; split <;> omega
    walk_at "py"
    refine ⟨by show 2 ≤ sizeLine; decide, ?_⟩
    intro o1 np
    generalize eh : upd _ o1 _ = K21
    obtain ⟨F21, s21, hh21, D21⟩ := D20.nh s20 hh20 np eh
    clear np eh
    walk_at "py"
    refine ⟨by show 2 ≤ sizeLine; decide, ?_⟩
    intro o2 np
    generalize eh : upd _ o2 _ = K22
    obtain ⟨F22, s22, hh22, D22⟩ := D21.nh s21 hh21 np eh
    clear np eh
    walk_at "py"
    refine ⟨by show 2 ≤ sizeLine; decide, ?_⟩
    intro o3 np
    generalize eh : upd _ o3 _ = K23
    obtain ⟨F23, s23, hh23, D23⟩ := D22.nh s22 hh22 np eh
    clear np eh
    walk_at "py"
    refine ⟨by show 1 ≤ sizeLine; decide, ?_⟩
    intro o4 np
    generalize eh : upd _ o4 _ = K24
    obtain ⟨F24, s24, hh24, D24⟩ := D23.nh s23 hh23 np eh
    clear np eh
    walk_at "py"
    refine ⟨by show 3 ≤ sizeLine; decide, ?_⟩
    intro o5 np
    generalize eh : upd _ o5 _ = K25
    obtain ⟨F25, s25, hh25, D25⟩ := D24.nh s24 hh24 np eh
    clear np eh
    walk_at "py"
    refine ⟨by show 2 ≤ sizeLine; decide, ?_⟩
    intro o6 np
    generalize eh : upd _ o6 _ = K26
    obtain ⟨F26, s26, hh26, D26⟩ := D25.nh s25 hh25 np eh
    clear np eh
    walk_at "py"
    refine ⟨by show 8 ≤ sizeLine; decide, ?_⟩
    intro oa np
    generalize eh : upd _ oa _ = K27
    obtain ⟨F27, s27, hh27, D27⟩ := D26.nh s26 hh26 np eh
    clear np eh
    walk_at "py"
    refine ⟨by show 2 ≤ sizeLine; decide, ?_⟩
    intro ob np
    generalize eh : upd _ ob _ = K28
    obtain ⟨F28, s28, hh28, D28⟩ := D27.nh s27 hh27 np eh
    clear np eh
    walk_at "py"
    refine r_addL (D28.frz (hh28.get 1)) (D28.frz (hh28.get 0)) (by show 10 ≤ sizeLine; decide) ?_
    intro oc np
    generalize eh : upd _ oc _ = K29
    obtain ⟨F29, s29, hh29, D29⟩ := D28.nh s28 hh28 np eh
    clear np eh
    walk_at "py"
    refine ⟨by show 2 ≤ sizeLine; decide, ?_⟩
    intro q1 np
    generalize eh : upd _ q1 _ = K30
    obtain ⟨F30, s30, hh30, D30⟩ := D29.nh s29 hh29 np eh
    clear np eh
    walk_at "py"
    refine ⟨by show 2 ≤ sizeLine; decide, ?_⟩
    intro q2 np
    generalize eh : upd _ q2 _ = K31
    obtain ⟨F31, s31, hh31, D31⟩ := D30.nh s30 hh30 np eh
    clear np eh
    walk_at "py"
    refine ⟨by show 1 ≤ sizeLine; decide, ?_⟩
    intro q3 np
    generalize eh : upd _ q3 _ = K32
    obtain ⟨F32, s32, hh32, D32⟩ := D31.nh s31 hh31 np eh
    clear np eh
    walk_at "py"
    refine ⟨by show 2 ≤ sizeLine; decide, ?_⟩
    intro q4 np
    generalize eh : upd _ q4 _ = K33
    obtain ⟨F33, s33, hh33, D33⟩ := D32.nh s32 hh32 np eh
    clear np eh
    walk_at "py"
    refine ⟨by show 1 ≤ sizeLine; decide, ?_⟩
    intro q5 np
    generalize eh : upd _ q5 _ = K34
    obtain ⟨F34, s34, hh34, D34⟩ := D33.nh s33 hh33 np eh
    clear np eh
    walk_at "py"
    refine ⟨by show 2 ≤ sizeLine; decide, ?_⟩
    intro q6 np
    generalize eh : upd _ q6 _ = K35
    obtain ⟨F35, s35, hh35, D35⟩ := D34.nh s34 hh34 np eh
    clear np eh
    walk_at "py"
    refine ⟨by show 2 ≤ sizeLine; decide, ?_⟩
    intro q7 np
    generalize eh : upd _ q7 _ = K36
    obtain ⟨F36, s36, hh36, D36⟩ := D35.nh s35 hh35 np eh
    clear np eh
    walk_at "py"
    refine ⟨by show 2 ≤ sizeLine; decide, ?_⟩
    intro q8 np
    generalize eh : upd _ q8 _ = K37
    obtain ⟨F37, s37, hh37, D37⟩ := D36.nh s36 hh36 np eh
    clear np eh
    walk_at "py"
    intro q9 np
    generalize eh : upd _ q9 _ = K38
    obtain ⟨F38, s38, hh38, D38⟩ := D37.nh s37 hh37 np eh
    clear np eh
    walk_at "py"
    refine ⟨by show 2 ≤ sizeLine; decide, ?_⟩
    intro qa np
    generalize eh : upd _ qa _ = K39
    obtain ⟨F39, s39, hh39, D39⟩ := D38.nh s38 hh38 np eh
    clear np eh
    walk_at "py"
    refine ⟨by show 1 ≤ sizeLine; decide, ?_⟩
    intro qb np
    generalize eh : upd _ qb _ = K40
    obtain ⟨F40, s40, hh40, D40⟩ := D39.nh s39 hh39 np eh
    clear np eh
    walk_at "py"
    refine ⟨by show 8 ≤ sizeLine; decide, ?_⟩
    intro od np
    generalize eh : upd _ od _ = K41
    obtain ⟨F41, s41, hh41, D41⟩ := D40.nh s40 hh40 np eh
    clear np eh
    walk_at "py"
    refine r_addL (D41.frz (hh41.get 12)) (D41.frz (hh41.get 0)) (by show 18 ≤ sizeLine; decide) ?_
    intro oe np
    generalize eh : upd _ oe _ = K42
    obtain ⟨F42, s42, hh42, D42⟩ := D41.nh s41 hh41 np eh
    clear np eh
    walk_at "py"
    have n1 : nmStr one = true := by obtain ⟨pp, hp, e⟩ := List.mem_map.mp h1; rw [← e]; exact okl.nm pp hp
    have n2' : nmStr other = true := by obtain ⟨pp, hp, e⟩ := List.mem_map.mp h2; rw [← e]; exact okl.nm pp hp
    have inpool : ∀ z, z ∉ POOL → isHost ks (.str z) = false := fun z hz => host_no fun q => hz (by obtain ⟨pp, hp, e⟩ := List.mem_map.mp q; rw [← e]; exact hpool pp hp)
    have zz : isHost ks (.str "zzzzzzz") = false := inpool _ (by decide +kernel)
    have ze : isHost ks (.str "") = false := inpool _ (by decide +kernel)
    have zA : isHost ks (.str "A") = false := inpool _ (by decide +kernel)
    have hodd : ∀ x ∈ [V.ref o1, V.ref o2, V.ref o3, V.ref o4, V.ref o5, V.ref o6, V.str one, V.non] ++ [V.int 0, V.bl true] ++ [V.ref q1, V.ref q2, V.ref q4, V.ref q6, V.ref q7, V.ref q8, V.ref q9, V.ref qb], FrB ks F42 x false ∧ Dx F42 x 200 3 := by
      exact alA (alA (alC ⟨frE (hh42.get 21), Dx.more (Dx.tup (hh42.get 21) (.cons (xN n1) (.cons (xN n1) .nil))) (by decide) (Nat.le_refl _)⟩
        (alC ⟨frR (hh42.get 20) (.str _) (.str _) zz, Dx.more (Dx.tup (hh42.get 20) (.cons (xN n1) (.cons (xS) .nil))) (by decide) (Nat.le_refl _)⟩
        (alC ⟨frLf (hh42.get 19) (.str _) (.str _) zz, Dx.more (Dx.tup (hh42.get 19) (.cons (xS) (.cons (xN n1) .nil))) (by decide) (Nat.le_refl _)⟩
        (alC ⟨frT (hh42.get 18) (by simp) (by simp), Dx.more (Dx.tup (hh42.get 18) (.cons (xN n1) .nil)) (by decide) (Nat.le_refl _)⟩
        (alC ⟨frT (hh42.get 17) (by simp) (by simp), Dx.more (Dx.tup (hh42.get 17) (.cons (xN n1) (.cons (xN n2') (.cons (xN n1) .nil)))) (by decide) (Nat.le_refl _)⟩
        (alC ⟨frL (hh42.get 16), Dx.more (Dx.lst (hh42.get 16) (.cons (xN n1) (.cons (xN n2') .nil))) (by decide) (Nat.le_refl _)⟩
        (alC ⟨frA (.str _) (fun _ => nofun), Dx.more (xN n1) (by decide) (Nat.le_refl _)⟩
        (alC ⟨frA .non (fun _ => nofun), Dx.more xO (by decide) (Nat.le_refl _)⟩
        alN)))))))) (alC ⟨frA (.int _) (fun _ => nofun), Dx.more xI (by decide) (Nat.le_refl _)⟩
        (alC ⟨frA (.bl _) (fun _ => nofun), Dx.more (xB _) (by decide) (Nat.le_refl _)⟩
        alN))) (alC ⟨frR (hh42.get 12) (.str _) .non rfl, Dx.more (Dx.tup (hh42.get 12) (.cons (xN n1) (.cons xO .nil))) (by decide) (Nat.le_refl _)⟩
        (alC ⟨frLf (hh42.get 11) (.int _) (.str _) rfl, Dx.more (Dx.tup (hh42.get 11) (.cons xI (.cons (xN n1) .nil))) (by decide) (Nat.le_refl _)⟩
        (alC ⟨frR (hh42.get 9) (.str _) (.tup (hh42.get 10)) rfl, Dx.more (Dx.tup (hh42.get 9) (.cons (xN n1) (.cons (Dx.tup (hh42.get 10) (.cons (xN n2') .nil)) .nil))) (by decide) (Nat.le_refl _)⟩
        (alC ⟨frR (hh42.get 7) (.str _) (.lst (hh42.get 8)) rfl, Dx.more (Dx.tup (hh42.get 7) (.cons (xN n1) (.cons (Dx.lst (hh42.get 8) (.cons (xN n2') .nil)) .nil))) (by decide) (Nat.le_refl _)⟩
        (alC ⟨frLf (hh42.get 6) (.str _) (.str _) ze, Dx.more (Dx.tup (hh42.get 6) (.cons (xS) (.cons (xN n1) .nil))) (by decide) (Nat.le_refl _)⟩
        (alC ⟨frR (hh42.get 5) (.str _) (.str _) zA, Dx.more (Dx.tup (hh42.get 5) (.cons (xN n1) (.cons (xS) .nil))) (by decide) (Nat.le_refl _)⟩
        (alC ⟨frD (hh42.get 4), Dx.more (xD (hh42.get 4)) (by decide) (Nat.le_refl _)⟩
        (alC ⟨frT (hh42.get 2) (by simp) (by simp), Dx.more (Dx.tup (hh42.get 2) (.cons (Dx.tup (hh42.get 3) (.cons (xN n1) (.cons (xN n2') .nil))) .nil)) (by decide) (Nat.le_refl _)⟩
        alN))))))))
    have hoe := (hh42.get 0)
    generalize eOL : [V.ref o1, V.ref o2, V.ref o3, V.ref o4, V.ref o5, V.ref o6, V.str one, V.non] ++ [V.int 0, V.bl true] ++ _ = OL at hoe hodd
    have OLn : OL.length = 18 := by rw [← eOL]; rfl
    have hsa0 : F42 sa = some (.lst (ts.map V.ref)) := s42 _ _ hsa
    have tpT := fun (F : Hp) (s : Same F2 F) => sendsT (ks := ks) (tp.mono s) so
    have tpX := fun (F : Hp) (s : Same F2 F) => sendsX (tp.mono s) (fun p hp => ⟨(by obtain ⟨pp, hp, e⟩ := List.mem_map.mp (so p hp).1; rw [← e]; exact okl.nm pp hp), (by obtain ⟨pp, hp, e⟩ := List.mem_map.mp (so p hp).2.1; rw [← e]; exact okl.nm pp hp)⟩)
    refine ⟨oe, rfl, ⟨_, SqL.of (D42.frz hoe)⟩, ?_⟩
    refine lc_led D42 (walk_list (xs := OL)) (by omega) (fun j acc F' L' => Same F42 F' ∧ L' = rE r g5 c R5 ++ [] ∧ ∀ x ∈ acc, FramesB ks F' x false ∧ Dx F' x 6000 4) ⟨Same.refl _, rfl, alN⟩ (fun j acc F' L' H' Dl z D => SqL.of (D.frz (z.1 _ _ hoe))) ?_ ?_
    · rintro Kp Sk j acc F3 L3 H7 Dl x hj hx ⟨s3, rfl, hacc⟩ D30 ha kp sk
      have fx := hodd x (List.mem_of_getElem? hx)
      walk_at "py1"
      refine ⟨rfl, ?_⟩
      walk_at "py"
      refine r_sl (SqL.of (D30.frz (s3 _ _ hsa0))) ?_
      rw [cut_take]
      have s30 : Same F3 F3 := Same.refl _
      have hh30 : Has F3 [] := Has.nil
      intro c1 np
      generalize eh : upd _ c1 _ = K31
      obtain ⟨F31, s31, hh31, D31⟩ := D30.nh s30 hh30 np eh
      clear np eh
      walk_at "py"
      refine ⟨by show 1 ≤ sizeLine; decide, ?_⟩
      intro c2 np
      generalize eh : upd _ c2 _ = K32
      obtain ⟨F32, s32, hh32, D32⟩ := D31.nh s31 hh31 np eh
      clear np eh
      walk_at "py"
      refine r_addL (D32.frz (hh32.get 1)) (D32.frz (hh32.get 0)) (by rw [List.length_take, List.length_singleton, List.length_map]; exact le_line (by omega)) ?_
      intro c3 np
      generalize eh : upd _ c3 _ = K33
      obtain ⟨F33, s33, hh33, D33⟩ := D32.nh s32 hh32 np eh
      clear np eh
      walk_at "py"
      refine r_sl (SqL.of (D33.frz (s33 _ _ (s3 _ _ hsa0)))) ?_
      rw [cut_drop]
      intro c4 np
      generalize eh : upd _ c4 _ = K34
      obtain ⟨F34, s34, hh34, D34⟩ := D33.nh s33 hh33 np eh
      clear np eh
      walk_at "py"
      refine r_addL (D34.frz (hh34.get 1)) (D34.frz (hh34.get 0)) (by rw [List.length_append, List.length_take, List.length_drop, List.length_singleton, List.length_map]; exact le_line (by omega)) ?_
      intro c5 np
      generalize eh : upd _ c5 _ = K35
      obtain ⟨F35, s35, hh35, D35⟩ := D34.nh s34 hh34 np eh
      clear np eh
      walk_at "py"
      have sx := s42.trans (s3.trans s35)
      exact kp _ F35 _ _ D35 ⟨s3.trans s35, rfl, alA (fun x hx => ⟨(hacc x hx).1.mono s35, (hacc x hx).2.mono s35⟩) (alC ⟨mixF (hh35.get 0) (by rw [List.length_map]; exact hts) (tpT _ sx) (fx.1.mono (s3.trans s35)), mixX (hh35.get 0) (by rw [List.length_map]; exact hts) (tpX _ sx) (fx.2.mono (s3.trans s35))⟩ alN)⟩
    rintro acc F3 L3 H7 b0 ⟨s3, rfl, hacc⟩ D30 ha
    obtain ⟨F40, s40', hh40, D40⟩ := D30.froz
    have z40 : Same F2 F40 := s42.trans (s3.trans s40')
    clear D30 eOL hodd hoe
    have s40 : Same F40 F40 := Same.refl _
    walk_at "py"
    intro m1 np
    generalize eh : upd _ m1 _ = K41
    obtain ⟨F41, s41, hh41, D41⟩ := D40.nh s40 hh40 np eh
    clear np eh
    walk_at "py"
    refine ⟨_, _, rfl, .inl ⟨SqL.of (D41.frz ((z40.trans s41) _ _ hsa)), ?_⟩⟩
    intro m2 np
    generalize eh : upd _ m2 _ = K42
    obtain ⟨F42, s42, hh42, D42⟩ := D41.nh s41 hh41 np eh
    clear np eh
    walk_at "py"
    refine ⟨by show 0 ≤ sizeLine; decide, ?_⟩
    intro m3 np
    generalize eh : upd _ m3 _ = K43
    obtain ⟨F43, s43, hh43, D43⟩ := D42.nh s42 hh42 np eh
    clear np eh
    walk_at "py"
    refine ⟨by show 1 ≤ sizeLine; decide, ?_⟩
    intro m4 np
    generalize eh : upd _ m4 _ = K44
    obtain ⟨F44, s44, hh44, D44⟩ := D43.nh s43 hh43 np eh
    clear np eh
    walk_at "py"
    refine ⟨by show 0 ≤ sizeLine; decide, ?_⟩
    intro m5 np
    generalize eh : upd _ m5 _ = K45
    obtain ⟨F45, s45, hh45, D45⟩ := D44.nh s44 hh44 np eh
    clear np eh
    walk_at "py"
    refine ⟨by show 1 ≤ sizeLine; decide, ?_⟩
    intro m6 np
    generalize eh : upd _ m6 _ = K46
    obtain ⟨F46, s46, hh46, D46⟩ := D45.nh s45 hh45 np eh
    clear np eh
    walk_at "py"
    refine ⟨by show 10 ≤ sizeLine; decide, ?_⟩
    intro m7 np
    generalize eh : upd _ m7 _ = K47
    obtain ⟨F47, s47, hh47, D47⟩ := D46.nh s46 hh46 np eh
    clear np eh
    walk_at "py"
    refine r_addL (D47.frz (hh47.get 7)) (D47.frz (hh47.get 0)) (by show acc.length + 10 ≤ sizeLine; exact le_line (by omega)) ?_
    intro m8 np
    generalize eh : upd _ m8 _ = K48
    obtain ⟨F48, s48, hh48, D48⟩ := D47.nh s47 hh47 np eh
    clear np eh
    have hbad : ∀ x ∈ acc ++ [V.non, V.int 0, V.str "", V.ref m1, V.bl true, V.ref m2, V.ref m4, V.ref m5, V.ref m6, V.str "ab"], FramesB ks F48 x false ∧ Dx F48 x 6000 4 :=
      alA (fun x hx => ⟨(hacc x hx).1.mono (s40'.trans s48), (hacc x hx).2.mono (s40'.trans s48)⟩) (alC ⟨FramesB.no .non (by decide), Dx.more xO (by decide) (Nat.le_refl _)⟩
        (alC ⟨FramesB.no (.int _) (by decide), Dx.more xI (by decide) (Nat.le_refl _)⟩
        (alC ⟨FramesB.no (.str _) (by decide), Dx.more xS (by decide) (Nat.le_refl _)⟩
        (alC ⟨FramesB.no (.dK (hh48.get 7)) (by decide), Dx.more (xD (hh48.get 7)) (by decide) (Nat.le_refl _)⟩
        (alC ⟨FramesB.no (.bl _) (by decide), Dx.more (xB _) (by decide) (Nat.le_refl _)⟩
        (alC ⟨FramesB.no (.tup (hh48.get 6)) (by decide), Dx.more (Dx.tup (hh48.get 6) (DxA.all (tpX _ (z40.trans s48)))) (by rw [List.length_map]; omega) (by decide)⟩
        (alC ⟨framesF (hh48.get 4) (by simp) (x := .ref m3) List.mem_cons_self (frL (hh48.get 5)) (alC ⟨_, frL (hh48.get 5)⟩ alN), Dx.more (Dx.lst (hh48.get 4) (.cons (Dx.lst (hh48.get 5) .nil) .nil)) (by decide) (Nat.le_refl _)⟩
        (alC ⟨FramesB.no (.tup (hh48.get 3)) (by decide), Dx.more (Dx.tup (hh48.get 3) .nil) (by decide) (Nat.le_refl _)⟩
        (alC ⟨framesF (hh48.get 2) (by simp) (x := .non) List.mem_cons_self (frA .non (fun _ => nofun)) (alC ⟨_, frA .non (fun _ => nofun)⟩ alN), Dx.more (Dx.lst (hh48.get 2) (.cons xO .nil)) (by decide) (Nat.le_refl _)⟩
        (alC ⟨FramesB.no (.str _) (by decide), Dx.more xS (by decide) (Nat.le_refl _)⟩
        alN))))))))))
    have hm8 := (hh48.get 0)
    generalize eBB : acc ++ [V.non, V.int 0, _, _, _, _, _, _, _, _] = BB at hm8 hbad
    have BBn : BB.length ≤ 28 := by rw [← eBB, List.length_append]; show acc.length + 10 ≤ 28; omega
    walk_at "py1"
    walk_at "py1"
    refine with_s (fun σ' H' => ∃ F' bb CC, σ' = [some (V.ref a), some (V.ref r), some (V.int (0 + (i : Int))), some (V.ref an), some (V.ref sa), some (V.ref nm),
            some (V.str one), some (V.str other), some (V.int (at' : Int)), some (V.ref oe), some (V.ref bb), v11, v12, v13, v14] ∧ Same F2 F' ∧ F' bb = some (.lst CC) ∧ CC.length ≤ 30 ∧
      (∀ x ∈ CC, FramesB ks F' x false ∧ Dx F' x 6000 4) ∧ Led H' F' (rE r g5 c R5 ++ [])) ?_ (fun rest => ?_)
    rotate_left
    · refine y_if (y_tTest (y_op (y_var rfl (y_var rfl (r_ne rfl (tkK ?_))))))
      refine ite_b (fun e => ?_) (fun e => y_next (rest _ _ ⟨F48, m8, BB, rfl, z40.trans s48, hm8, by omega, hbad, D48⟩))
      have s70 : Same F48 F48 := Same.refl _
      have hh70 : Has F48 [(m8, .lst BB)] := fun x hx => by rw [List.mem_singleton.mp hx]; exact hm8
      have D70 := D48
      walk_at "py"
      refine ⟨by show 2 ≤ sizeLine; decide, ?_⟩
      intro t1 np
      generalize eh : upd _ t1 _ = K71
      obtain ⟨F71, s71, hh71, D71⟩ := D70.nh s70 hh70 np eh
      clear np eh
      walk_at "py"
      refine ⟨by show 1 ≤ sizeLine; decide, ?_⟩
      intro t2 np
      generalize eh : upd _ t2 _ = K72
      obtain ⟨F72, s72, hh72, D72⟩ := D71.nh s71 hh71 np eh
      clear np eh
      walk_at "py"
      refine r_mulL (D72.frz (hh72.get 0)) (by decide) (by decide) (by show 1 * 301 ≤ sizeLine; decide) ?_
      intro t3 np
      generalize eh : upd _ t3 _ = K73
      obtain ⟨F73, s73, hh73, D73⟩ := D72.nh s72 hh72 np eh
      clear np eh
      walk_at "py"
      refine ⟨by show 2 ≤ sizeLine; decide, ?_⟩
      intro t4 np
      generalize eh : upd _ t4 _ = K74
      obtain ⟨F74, s74, hh74, D74⟩ := D73.nh s73 hh73 np eh
      clear np eh
      walk_at "py"
      refine ⟨by show 1 ≤ sizeLine; decide, ?_⟩
      intro t5 np
      generalize eh : upd _ t5 _ = K75
      obtain ⟨F75, s75, hh75, D75⟩ := D74.nh s74 hh74 np eh
      clear np eh
      walk_at "py"
      refine ⟨by show 2 ≤ sizeLine; decide, ?_⟩
      intro t6 np
      generalize eh : upd _ t6 _ = K76
      obtain ⟨F76, s76, hh76, D76⟩ := D75.nh s75 hh75 np eh
      clear np eh
      walk_at "py"
      refine r_addL (D76.frz (hh76.get 6)) (D76.frz (hh76.get 0)) (by show BB.length + 2 ≤ sizeLine; exact le_line (by omega)) ?_
      intro t7 np
      generalize eh : upd _ t7 _ = K77
      obtain ⟨F77, s77, hh77, D77⟩ := D76.nh s76 hh76 np eh
      clear np eh
      walk_at "py1"
      refine rest _ _ ⟨F77, t7, _, rfl, (z40.trans s48).trans s77, (hh77.get 0), by rw [List.length_append]; show BB.length + 2 ≤ 30; omega, alA (fun x hx => ⟨(hbad x hx).1.mono s77, (hbad x hx).2.mono s77⟩) ?_, D77⟩
      refine alC ⟨.long (hh77.get 4) (by rw [flat_len]; decide) (by rw [flat_len]; decide), (Dx.lst (hh77.get 4) (DxA.all (w := 18) (k := 1) (alR (alC (Dx.more (Dx.tup (hh77.get 6) (.cons (xN n1) (.cons (xN n2') .nil))) (by decide) (Nat.le_refl _)) alN)))).more (by rw [flat_len]; decide) (by decide)⟩ (alC ⟨.no (.tup (hh77.get 2)) (by decide), Dx.more (Dx.tup (hh77.get 2) (.cons (Dx.tup (hh77.get 3) (.cons (xN n1) (.cons (xN n2') .nil))) .nil)) (by decide) (Nat.le_refl _)⟩ alN)
    rintro σ' H7' ⟨F80, bb, CC, rfl, z80, hbb, CCn, hbad', D80⟩
    have s80 : Same F80 F80 := Same.refl _
    have hh80 : Has F80 [(bb, .lst CC)] := fun x hx => by rw [List.mem_singleton.mp hx]; exact hbb
    walk_at "py"
    refine ⟨by show 0 ≤ sizeLine; decide, ?_⟩
    intro u1 np
    generalize eh : upd _ u1 _ = K81
    obtain ⟨F81, s81, hh81, D81⟩ := D80.nh s80 hh80 np eh
    clear np eh
    walk_at "py"
    refine ⟨by show 2 ≤ sizeLine; decide, ?_⟩
    intro u2 np
    generalize eh : upd _ u2 _ = K82
    obtain ⟨F82, s82, hh82, D82⟩ := D81.nh s81 hh81 np eh
    clear np eh
    walk_at "py"
    refine ⟨by show 1 ≤ sizeLine; decide, ?_⟩
    intro u3 np
    generalize eh : upd _ u3 _ = K83
    obtain ⟨F83, s83, hh83, D83⟩ := D82.nh s82 hh82 np eh
    clear np eh
    walk_at "py"
    obtain ⟨jj, hjj, ejj, hjn⟩ := bit300 (!decide (V.str one = V.str other)) (one ≠ other) (by intro hq e; rw [e] at hq; simp at hq)
    refine .inr ⟨_, rfl, ?_⟩
    refine r_mul (by generalize (!decide (V.str one = V.str other)) = bq; cases bq <;> exact wide_mul (a := 400) (b := 400) (by decide +kernel) (by decide +kernel) (by decide) (by decide) (by decide)) ?_
    rw [ejj]
    refine r_mulL (D83.frz (hh83.get 0)) (by omega) (by omega) (by rw [Int.toNat_natCast]; show 1 * jj ≤ sizeLine; exact le_line (by omega)) ?_
    rw [Int.toNat_natCast]
    intro u4 np
    generalize eh : upd _ u4 _ = K84
    obtain ⟨F84, s84, hh84, D84⟩ := D83.nh s83 hh83 np eh
    clear np eh
    walk_at "py"
    refine ⟨by show 3 ≤ sizeLine; decide, ?_⟩
    intro u5 np
    generalize eh : upd _ u5 _ = K85
    obtain ⟨F85, s85, hh85, D85⟩ := D84.nh s84 hh84 np eh
    clear np eh
    walk_at "py"
    have zz4 : Same F2 F85 := z80.trans s85
    have hsa4 := zz4 _ _ hsa
    have hgood : ∀ x ∈ [V.ref sa, V.ref u1, V.ref u4], FramesB ks F85 x true ∧ Dx F85 x 6000 4 :=
      alC ⟨framesT hsa4 (by rw [List.length_map]; omega) (tpT _ zz4), Dx.more (Dx.lst hsa4 (DxA.all (tpX _ zz4))) (by rw [List.length_map]; omega) (by decide)⟩
       (alC ⟨framesT (hh85.get 4) (by simp) alN, Dx.more (Dx.lst (hh85.get 4) (DxA.nil (k := 0))) (by decide) (by decide)⟩
       (alC ⟨framesT (hh85.get 1) (by rw [flat_len]; exact hjj) (hjn.elim (fun e => by rw [e]; exact alN) (fun ne => alR (alC (pr_true (p := (one, other)) (hh85.get 3) h1 h2 ne) alN))), (Dx.lst (hh85.get 1) (DxA.all (w := 18) (k := 1) (alR (alC (Dx.more (Dx.tup (hh85.get 3) (.cons (xN n1) (.cons (xN n2') .nil))) (by decide) (Nat.le_refl _)) alN)))).more (by rw [flat_len]; omega) (by decide)⟩ alN))
    have hbad4 : ∀ x ∈ CC, FramesB ks F85 x false ∧ Dx F85 x 6000 4 := fun x hx => ⟨(hbad' x hx).1.mono s85, (hbad' x hx).2.mono s85⟩
    have hu5 := (hh85.get 0)
    have hbb4 := s85 _ _ hbb
    have hnet4 := zz4 _ _ hnet2
    obtain ⟨ds, dt, dk⟩ : DxA F85 [V.ref an, V.ref u5, V.ref bb] 300000 10 := by
      refine DxA.more (DxA.cons (Dx.more (k' := 10) (Dx.line hnet4 okl) (Nat.le_refl _) (by decide)) (DxA.cons (Dx.more (k' := 10) (W' := 19000) (Dx.lst hu5 (DxA.all fun x hx => (hgood x hx).2)) (by show 3 * (6000 + 1) ≤ 19000; decide) (by decide)) (DxA.cons (Dx.more (k' := 10) (W' := 200000) (Dx.lst hbb4 (DxA.all fun x hx => (hbad4 x hx).2)) (by omega) (by decide)) DxA.nil))) (by decide) (Nat.le_refl _)
    have dk' := DOk.list dk
    have z4n : Same F85 F85 := Same.refl _
    have D100 := D85
    have s100 : Same F85 F85 := Same.refl _
    have hh100 : Has F85 [] := Has.nil
    refine ⟨by show 3 ≤ sizeLine; decide, ?_⟩
    intro k1 np
    generalize eh : upd _ k1 _ = K101
    obtain ⟨F101, s101, hh101, D101⟩ := D100.nh s100 hh100 np eh
    clear np eh
    walk_at "py"
    refine ⟨_, .list ds, rfl, ⟨_, rfl⟩, .lst (D101.frz (hh101.get 0)) (dt.mono (s101.trans D101.ext)), dk'.sh, by have := dk'.dp; omega, dk'.fits (by decide), ?_⟩
    walk_at "py"
    refine ⟨u5, rfl, ⟨_, SqL.of (D101.frz (s101 _ _ hu5))⟩, ?_⟩
    refine lc_led D101 (walk_list (xs := [V.ref sa, V.ref u1, V.ref u4])) (by first | (show 3 ≤ 100000; decide) | omega) (fun j acc F' L' => Same F85 F' ∧ L' = rE r g5 c R5 ++ [] ∧ acc = []) ⟨s101, rfl, rfl⟩ (fun j acc F' L' H' Dl z D => SqL.of (D.frz (z.1 _ _ hu5))) ?_ ?_
    · rintro Kp Sk j acc F3 L3 H9 Dl x hj' hx ⟨s3, rfl, rfl⟩ D50 ha kp sk
      have fx := hgood x (List.mem_of_getElem? hx)
      walk_at "py1"
      refine ⟨rfl, ?_⟩
      walk_at "py"
      refine ⟨an, x, true, ks, rfl, D50.frz (s3 _ _ hnet4), okl, fx.1.mono (s3.trans D50.ext), fun H10 sH => ?_⟩
      walk_at "py"
      exact ite_no (by simp) (sk F3 _ _ (D50.after sH) ⟨s3, rfl, rfl⟩)
    rintro acc F120 L3 H9 e0 ⟨s120, rfl, rfl⟩ D120 ha
    have hh120 : Has F120 [] := Has.nil
    walk_at "py"
    refine ⟨by show 0 ≤ sizeLine; decide, ?_⟩
    intro e1 np
    generalize eh : upd _ e1 _ = K121
    obtain ⟨F121, s121, hh121, D121⟩ := D120.nh s120 hh120 np eh
    clear np eh
    walk_at "py"
    refine r_neD (.lst (SqL.of (D121.get 0)) .nil) (.lst (SqL.of (D121.frz (hh121.get 0))) .nil) rfl rfl ?_
    rw [eqv_nil]
    have DD := D121.drop
    clear D121 D120
    have D121 := DD
    clear DD
    walk_at "py"
    refine ite_no rfl ?_
    walk_at "py"
    refine ⟨bb, rfl, ⟨_, SqL.of (D121.frz (s121 _ _ hbb4))⟩, ?_⟩
    refine lc_led D121 (walk_list (xs := CC)) (by first | (show 3 ≤ 100000; decide) | omega) (fun j acc F' L' => Same F85 F' ∧ L' = rE r g5 c R5 ++ [] ∧ acc = []) ⟨s121, rfl, rfl⟩ (fun j acc F' L' H' Dl z D => SqL.of (D.frz (z.1 _ _ hbb4))) ?_ ?_
    · rintro Kp Sk j acc F3 L3 H9 Dl x hj' hx ⟨s3, rfl, rfl⟩ D50 ha kp sk
      have fx := hbad4 x (List.mem_of_getElem? hx)
      walk_at "py1"
      refine ⟨rfl, ?_⟩
      walk_at "py"
      refine ⟨an, x, false, ks, rfl, D50.frz (s3 _ _ hnet4), okl, fx.1.mono (s3.trans D50.ext), fun H10 sH => ?_⟩
      walk_at "py"
      exact ite_no (by simp) (sk F3 _ _ (D50.after sH) ⟨s3, rfl, rfl⟩)
    rintro acc F140 L3 H9 e0 ⟨s140, rfl, rfl⟩ D140 ha
    have hh140 : Has F140 [] := Has.nil
    walk_at "py"
    refine ⟨by show 0 ≤ sizeLine; decide, ?_⟩
    intro e1 np
    generalize eh : upd _ e1 _ = K141
    obtain ⟨F141, s141, hh141, D141⟩ := D140.nh s140 hh140 np eh
    clear np eh
    walk_at "py"
    refine r_neD (.lst (SqL.of (D141.get 0)) .nil) (.lst (SqL.of (D141.frz (hh141.get 0))) .nil) rfl rfl ?_
    rw [eqv_nil]
    have DD := D141.drop
    clear D141 D140
    have D141 := DD
    clear DD
    walk_at "py"
    refine ite_no rfl ?_
    walk_at "py"
    refine ⟨by show 3 ≤ sizeLine; decide, ?_⟩
    intro k2 np
    generalize eh : upd _ k2 _ = K142
    obtain ⟨F142, s142, hh142, D142⟩ := D141.nh s141 hh141 np eh
    clear np eh
    walk_at "py"
    refine ⟨_, .list ds, rfl, ⟨_, rfl⟩, .lst (D142.frz (hh142.get 0)) (dt.mono (s142.trans D142.ext)), dk'.sh, by have := dk'.dp; omega, dk'.fits (by decide), ?_⟩
    walk_at "py"
    refine ite_no (by simp) ?_
    walk_at "py"
    exact ⟨_, g5, R5, _, _, _, _, _, _, _, _, _, _, _, _, _, rfl, D142, ok5, by omega⟩
end
theorem all_at {P : Program} {w : World} {K : PySem.W.Frag} {h : Heap} {mg : Str → Option Value} (X : K.In h) (G : h.Ns mainGlobals mg)
    (v_FARTHEST : ∃ t, mg "FARTHEST" = some (.int (1000000000000000000000000000000) t))
    {f0 : Addr} {p0 q0 : Option Addr} {r0 : Array (Option Value)} {t0 u0 v0 x0 y0 z0 : Value}
    (n0 : PySem.W.nsIn K mainGlobals "is_integer" = some (some (.ref f0)))
    (l0 : K.lookup f0 = some ⟨t0, p0, .func (PySem.W.fnOf "is_integer" "is_integer" (defArgs s_is_integer) (defBody s_is_integer) (defScope s_is_integer) .none u0 v0 x0 q0 y0 z0), r0⟩)
    (c0 : PySem.W.codeIn K y0 "is_integer" = true) (k0 : PySem.W.keepIn K (.ref f0) = true)
    {f1 : Addr} {p1 q1 : Option Addr} {r1 : Array (Option Value)} {t1 u1 v1 x1 y1 z1 : Value}
    (n1 : PySem.W.nsIn K mainGlobals "is_name" = some (some (.ref f1)))
    (l1 : K.lookup f1 = some ⟨t1, p1, .func (PySem.W.fnOf "is_name" "is_name" (defArgs s_is_name) (defBody s_is_name) (defScope s_is_name) .none u1 v1 x1 q1 y1 z1), r1⟩)
    (c1 : PySem.W.codeIn K y1 "is_name" = true) (k1 : PySem.W.keepIn K (.ref f1) = true)
    {f2 : Addr} {p2 q2 : Option Addr} {r2 : Array (Option Value)} {t2 u2 v2 x2 y2 z2 : Value}
    (n2 : PySem.W.nsIn K mainGlobals "is_list" = some (some (.ref f2)))
    (l2 : K.lookup f2 = some ⟨t2, p2, .func (PySem.W.fnOf "is_list" "is_list" (defArgs s_is_list) (defBody s_is_list) (defScope s_is_list) .none u2 v2 x2 q2 y2 z2), r2⟩)
    (c2 : PySem.W.codeIn K y2 "is_list" = true) (k2 : PySem.W.keepIn K (.ref f2) = true)
    {f3 : Addr} {p3 q3 : Option Addr} {r3 : Array (Option Value)} {t3 u3 v3 x3 y3 z3 : Value}
    (n3 : PySem.W.nsIn K mainGlobals "is_pair" = some (some (.ref f3)))
    (l3 : K.lookup f3 = some ⟨t3, p3, .func (PySem.W.fnOf "is_pair" "is_pair" (defArgs s_is_pair) (defBody s_is_pair) (defScope s_is_pair) .none u3 v3 x3 q3 y3 z3), r3⟩)
    (c3 : PySem.W.codeIn K y3 "is_pair" = true) (k3 : PySem.W.keepIn K (.ref f3) = true)
    {f4 : Addr} {p4 q4 : Option Addr} {r4 : Array (Option Value)} {t4 u4 v4 x4 y4 z4 : Value}
    (n4 : PySem.W.nsIn K mainGlobals "is_host" = some (some (.ref f4)))
    (l4 : K.lookup f4 = some ⟨t4, p4, .func (PySem.W.fnOf "is_host" "is_host" (defArgs s_is_host) (defBody s_is_host) (defScope s_is_host) .none u4 v4 x4 q4 y4 z4), r4⟩)
    (c4 : PySem.W.codeIn K y4 "is_host" = true) (k4 : PySem.W.keepIn K (.ref f4) = true)
    {f5 : Addr} {p5 q5 : Option Addr} {r5 : Array (Option Value)} {t5 u5 v5 x5 y5 z5 : Value}
    (n5 : PySem.W.nsIn K mainGlobals "_law_reel" = some (some (.ref f5)))
    (l5 : K.lookup f5 = some ⟨t5, p5, .func (PySem.W.fnOf "_law_reel" "_law_reel" (defArgs s__law_reel) (defBody s__law_reel) (defScope s__law_reel) .none u5 v5 x5 q5 y5 z5), r5⟩)
    (c5 : PySem.W.codeIn K y5 "_law_reel" = true) (k5 : PySem.W.keepIn K (.ref f5) = true)
    {f6 : Addr} {p6 q6 : Option Addr} {r6 : Array (Option Value)} {t6 u6 v6 x6 y6 z6 : Value}
    (n6 : PySem.W.nsIn K mainGlobals "_law_draw" = some (some (.ref f6)))
    (l6 : K.lookup f6 = some ⟨t6, p6, .func (PySem.W.fnOf "_law_draw" "_law_draw" (defArgs s__law_draw) (defBody s__law_draw) (defScope s__law_draw) .none u6 v6 x6 q6 y6 z6), r6⟩)
    (c6 : PySem.W.codeIn K y6 "_law_draw" = true) (k6 : PySem.W.keepIn K (.ref f6) = true)
    {f7 : Addr} {p7 q7 : Option Addr} {r7 : Array (Option Value)} {t7 u7 v7 x7 y7 z7 : Value}
    (n7 : PySem.W.nsIn K mainGlobals "is_position" = some (some (.ref f7)))
    (l7 : K.lookup f7 = some ⟨t7, p7, .func (PySem.W.fnOf "is_position" "is_position" (defArgs s_is_position) (defBody s_is_position) (defScope s_is_position) .none u7 v7 x7 q7 y7 z7), r7⟩)
    (c7 : PySem.W.codeIn K y7 "is_position" = true) (k7 : PySem.W.keepIn K (.ref f7) = true)
    {f8 : Addr} {p8 q8 : Option Addr} {r8 : Array (Option Value)} {t8 u8 v8 x8 y8 z8 : Value}
    (n8 : PySem.W.nsIn K mainGlobals "is_frame" = some (some (.ref f8)))
    (l8 : K.lookup f8 = some ⟨t8, p8, .func (PySem.W.fnOf "is_frame" "is_frame" (defArgs s_is_frame) (defBody s_is_frame) (defScope s_is_frame) .none u8 v8 x8 q8 y8 z8), r8⟩)
    (c8 : PySem.W.codeIn K y8 "is_frame" = true) (k8 : PySem.W.keepIn K (.ref f8) = true)
    {f9 : Addr} {p9 q9 : Option Addr} {r9 : Array (Option Value)} {t9 u9 v9 x9 y9 z9 : Value}
    (n9 : PySem.W.nsIn K mainGlobals "_law_net" = some (some (.ref f9)))
    (l9 : K.lookup f9 = some ⟨t9, p9, .func (PySem.W.fnOf "_law_net" "_law_net" (defArgs s__law_net) (defBody s__law_net) (defScope s__law_net) .none u9 v9 x9 q9 y9 z9), r9⟩)
    (c9 : PySem.W.codeIn K y9 "_law_net" = true) (k9 : PySem.W.keepIn K (.ref f9) = true)
    {f10 : Addr} {p10 q10 : Option Addr} {r10 : Array (Option Value)} {t10 u10 v10 x10 y10 z10 : Value}
    (n10 : PySem.W.nsIn K mainGlobals "_law_sends" = some (some (.ref f10)))
    (l10 : K.lookup f10 = some ⟨t10, p10, .func (PySem.W.fnOf "_law_sends" "_law_sends" (defArgs s__law_sends) (defBody s__law_sends) (defScope s__law_sends) .none u10 v10 x10 q10 y10 z10), r10⟩)
    (c10 : PySem.W.codeIn K y10 "_law_sends" = true) (k10 : PySem.W.keepIn K (.ref f10) = true)
    {f11 : Addr} {p11 q11 : Option Addr} {r11 : Array (Option Value)} {t11 u11 v11 x11 y11 z11 : Value}
    (n11 : PySem.W.nsIn K mainGlobals "is_line" = some (some (.ref f11)))
    (l11 : K.lookup f11 = some ⟨t11, p11, .func (PySem.W.fnOf "is_line" "is_line" (defArgs s_is_line) (defBody s_is_line) (defScope s_is_line) .none u11 v11 x11 q11 y11 z11), r11⟩)
    (c11 : PySem.W.codeIn K y11 "is_line" = true) (k11 : PySem.W.keepIn K (.ref f11) = true)
    {f12 : Addr} {p12 q12 : Option Addr} {r12 : Array (Option Value)} {t12 u12 v12 x12 y12 z12 : Value}
    (n12 : PySem.W.nsIn K mainGlobals "check_line" = some (some (.ref f12)))
    (l12 : K.lookup f12 = some ⟨t12, p12, .func (PySem.W.fnOf "check_line" "check_line" (defArgs s_check_line) (defBody s_check_line) (defScope s_check_line) .none u12 v12 x12 q12 y12 z12), r12⟩)
    (c12 : PySem.W.codeIn K y12 "check_line" = true) (k12 : PySem.W.keepIn K (.ref f12) = true)
    {f13 : Addr} {p13 q13 : Option Addr} {r13 : Array (Option Value)} {t13 u13 v13 x13 y13 z13 : Value}
    (n13 : PySem.W.nsIn K mainGlobals "is_frames" = some (some (.ref f13)))
    (l13 : K.lookup f13 = some ⟨t13, p13, .func (PySem.W.fnOf "is_frames" "is_frames" (defArgs s_is_frames) (defBody s_is_frames) (defScope s_is_frames) .none u13 v13 x13 q13 y13 z13), r13⟩)
    (c13 : PySem.W.codeIn K y13 "is_frames" = true) (k13 : PySem.W.keepIn K (.ref f13) = true)
    {f14 : Addr} {p14 q14 : Option Addr} {r14 : Array (Option Value)} {t14 u14 v14 x14 y14 z14 : Value}
    (n14 : PySem.W.nsIn K mainGlobals "law" = some (some (.ref f14)))
    (l14 : K.lookup f14 = some ⟨t14, p14, .func (PySem.W.fnOf "law" "law" (defArgs s_law) (defBody s_law) (defScope s_law) .none u14 v14 x14 q14 y14 z14), r14⟩)
    (c14 : PySem.W.codeIn K y14 "law" = true) (k14 : PySem.W.keepIn K (.ref f14) = true)
    (b_all : PySem.W.nsIn K mainGlobals "all" = some none)
    (b_bool : PySem.W.nsIn K mainGlobals "bool" = some none)
    (b_dict : PySem.W.nsIn K mainGlobals "dict" = some none)
    (b_int : PySem.W.nsIn K mainGlobals "int" = some none)
    (b_isinstance : PySem.W.nsIn K mainGlobals "isinstance" = some none)
    (b_len : PySem.W.nsIn K mainGlobals "len" = some none)
    (b_list : PySem.W.nsIn K mainGlobals "list" = some none)
    (b_min : PySem.W.nsIn K mainGlobals "min" = some none)
    (b_range : PySem.W.nsIn K mainGlobals "range" = some none)
    (b_repr : PySem.W.nsIn K mainGlobals "repr" = some none)
    (b_set : PySem.W.nsIn K mainGlobals "set" = some none)
    (b_sorted : PySem.W.nsIn K mainGlobals "sorted" = some none)
    (b_str : PySem.W.nsIn K mainGlobals "str" = some none)
    (b_tuple : PySem.W.nsIn K mainGlobals "tuple" = some none)
    (b_type : PySem.W.nsIn K mainGlobals "type" = some none)
    {t_MOST_FRAMES : _} (g_MOST_FRAMES : PySem.W.nsIn K mainGlobals "MOST_FRAMES" = some (some (.int (300) t_MOST_FRAMES)))
    {t_MOST_HOSTS : _} (g_MOST_HOSTS : PySem.W.nsIn K mainGlobals "MOST_HOSTS" = some (some (.int (40) t_MOST_HOSTS)))
    {t_MOST_LETTERS : _} (g_MOST_LETTERS : PySem.W.nsIn K mainGlobals "MOST_LETTERS" = some (some (.int (8) t_MOST_LETTERS)))
    : ∀ base : Heap, (∃ o, base.get? sysModules = some o) → DfnG P w K mg base "law" ["script"] 6 (sp_law K) := by
  intro base hm
  have T : Tx mg := ⟨PySem.W.mg_none_of X G b_all, PySem.W.mg_none_of X G b_bool, PySem.W.mg_none_of X G b_dict, PySem.W.mg_none_of X G b_int, PySem.W.mg_none_of X G b_isinstance, PySem.W.mg_none_of X G b_len, PySem.W.mg_none_of X G b_list, PySem.W.mg_none_of X G b_min, PySem.W.mg_none_of X G b_range, PySem.W.mg_none_of X G b_repr, PySem.W.mg_none_of X G b_set, PySem.W.mg_none_of X G b_sorted, PySem.W.mg_none_of X G b_str, PySem.W.mg_none_of X G b_tuple, PySem.W.mg_none_of X G b_type, v_FARTHEST, ⟨_, PySem.W.mg_of X G g_MOST_FRAMES⟩, ⟨_, PySem.W.mg_of X G g_MOST_HOSTS⟩, ⟨_, PySem.W.mg_of X G g_MOST_LETTERS⟩⟩
  have A0 : At K mg "is_integer" s_is_integer ["value"] := At.mk' X G n0 l0 c0 k0 fun _ _ _ _ _ _ us hl => match us, hl with | [_], _ => rfl
  have D_is_integer := ok_is_integer (P := P) (w := w) (K := K) (mg := mg) (base := base) T A0
  have A1 : At K mg "is_name" s_is_name ["value"] := At.mk' X G n1 l1 c1 k1 fun _ _ _ _ _ _ us hl => match us, hl with | [_], _ => rfl
  have D_is_name := ok_is_name (P := P) (w := w) (K := K) (mg := mg) (base := base) T A1
  have A2 : At K mg "is_list" s_is_list ["value"] := At.mk' X G n2 l2 c2 k2 fun _ _ _ _ _ _ us hl => match us, hl with | [_], _ => rfl
  have D_is_list := ok_is_list (P := P) (w := w) (K := K) (mg := mg) (base := base) T A2
  have A3 : At K mg "is_pair" s_is_pair ["value"] := At.mk' X G n3 l3 c3 k3 fun _ _ _ _ _ _ us hl => match us, hl with | [_], _ => rfl
  have D_is_pair := ok_is_pair (P := P) (w := w) (K := K) (mg := mg) (base := base) T A3
  have A4 : At K mg "is_host" s_is_host ["line", "value"] := At.mk' X G n4 l4 c4 k4 fun _ _ _ _ _ _ us hl => match us, hl with | [_, _], _ => rfl
  have D_is_host := ok_is_host (P := P) (w := w) (K := K) (mg := mg) (base := base) T A4
  have A5 : At K mg "_law_reel" s__law_reel ["script"] := At.mk' X G n5 l5 c5 k5 fun _ _ _ _ _ _ us hl => match us, hl with | [_], _ => rfl
  have D__law_reel := ok__law_reel (P := P) (w := w) (K := K) (mg := mg) (base := base) T A5
  have A6 : At K mg "_law_draw" s__law_draw ["reel", "many"] := At.mk' X G n6 l6 c6 k6 fun _ _ _ _ _ _ us hl => match us, hl with | [_, _], _ => rfl
  have D__law_draw := ok__law_draw (P := P) (w := w) (K := K) (mg := mg) (base := base) T A6
  have A7 : At K mg "is_position" s_is_position ["value"] := At.mk' X G n7 l7 c7 k7 fun _ _ _ _ _ _ us hl => match us, hl with | [_], _ => rfl
  have D_is_position := ok_is_position (P := P) (w := w) (K := K) (mg := mg) (base := base) T A7 D_is_integer
  have A8 : At K mg "is_frame" s_is_frame ["line", "value"] := At.mk' X G n8 l8 c8 k8 fun _ _ _ _ _ _ us hl => match us, hl with | [_, _], _ => rfl
  have D_is_frame := ok_is_frame (P := P) (w := w) (K := K) (mg := mg) (base := base) T A8 D_is_host D_is_pair
  have A9 : At K mg "_law_net" s__law_net ["reel", "most"] := At.mk' X G n9 l9 c9 k9 fun _ _ _ _ _ _ us hl => match us, hl with | [_, _], _ => rfl
  have D__law_net := ok__law_net (P := P) (w := w) (K := K) (mg := mg) (base := base) T A9 D__law_draw
  have A10 : At K mg "_law_sends" s__law_sends ["reel", "net", "many"] := At.mk' X G n10 l10 c10 k10 fun _ _ _ _ _ _ us hl => match us, hl with | [_, _, _], _ => rfl
  have D__law_sends := ok__law_sends (P := P) (w := w) (K := K) (mg := mg) (base := base) T A10 D__law_draw
  have A11 : At K mg "is_line" s_is_line ["value"] := At.mk' X G n11 l11 c11 k11 fun _ _ _ _ _ _ us hl => match us, hl with | [_], _ => rfl
  have D_is_line := ok_is_line (P := P) (w := w) (K := K) (mg := mg) (base := base) T A11 D_is_name D_is_position
  have A12 : At K mg "check_line" s_check_line ["line"] := At.mk' X G n12 l12 c12 k12 fun _ _ _ _ _ _ us hl => match us, hl with | [_], _ => rfl
  have D_check_line := ok_check_line (P := P) (w := w) (K := K) (mg := mg) (base := base) T A12 D_is_line
  have A13 : At K mg "is_frames" s_is_frames ["line", "value"] := At.mk' X G n13 l13 c13 k13 fun _ _ _ _ _ _ us hl => match us, hl with | [_, _], _ => rfl
  have D_is_frames := ok_is_frames (P := P) (w := w) (K := K) (mg := mg) (base := base) T A13 D_check_line D_is_frame D_is_list
  have A14 : At K mg "law" s_law ["script"] := At.mk' X G n14 l14 c14 k14 fun _ _ _ _ _ _ us hl => match us, hl with | [_], _ => rfl
  have D_law := ok_law (P := P) (w := w) (K := K) (mg := mg) (base := base) T hm A14 D__law_draw D__law_net D__law_reel D__law_sends D_is_frames
  exact D_law
end FL.k03
open PySem PySem.W PyProof.Rows
theorem PySem.Challenge.cw_floodline_k03_frames_judged_holds : PySem.Challenge.rw_floodline_k03_frames_judged.Holds := by
  w_on; o_law; k_head; (case hw => w_witness2)
  k_fill
  refine FL.law_end (l := PySem.Challenge.rw_floodline_k03_frames_judged) (n := 63) (k := 6) (x := "script") (sp := fun K => FL.k03.sp_law K) rfl (by decide) rfl ⟨rfl, by decide, by decide⟩ (fun w h Y => PySem.W.kIn_of Y) (by decide +kernel) ?F ?c
  case c => exact fun K H a ns hl hS => ⟨a, ns, rfl, hS, hl, fun _ => rfl⟩
  case F =>
    intro w mg h KX G V
    have v_FARTHEST : ∃ t, mg "FARTHEST" = some (.int (1000000000000000000000000000000) t) := by
      obtain ⟨v, e, r⟩ := V.2.val ("FARTHEST", WData.int (1000000000000000000000000000000)) (by simp)
      obtain ⟨t, q, -⟩ := readsW_int_inv r
      rw [q] at e
      exact ⟨t, e⟩
    refine' FL.k03.all_at KX G v_FARTHEST ?n0 ?l0 ?c0 ?k0 ?n1 ?l1 ?c1 ?k1 ?n2 ?l2 ?c2 ?k2 ?n3 ?l3 ?c3 ?k3 ?n4 ?l4 ?c4 ?k4 ?n5 ?l5 ?c5 ?k5 ?n6 ?l6 ?c6 ?k6 ?n7 ?l7 ?c7 ?k7 ?n8 ?l8 ?c8 ?k8 ?n9 ?l9 ?c9 ?k9 ?n10 ?l10 ?c10 ?k10 ?n11 ?l11 ?c11 ?k11 ?n12 ?l12 ?c12 ?k12 ?n13 ?l13 ?c13 ?k13 ?n14 ?l14 ?c14 ?k14 ?b_all ?b_bool ?b_dict ?b_int ?b_isinstance ?b_len ?b_list ?b_min ?b_range ?b_repr ?b_set ?b_sorted ?b_str ?b_tuple ?b_type ?g_MOST_FRAMES ?g_MOST_HOSTS ?g_MOST_LETTERS
    (case n0 => k_is)
    (case l0 => k_is)
    (case c0 => k_is)
    (case k0 => k_is)
    (case n1 => k_is)
    (case l1 => k_is)
    (case c1 => k_is)
    (case k1 => k_is)
    (case n2 => k_is)
    (case l2 => k_is)
    (case c2 => k_is)
    (case k2 => k_is)
    (case n3 => k_is)
    (case l3 => k_is)
    (case c3 => k_is)
    (case k3 => k_is)
    (case n4 => k_is)
    (case l4 => k_is)
    (case c4 => k_is)
    (case k4 => k_is)
    (case n5 => k_is)
    (case l5 => k_is)
    (case c5 => k_is)
    (case k5 => k_is)
    (case n6 => k_is)
    (case l6 => k_is)
    (case c6 => k_is)
    (case k6 => k_is)
    (case n7 => k_is)
    (case l7 => k_is)
    (case c7 => k_is)
    (case k7 => k_is)
    (case n8 => k_is)
    (case l8 => k_is)
    (case c8 => k_is)
    (case k8 => k_is)
    (case n9 => k_is)
    (case l9 => k_is)
    (case c9 => k_is)
    (case k9 => k_is)
    (case n10 => k_is)
    (case l10 => k_is)
    (case c10 => k_is)
    (case k10 => k_is)
    (case n11 => k_is)
    (case l11 => k_is)
    (case c11 => k_is)
    (case k11 => k_is)
    (case n12 => k_is)
    (case l12 => k_is)
    (case c12 => k_is)
    (case k12 => k_is)
    (case n13 => k_is)
    (case l13 => k_is)
    (case c13 => k_is)
    (case k13 => k_is)
    (case n14 => k_is)
    (case l14 => k_is)
    (case c14 => k_is)
    (case k14 => k_is)
    (case b_all => k_is)
    (case b_bool => k_is)
    (case b_dict => k_is)
    (case b_int => k_is)
    (case b_isinstance => k_is)
    (case b_len => k_is)
    (case b_list => k_is)
    (case b_min => k_is)
    (case b_range => k_is)
    (case b_repr => k_is)
    (case b_set => k_is)
    (case b_sorted => k_is)
    (case b_str => k_is)
    (case b_tuple => k_is)
    (case b_type => k_is)
    (case g_MOST_FRAMES => k_is)
    (case g_MOST_HOSTS => k_is)
    (case g_MOST_LETTERS => k_is)
#print axioms PySem.Challenge.cw_floodline_k03_frames_judged_holds
