import PyProof.Rows.All
import Wide.All
import OpenK.AllK
import Wide.FinOn
import HandS.ExcInit
import HandS.Nested
import KE.KExcSuper
import HandS.ForExc
import PyProof.Rows.SortShellAny
import HandS.SetTxt0
import HandS.TupSets
import HandS.ForMost
import HandS.Walk
import HandS.IsInst
import HandS.IterVal
import HandS.Star
import HandS.Deep
import HandS.DictComp
import HandS.Zip
import HandS.ExcField
import HandS.ExcIs
import KE.KExcIs
import HandS.WordsExc
import HandS.FStr
import HandS.Defaults
import HandS.CallSlots
import HandS.Wide
import HandS.Style
import HandS.OwnEq
import HandS.Property
import OpenK.KMeth
import OpenK.KOps
import KE.KOpsOwn
import KE.KOwnIter
import KE.KDictPairs
import HandS.Gcd
import HandS.ClsMeth
import HandS.TupMul
import HandS.SetFor
import HandS.TupAny
import KE.DataFind
import HandS.TryMany
import HandS.OwnIter
import HandS.Iter
import HandS.Comp
import HandS.Dict
import KE.KDictKeyed
import KE.SortData
import KE.KeyNested
import PyProof.SetRoads
import HandS.ExcValue
import HandS.ExcOwn
import PyProof.TupleOfSeq
import HandS.Strs
import HandS.TryOnly
import HandS.CallRecv
import HandS.RaiseMore
import HandS.Text
import PySem.Challenge.RW_shadowlinks_k31_methods_of_wholes
set_option Elab.async false
set_option linter.all false
set_option maxRecDepth 100000
/-! An own exception's __init__ that begins with super().__init__(e), over ValueError. -/
namespace Sup
open PySem PySem.Spec PyProof.Rows L2 NdefX
abbrev vei : String := "ValueError.__init__"
def mwO (u a : Addr) : HO := .ext fun h => h.get? u = some (PySem.W.kxs_mw vei a)
theorem mwO_ok {P : Program} {w : World} {H : Hp} {h : Heap} {u a : Addr} (e : h.get? u = some (PySem.W.kxs_mw vei a)) : ObjOk P w H h u (mwO u a) := ⟨e, ⟨_, e⟩, fun h1 h2 z k => k _ z⟩
theorem mwO_at {P : Program} {w : World} {H : Hp} {h : Heap} {u a : Addr} (hok : HOk P w H h) (e : H u = some (mwO u a)) : h.get? u = some (PySem.W.kxs_mw vei a) := by
  have x : ObjOk P w H h u (.ext fun h => h.get? u = some (PySem.W.kxs_mw vei a)) := hok u _ e
  exact x.1
/-- what the written part says of a def that says super() -/
structure SupF (P : Program) (K : PySem.W.Frag) (mg : Str → Option Value) (env : Env) (sn : Str) (D : Addr) : Prop where
  ks : env.kindOf "super" = some .globalImplicit
  kc : env.kindOf "__class__" = some .free
  fn : ∃ (f : Addr) (oc : Value) (od : Option Addr) (fd : FuncData) (osl : Array (Option Value)) (ar : Arg), env.func = some f ∧ K.lookup f = some ⟨oc, od, .func fd, osl⟩ ∧ (fd.params.posonlyargs ++ fd.params.args).head? = some ar ∧ ar.arg = sn
  co : ∃ (cda : Addr) (ccl : Value) (cdd : Option Addr) (vs : Array Value) (ccs : Array (Option Value)) (file : Str) (tf : Tok), env.code = .ref cda ∧ K.lookup cda = some ⟨ccl, cdd, .fields vs, ccs⟩ ∧ vs[2]? = some (.str file tf) ∧ ((P.main.file : Str) == file) = true
  top : (P.main.scope.names.lookup ("super" : Str)).isSome = false
  ce : ∃ (cc : Addr) (cl : Value) (cld : Option Addr) (csl : Array (Option Value)), env.cells.lookup ("__class__" : Str) = some cc ∧ K.lookup cc = some ⟨cl, cld, .cell (some (.ref D)), csl⟩
  mg : mg "super" = none
  any : PySem.W.nsIn K cStatics "thirdparty.any" = some none
  it : interactive env = false
  ka : env.kindOf sn = some .local
/-- .. and of the class of the object -/
structure SupC (K : PySem.W.Frag) (C D : Addr) : Prop where
  cls : ∃ cd, PySem.W.clsIn K D = some cd
  sub : PySem.W.mroIn K C (.ref D) = some true
  sup : PySem.W.ks_superIn K C D "__init__" = some (some (.builtin vei))
  ve : PySem.W.subIn K (.ref C) (.type "ValueError") = some true
  exc : OexC K C
section
variable {X : Cx} {pins : List (Addr × Obj)} {σ : List (Option V)} {H : Hp} {s : Shared} {self : Str} {D a C : Addr} {body : List Stmt} {p0 p1 p2 pos pos' : Pos} {e : Expr} {te : TE}
theorem ld_super {E : Value → Shared → Prop} {Q : Value → Shared → Prop} (I : Inv X pins σ H s) (S : SupF X.prog X.K X.mg X.env self D) (h : Q (.type "super") s) : wpAny (model X.prog X.w) X.A (loadName X.env "super") Q E s := by
  obtain ⟨mb, h1, h2⟩ := I.mod.blt
  exact PySem.W.ks_loadName_global I.ok.kind S.ks (Calls.loadGlobal_builtin (by rw [I.ok.glob]; exact I.mod.glob.keeps I.bk) S.mg (by rw [I.ok.blt]; exact h1.keeps I.bk) ((h2 _ (by decide)).trans (by rfl)) h)
theorem self_at (I : Inv X pins σ H s) {u : V} (h1 : X.N[0]? = some self) (h2 : σ[0]? = some (some u)) (hk : X.env.kindOf self = some .local) : ∃ m v, s.heap.Ns X.env.locals m ∧ m self = some v ∧ RelV u v := by
  obtain ⟨m, hn, hl⟩ := I.loc
  obtain ⟨v, r, k⟩ := hl 0 self u h1 h2 (.inl hk)
  rcases k with ⟨_, k⟩ | ⟨k, _⟩
  · exact ⟨m, v, hn, k, r⟩
  · rcases k with k | k <;> · rw [hk] at k; cases k
theorem exo_inst {C a : Addr} (T : OexC X.K C) (I : Inv X pins σ H s) (e : H a = some (exo a C none)) : ∃ t1 : Addr, PySem.W.InstAt s.heap a { cls := .ref C, dict := none, data := .fields #[.ref t1, .none, .none, .none, .bool false, .none] } C none := by
  obtain ⟨t1, ho⟩ := exo_at I.hok e
  exact ⟨t1, ho, rfl, rfl, trivial⟩
/-- the wrapper called -/
theorem call_mw {u : Addr} {us : List Value} {Q : Value → Shared → Prop} {E : Value → Shared → Prop} {A : Around} (T : OexC X.K C) (I : Inv X pins σ H s) (eu : H u = some (mwO u a)) (ea : H a = some (exo a C none)) (hl : us.length ≤ sizeLine) (h : ∀ s', Inv X pins σ H s' → Q .none s') :
    wpAny (model X.prog X.w) A (call (.ref u) us) Q E s := by
  obtain ⟨nm, q, N, bs, bm, sn, sub, ab, col, dd, k0, k1, k2, k3, k5, hC, hbm⟩ := T.cls
  obtain ⟨t1, ho⟩ := exo_at I.hok ea
  have hu := mwO_at I.hok eu
  have hCh := I.kIn _ _ hC
  have FB := F.excBase_ValueError
  obtain ⟨hp, g, d, t, os⟩ := s
  refine wpAny_call (codeAny_of_tree ?_)
  show wpAny _ A.in1 (callAny (.ref u) ⟨us, []⟩) _ _ _
  simp only [callAny]
  refine wpAny_bind (wpAny_load hu ?_)
  simp only [PySem.W.kxs_mw, show (Value.type "method-wrapper" == Value.type "method" || Value.type "method-wrapper" == Value.type "builtin_function_or_method" || Value.type "method-wrapper" == Value.type "method-wrapper") = true by decide, if_true]
  refine PySem.W.KFB.if_so (by decide) ?_
  refine wpAny_bind (PySem.W.check_bound_init FB.toExcCallFacts hCh ho rfl ?_)
  refine wpAny_bind (wpAny_pure (wpAny_pure ?_))
  refine ⟨plainId_quiet FB.init.plain _, codeAny_builtin FB.initEntry ?_⟩
  refine PySem.W.exc_init_tree (cls := .ref C) (t0 := t1) (dv := none) (c2 := .none) (c3 := .none) (b4 := .bool false) ho hl fun h' k hx _ => ?_
  have J := I.write (t' := t) (x := a) (e := a) (o := exo a C none) (by rw [ea]; exact True.intro) (.inl rfl) k ⟨_, hx⟩ (exo_ok hx)
  have eu2 : upd H a (exo a C none) = H := by
    funext b
    by_cases hb : b = a
    · rw [hb, upd_same, ea]
    · rw [upd_ne hb]
  rw [eu2] at J
  exact h _ J
theorem sup_stmt {es : List Expr} {pl : Sem Bool} {ta : TA} {G : Hp → Prop} {Q : Flow → Shared → Prop} (I : Inv X pins σ H s) (S : SupF X.prog X.K X.mg X.env self D) (T : SupC X.K C D) (hN : X.N[0]? = some self) (h0 : σ[0]? = some (some (.ref a))) (ea : H a = some (exo a C none)) (ha : PA X (e :: es) ta)
    (h : ∀ u, H u = none → ta σ (upd H u (mwO u a)) fun vs H2 => vs.length ≤ 1000 ∧ H2 u = some (mwO u a) ∧ H2 a = some (exo a C none) ∧ G H2) (hq : ∀ H2 s', Inv X pins σ H2 s' → G H2 → Q .next s')
    (hev : eval (.Call (.Attribute (.Call (.Name "super" p0) [] [] p1) "__init__" p2) (e :: es) [] pos) X.env = (do
      let ov ← attributeBase (.Call (.Name "super" p0) [] [] p1) "__init__" X.env (eval (.Call (.Name "super" p0) [] [] p1) X.env)
      standAt p2.atName
      let (f, first) ← holding [ov] (getMethod ov "__init__" pl)
      callWith pos f first (backTo pos (starEach (e :: es) X.env)) []) := by rfl)
    (he : starEach (e :: es) X.env = (false, eval e X.env) :: starEach es X.env := by rfl) (hpl : (backTo pos (starEach es X.env)).any (·.1) = false := by rfl) :
    _root_.PySem.wpAt (model X.prog X.w) X.A (.func body X.env) (exec (.Expr (.Call (.Attribute (.Call (.Name "super" p0) [] [] p1) "__init__" p2) (e :: es) [] pos) pos') X.env) Q X.xe s := by
  refine ks_wpAt_Expr_any ?_ S.it
  refine ks_wpAt_MethodCall ?_ hev
  obtain ⟨f, oc, od, fd, osl, ar, hfu, lf, hp, har⟩ := S.fn
  obtain ⟨cda, ccl, cdd, vs, ccs, file, tf, hco, lc, hvs, hfile⟩ := S.co
  obtain ⟨cc, cl, cld, csl, hcl, lcc⟩ := S.ce
  obtain ⟨m, v, hn, hv, rv⟩ := self_at I hN h0 S.ka
  obtain rfl : v = Value.ref a := rv
  obtain ⟨t1, inst⟩ := exo_inst T.exc I ea
  obtain ⟨cdD, hD⟩ := T.cls
  have XK := I.kIn
  obtain ⟨oD, hD1, hD2⟩ : ∃ oD, s.heap.get? D = some oD ∧ oD.data = .cls cdD := by
    unfold PySem.W.clsIn at hD
    split at hD
    · rename_i c d cd' sl ho
      cases hD
      exact ⟨_, XK _ _ ho, rfl⟩
    · cases hD
  refine ks_wpAt_super_base S.ks S.kc (by decide) hfu (XK _ _ lf) rfl hp hco (XK _ _ lc) rfl hvs hfile S.top ?_
  refine ld_super I S ⟨rfl, ?_⟩
  refine wpAny_loadName_free I.ok.kind S.kc hcl ⟨_, XK _ _ lcc, rfl⟩ ?_
  refine wpAny_loadName_local I.ok.kind (har ▸ S.ka) hn (har ▸ hv) ?_
  refine ks_wpAny_isType_cls hD1 hD2 ⟨rfl, ?_⟩
  obtain ⟨hp0, g, d, t, os⟩ := s
  refine ks_wpAny_call_super hD1 hD2 inst.at_ rfl (fun c e => by cases e) (PySem.W.looks_mroIn XK T.sub) fun h' eso k => ?_
  have I2 : Inv X pins σ H ⟨h', g, d, t, os⟩ := I.kept (t' := t) k
  have XK2 := I2.kIn
  have sup := T.sup
  unfold PySem.W.ks_superIn at sup
  cases hc : PySem.W.clsIn X.K C with
  | none =>
    rw [hc] at sup
    cases sup
  | some cd =>
    rw [hc] at sup
    obtain ⟨t2, inst2⟩ := exo_inst T.exc I2 ea
    refine PySem.W.kxs_getMethod PySem.W.kxs_ValueError eso (PySem.W.looks_opaque XK2 S.any) (l₀ := cd.mro) ?_ rfl XK2 sup (inst2.type.andThen (PySem.W.looks_subIn XK2 T.ve)) (PySem.W.ks_ne XK2 inst2 hc) (by decide) ?_
    · exact fun A Q E s k q => wpAny_bind ((PySem.W.looks_clsIn XK2 hc) A _ E s k (wpAny_pure q))
    · have hnu : H h'.objs.size = none := I2.hok.fresh (Nat.le_refl _)
      have gu : (h'.push (PySem.W.kxs_mw vei a)).get? h'.objs.size = some (PySem.W.kxs_mw vei a) := Heap.get?_push_at rfl rfl
      have I3 : Inv X pins σ (upd H h'.objs.size (mwO h'.objs.size a)) ⟨h'.push (PySem.W.kxs_mw vei a), g, d, t + 1, os⟩ :=
        I2.laid (t' := t + 1) (fun b o e => Heap.get?_push_of_some _ e) (Nat.le_refl _) (mwO_ok gu)
      show wpAny _ _ (callWith pos (.ref h'.objs.size) [] (backTo pos (starEach (e :: es) X.env)) []) _ _ _
      have run := ha.run pos pins _ σ _ _ I3 (h _ hnu)
      rw [he] at run ⊢
      refine PySem.W.kxs_callWith (i := vei) (x := a) (by show (false || (backTo pos (starEach es X.env)).any (·.1)) = false; rw [hpl]; rfl) ?_
      refine Calls.evalArgs_plain (thn run fun us s1 ⟨vs, H1, I1, r1, hz, eu, ea1, hG⟩ => ⟨mwO_at I1.hok eu, ?_⟩)
      exact call_mw T.exc I1 eu ea1 (by show us.length ≤ _; rw [← Paired.length r1, sizeLine_eq]; omega) fun s' J => hq H1 s' J hG
end
section
variable {CX : CXT} {P : Program} {w : World} {K : PySem.W.Frag} {mg : Str → Option Value} {base : Heap} {k : Nat} {F : NF} {f cc D : Addr} {kV doc pm ct oc : Value} {an od : Option Addr} {osl : Array (Option Value)} {N ps : List Str} {sp : Sp} {self : Str} {e : Expr} {es : List Expr} {p0 p1 p2 pos pos' : Pos} {rest : List Stmt} {pl : Sem Bool}
theorem fn_sup (lk : K.lookup f = some ⟨oc, od, .func (PySem.W.fnX F.name F.qual F.params F.body F.scope F.cl .none kV doc pm an (.ref F.c) ct), osl⟩) (hcd : PySem.W.codeIn K (.ref F.c) F.qual = true) (hcl : F.cl = [(("__class__" : Str), cc)])
    (hcc : ∃ cl cld csl, K.lookup cc = some ⟨cl, cld, .cell (some (.ref D)), csl⟩) (S : NScope N ps ["__class__"] F.scope) (hF : ∀ L, SupF P K mg (envF F f L) self D) (hN : N[0]? = some self)
    (hbd : F.body = .Expr (.Call (.Attribute (.Call (.Name "super" p0) [] [] p1) "__init__" p2) (e :: es) [] pos) pos' :: rest)
    (len : ∀ vs H Q E, sp vs H Q E → vs.length = ps.length)
    (hbody : ∀ (A : Around) (outer : List Env) (s : Shared) (H : Hp) (vs : List V) (Q : VK) (E : XK), Room k (A.deeper (envF F f s.heap.objs.size)) → sp vs H Q E →
      ∃ (a C : Addr) (ta : TA) (t : TS), SupC K C D ∧ (startF N vs [none])[0]? = some (some (.ref a)) ∧ H a = some (exo a C none) ∧ PA (ncx CX P w K mg base N F f A outer s H E) (e :: es) ta ∧ PSs (ncx CX P w K mg base N F f A outer s H E) rest t ∧
        ∀ u, H u = none → ta (startF N vs [none]) (upd H u (mwO u a)) fun vs' H2 => vs'.length ≤ 1000 ∧ H2 u = some (mwO u a) ∧ H2 a = some (exo a C none) ∧ t { nx := fun _ H' => Q .non H', rt := Q } (startF N vs [none]) H2)
    (hev : ∀ L, eval (.Call (.Attribute (.Call (.Name "super" p0) [] [] p1) "__init__" p2) (e :: es) [] pos) (envF F f L) = (do
      let ov ← attributeBase (.Call (.Name "super" p0) [] [] p1) "__init__" (envF F f L) (eval (.Call (.Name "super" p0) [] [] p1) (envF F f L))
      standAt p2.atName
      let (g, first) ← holding [ov] (getMethod ov "__init__" pl)
      callWith pos g first (backTo pos (starEach (e :: es) (envF F f L))) []) := by intro L; rfl)
    (he : ∀ L, starEach (e :: es) (envF F f L) = (false, eval e (envF F f L)) :: starEach es (envF F f L) := by intro L; rfl) (hpl : ∀ L, (backTo pos (starEach es (envF F f L))).any (·.1) = false := by intro L; rfl) :
    FnOk P w K mg base CX (k + 1) f (PySem.W.fnX F.name F.qual F.params F.body F.scope F.cl .none kV doc pm an (.ref F.c) ct) ps sp := by
  refine ⟨len, fun A outer s H args us vs Q E hr e0 hb r hsp => ?_⟩
  have hl := len _ _ _ _ hsp
  have KX : K.In s.heap := e0.mod.kin.keeps fun b o e => (e0.bs b o e).1
  have lim : s.heap.NoLimit := e0.mod.nolimit.keeps fun b o e => (e0.bs b o e).1
  obtain ⟨cl, cld, csl, hcc⟩ := hcc
  have C : CellsAt F.cl ["__class__"] [none] s.heap H := by
    have one : ∀ {y : Str} {c : Addr}, F.cl.lookup y = some c → y = "__class__" ∧ c = cc := fun {y c} e => by
      rw [hcl] at e
      by_cases h : y = ("__class__" : Str)
      · subst h
        have e2 : some cc = some c := e
        exact ⟨rfl, (Option.some.inj e2).symm⟩
      · have h2 : (y == ("__class__" : Str)) = false := by simpa using h
        rw [List.lookup_cons, h2] at e
        cases e
    refine ⟨rfl, fun y c e => ?_, fun x y c e1 e2 => (one e1).1.trans (one e2).1.symm, fun i y hi => ?_⟩
    · rw [(one e).2]
      exact ⟨(e0.bs _ _ (e0.mod.kin _ _ hcc)).2, _, ⟨_, KX _ _ hcc, rfl⟩⟩
    · cases i with
      | zero =>
        have e : ("__class__" : Str) = y := Option.some.inj hi
        refine ⟨cc, by rw [hcl, ← e]; rfl, fun v hv => ?_⟩
        cases hv
      | succ i => cases hi
  refine ks_codeAny_call_defAt hr.depth (KX _ _ lk) rfl lim (PySem.W.codeRec_of KX hcd) rfl hb S.nocell (fun ⟨n, v⟩ hy => S.par n (List.of_mem_zip hy).1) (fun h₁ hns kp => ?_) S.co S.gen S.kind
  show _root_.PySem.wpAt (model P w) (A.deeper (envF F f s.heap.objs.size)) (.func F.body (envF F f s.heap.objs.size)) (execs F.body (envF F f s.heap.objs.size)) _ _ _
  obtain ⟨a, Ca, ta, t, hC, h0, ea, pa, ps', hq⟩ := hbody A outer s H vs Q E (hr.deeper _) hsp
  have I : Inv (ncx CX P w K mg base N F f A outer s H E) [] (startF N vs [none]) H { s with heap := h₁, toks := s.toks + (ps.zip us).length } := inv_startN S hr.hd e0 hl r C hns kp
  have fin : ∀ {s' : Shared} {σ' : L2.St} {H' : Hp} {v : V} {u : Value}, Inv (ncx CX P w K mg base N F f A outer s H E) [] σ' H' s' → L2.RelV v u → Q v H' → CE outer P w H s Q u s' :=
    fun {s' σ' H' v u} J rv q => ⟨v, H', J.os, J.bare, J.base, J.hok, rv, q⟩
  have main : ∀ (body : List Stmt), _root_.PySem.wpAt (model P w) (A.deeper (envF F f s.heap.objs.size)) (.func body (envF F f s.heap.objs.size)) (execs (.Expr (.Call (.Attribute (.Call (.Name "super" p0) [] [] p1) "__init__" p2) (e :: es) [] pos) pos' :: rest) (envF F f s.heap.objs.size))
      (fun fl s' => CR CX outer P w H s Q E (.ok (.ret (match fl with | .ret v => v | _ => .none))) s') (ncx CX P w K mg base N F f A outer s H E).xe { s with heap := h₁, toks := s.toks + (ps.zip us).length } := by
    intro body
    refine ks_wpAt_execs_cons ?_
    refine sup_stmt (X := ncx CX P w K mg base N F f A outer s H E) (body := body) (G := fun H2 => t { nx := fun _ H' => Q .non H', rt := Q } (startF N vs [none]) H2) I (hF _) hC hN h0 ea pa hq (fun H2 s' J hG => ?_) (hev _) (he _) (hpl _)
    refine wpAt_of_wpAny ?_
    refine wpAny_mono (ps'.run [] s' (startF N vs [none]) H2 _ J hG) (fun fl s' hs => ?_) fun e s' hs => hs
    cases fl with
    | ret u =>
      obtain ⟨v, σ', H', J, rv, q⟩ := hs
      exact fin J rv q
    | next =>
      obtain ⟨σ', H', J, q⟩ := hs
      exact fin (v := V.non) (u := Value.none) J rfl q
    | brk =>
      obtain ⟨_, _, _, q⟩ := hs
      exact False.elim q
    | cont =>
      obtain ⟨_, _, _, q⟩ := hs
      exact False.elim q
  have m2 := main F.body
  rw [← hbd] at m2
  exact m2
end
end Sup
/-! Sets of texts, made of a list or a tuple, and sorted: any texts, in whatever order the world walks them. -/
namespace Sx
open PySem PySem.Spec PyProof.Rows L2 PySem.Froz

/-! ### lists -/
/-- a list without twins whose members all stand in a list of the same length is that list in another order -/
theorem perm_of_sub : ∀ (l ks : List Str), l.Nodup → (∀ x, x ∈ l → x ∈ ks) → ks.length = l.length → l.Perm ks
  | [], ks, _, _, e => by
    have z : ks = [] := List.length_eq_zero_iff.mp e
    rw [z]
  | x :: l, ks, nd, sub, e => by
    obtain ⟨hx, nd'⟩ := List.nodup_cons.mp nd
    have hm : x ∈ ks := sub x List.mem_cons_self
    have p := List.perm_cons_erase hm
    have hl : (ks.erase x).length = l.length := by
      have q := p.length_eq
      simp only [List.length_cons] at q e
      omega
    refine ((perm_of_sub l (ks.erase x) nd' (fun y hy => ?_) hl).cons x).trans p.symm
    have hne : y ≠ x := fun z => hx (z ▸ hy)
    exact (List.mem_erase_of_ne hne).mpr (sub y (List.mem_cons_of_mem _ hy))

/-! ### the payload behind an add -/
theorem tail_ris {ep : Nat} {es : Array (Int × Value)} {t : SetTable} {d : Bool} (r : Ris t.place.toList) : Ris (tailTx ep es t d).2.2.place.toList := by
  unfold tailTx
  split
  · exact relayAll_ris t es _
  · exact r
theorem tail_led {ep : Nat} {es : Array (Int × Value)} {t : SetTable} {d : Bool} : (tailTx ep es t d).2.2.led = t.led := by
  unfold tailTx
  split
  · exact relayAll_led t es _
  · rfl
theorem add_ris {D : SD} (h : Int) (v : Value) (r : Ris D.2.2.place.toList) : Ris (addTx h v D).2.2.place.toList := by
  have r1 := layNew_ris D.2.2 D.1 h v r
  unfold addTx
  apply tail_ris
  split
  · exact r1
  · exact r1
theorem add_led {D : SD} (h : Int) (v : Value) : (addTx h v D).2.2.led = D.2.2.led := by
  have r1 := layNew_led D.2.2 D.1 h v
  unfold addTx
  rw [tail_led]
  split
  · exact r1
  · exact r1

/-- the set of the texts l stands at a -/
def SetX (P : Program) (w : World) (h : Heap) (a : Addr) (l : List Str) : Prop :=
  ∃ D : SD, h.get? a = some (sObj "set" D) ∧ TxOk P w D l ∧ l.Nodup ∧ Ris D.2.2.place.toList ∧ (w.params.followText "set-order" = true ∨ D.2.2.led = true)

section
variable {P : Program} {w : World} {A : Around} {E : Value → Shared → Prop} {s : Shared}

theorem SetX.at {h h' : Heap} {a : Addr} {l : List Str} (R : SetX P w h a l) (k : ∀ o, h.get? a = some o → h'.get? a = some o) : SetX P w h' a l := by
  obtain ⟨D, ho, r⟩ := R
  exact ⟨D, k _ ho, r⟩
theorem setX_fresh {h : Heap} {a : Addr} (ho : h.get? a = some { cls := .type "set", dict := none, data := .set #[] 0 (.fresh 0 0 (!w.params.followText "set-order")) }) : SetX P w h a [] := by
  refine ⟨(#[], 0, .fresh 0 0 (!w.params.followText "set-order")), ho, TxOk.nil rfl, List.nodup_nil, List.Pairwise.nil, ?_⟩
  show _ ∨ (!w.params.followText "set-order") = true
  cases w.params.followText "set-order"
  · exact .inr rfl
  · exact .inl rfl

/-- one text more, new or there already -/
theorem add_any {a : Addr} {l : List Str} {k : Str} {u : Tok} {Q : Bool → Shared → Prop} (R : SetX P w s.heap a l) (hb : l.length + 1 < scanBound)
    (hQ : ∀ b h' l', Heap.SameBut a s.heap h' → SetX P w h' a l' → (∀ x, x ∈ l' ↔ x = k ∨ x ∈ l) → l'.length ≤ l.length + 1 → Q b { s with heap := h' }) :
    wpAny (model P w) A (setAddHashed a (.str k u) (hashStr w k)) Q E s := by
  obtain ⟨D, ho, F, nd, r, hl⟩ := R
  rcases Classical.em (k ∈ l) with hk | hk
  · obtain ⟨es, ep, t⟩ := D
    have hd : (sObj "set" (es, ep, t)).data = .set es ep t := rfl
    have hf : t.fits es.size = true := F.fit
    have hel : ElemsOf (PySem.strKind P w) es.toList := F.el
    have hb0 : es.size < scanBound := by
      have z : es.size = l.length := F.sz
      omega
    have hkey : (PySem.strKind P w).is k (.str k u) = true := is_str k u
    unfold setAddHashed setAddHashedIn
    refine wpAny_holding (wpAny_bind (wpAny_setState_of ho hd hf ?_))
    dsimp only
    rw [byScan_of rfl hb0 hel]
    simp only [↓reduceIte]
    unfold setAddByScan
    refine wpAny_bind ?_
    refine wpAny_bind (wpAny_rule ?_)
    refine wpAny_bind (wpAny_setScan_of (knd := PySem.strKind P w) (k := k) hkey ho hd hf hel ?_)
    cases hfi : List.findIdx? (fun e => (PySem.strKind P w).is k e.2) es.toList with
    | none =>
      obtain ⟨e, he, q⟩ := (F.mem k).mp hk
      have c := List.findIdx?_eq_none_iff.mp hfi e he
      rw [q] at c
      cases c
    | some j =>
      dsimp only
      refine wpAny_pure (wpAny_pure ?_)
      exact hQ _ s.heap l (Heap.SameBut.refl a s.heap) ⟨(es, ep, t), ho, F, nd, r, hl⟩ (fun x => ⟨.inr, fun z => z.elim (fun e => e ▸ hk) id⟩) (Nat.le_succ _)
  · refine add_x ho F hk hb (hQ _ _ (k :: l) (Heap.SameBut.update s.heap a _) ⟨_, get_upd _ ho rfl, add_ok u F, List.nodup_cons.mpr ⟨hk, nd⟩, add_ris _ _ r, ?_⟩ (fun x => List.mem_cons) (Nat.le_refl _))
    exact hl.imp id fun z => by
      rw [add_led]
      exact z
end

/-! ### set(xs): the loop -/
section
variable {P : Program} {w : World} {A : Around} {R : Result → Shared → Prop} {I : Addr} {fp wr : List Addr} {G : Array GenState → Array GenState → Prop} {n : Nat} {Pv : Nat → Value → Prop} {St : Nat → Shared → Prop}
theorem fill_loop (W : WalksS P w A.in1 I fp wr G n Pv St) (S : Addr) (hSf : S ∉ fp) (xs : List Str) (hn : xs.length = n) (hval : ∀ i v, Pv i v → ∃ t, v = .str (xs.getD i Str.empty) t) (hb : n + 1 < scanBound) :
    ∀ (k i : Nat) (s : Shared) (l : List Str), n - i = k → i ≤ n → St i s → SetX P w s.heap S l → (∀ x, x ∈ l ↔ x ∈ xs.take i) → l.length ≤ i →
      (∀ s' l', Moved (S :: wr) G s s' → SetX P w s'.heap S l' → (∀ x, x ∈ l' ↔ x ∈ xs) → l'.length ≤ n → R (.ok (.ret .none)) s') →
      codeAny (model P w) A (.builtin "set.update.loop" ⟨[.ref S, .ref I], []⟩) R s := by
  have hSw : S ∉ wr := fun h => hSf (W.sub _ h)
  have hsub : ∀ b ∈ wr, b ∈ S :: wr := fun b hb => List.mem_cons_of_mem _ hb
  intro k
  induction k with
  | zero =>
    intro i s l hk hi hst hS hm hlen hR
    have hin : i = n := by omega
    subst hin
    refine codeAny_builtin PyProof.Rows.F.entry_set_update_loop ?_
    rw [Around.under_plainId PyProof.Rows.F.plain_set_update_loop _]
    show wpAny _ A.in1 (pyNext (.ref I) >>= _) _ _ s
    refine wpAny_bind (W.done s _ _ hst fun s' hmv => ?_)
    show wpAny _ A.in1 (ret Value.none) _ _ s'
    refine wpAny_pure (hR s' l (hmv.mono hsub) (hS.at fun o e => hmv.heap S o hSw e) (fun x => ?_) hlen)
    rw [hm x, ← hn, List.take_length]
  | succ k ih =>
    intro i s l hk hi hst hS hm hlen hR
    have hlt : i < n := by omega
    refine codeAny_builtin PyProof.Rows.F.entry_set_update_loop ?_
    rw [Around.under_plainId PyProof.Rows.F.plain_set_update_loop _]
    show wpAny _ A.in1 (pyNext (.ref I) >>= _) _ _ s
    refine wpAny_bind (W.item i s _ _ hlt hst fun v s' hP hst' hmv => ?_)
    obtain ⟨t, rfl⟩ := hval i v hP
    have hS' : SetX P w s'.heap S l := hS.at fun o e => hmv.heap S o hSw e
    show wpAny _ A.in1 (holding [Value.str (xs.getD i Str.empty) t] (setAdd S (.str (xs.getD i Str.empty) t)) >>= _) _ _ s'
    refine wpAny_bind (wpAny_holding ?_)
    unfold setAdd
    refine wpAny_holding ?_
    refine wpAny_bind ((PySem.strKind P w).pyHash (k := xs.getD i Str.empty) (strKind_is _ _ _ _) ?_)
    have hroom : l.length + 1 < scanBound := by omega
    refine add_any (s := { s' with toks := s'.toks + 1 }) hS' hroom fun b h' l' hsb hS2 hm2 hl2 => ?_
    have hix : i < xs.length := by omega
    have eg : xs.getD i Str.empty = xs[i] := by
      rw [List.getD_eq_getElem?_getD, List.getElem?_eq_getElem hix]
      rfl
    have hm3 : ∀ x, x ∈ l' ↔ x ∈ xs.take (i + 1) := fun x => by
      rw [hm2 x, List.take_succ, List.getElem?_eq_getElem hix, eg]
      show _ ↔ x ∈ xs.take i ++ [xs[i]]
      rw [List.mem_append, List.mem_singleton, hm x]
      exact Or.comm
    refine wpAny_pure ⟨plainId_quiet PyProof.Rows.F.plain_set_update_loop _, ih (i + 1) _ l' (by omega) hlt (W.frame _ s' _ _ hst' (Nat.le_succ _) fun b hb o e => ?_) hS2 hm3 (by omega) fun s'' l'' hmv'' hS'' hm'' hl'' => ?_⟩
    · rw [hsb.2 b (fun h : b = S => hSf (by rw [← h]; exact hb))]
      exact e
    · refine hR s'' l'' (Moved.trans W.gtrans ((hmv.mono hsub).then_heap (Nat.le_succ _) fun b o hb e => ?_) hmv'') hS'' hm'' hl''
      rw [hsb.2 b (fun h : b = S => hb (by rw [h]; exact List.mem_cons_self))]
      exact e
end

/-! ### set(xs): the call -/
section
variable {P : Program} {w : World} {A : Around} {E : Value → Shared → Prop} {s : Shared}
abbrev emptyObj (w : World) : Obj := { cls := .type "set", dict := none, data := .set #[] 0 (.fresh 0 0 (!w.params.followText "set-order")) }
theorem str_at {us : List Value} {xs : List Str} (h : StrsAre us xs) : ∀ (i : Nat) (v : Value), us[i]? = some v → ∃ t, v = .str (xs.getD i Str.empty) t := by
  induction h with
  | nil =>
    intro i v e
    cases e
  | cons y t h ih =>
    intro i v e
    cases i with
    | zero =>
      have q : Value.str y t = v := Option.some.inj e
      exact ⟨t, q.symm⟩
    | succ i => exact ih i v e

set_option maxRecDepth 100000 in
set_option maxHeartbeats 4000000 in
/-- set(xs), xs a list or a tuple of texts -/
theorem call_set {l : Addr} {items : Array Value} {xs : List Str} {Q : Value → Shared → Prop} (hh : A.handled = none) (hl : s.heap.IsList l items ∨ s.heap.IsTuple l items) (hi : StrsAre items.toList xs) (hb : xs.length + 1 < scanBound)
    (h : ∀ (h' : Heap) (tk : Nat) (ys : List Str), SetX P w h' s.heap.objs.size ys → (∀ x, x ∈ ys ↔ x ∈ xs) → ys.length ≤ xs.length → (∀ b o, s.heap.get? b = some o → h'.get? b = some o) → Q (.ref s.heap.objs.size) { s with heap := h', toks := tk }) :
    wpAny (model P w) A (call (.type "set") [.ref l]) Q E s := by
  have hisz : xs.length = items.size := by rw [← StrsAre.len_eq hi, Array.length_toList]
  have hval : ∀ (i : Nat) (v : Value), items[i]? = some v → ∃ t, v = .str (xs.getD i Str.empty) t := fun i v hv => str_at hi i v (by rw [Array.getElem?_toList]; exact hv)
  obtain ⟨c, tl, hmro⟩ := PySem.F.called_set.mro
  have hmade := PySem.F.called_set.made
  have hsub := PySem.F.called_set.sub
  refine wpAny_call (codeAny_of_tree ?_)
  show wpAny _ _ (callAny (.type "set") _) _ _ _
  refine wpAny_pure ⟨Code.quiet_builtin _ (by decide +kernel), codeAny_builtin PySem.F.entry_type_call ?_⟩
  rw [Around.under_plain (weight_type_call_type "set" [.ref l] []) rfl]
  have h1 := PySem.F.called_set.notType
  have h2 := PySem.F.called_set.canCreate
  have hct := PySem.F.typeCall_set_1 (.ref l)
  repeat (any_goals (first | assumption | wp_step))
  refine codeAny_mono (code_set_led1 (.ref l) (E := E) (Q₁ := fun obj s₁ => obj = .ref s.heap.objs.size ∧ s₁ = { s with heap := s.heap.push (emptyObj w) }) ⟨rfl, rfl⟩) fun r s₁ hr => ?_
  cases r with
  | error e => exact hr
  | ok fl =>
    cases fl with
    | ret obj =>
      obtain ⟨rfl, rfl⟩ := hr
      have hS : (s.heap.push (emptyObj w)).get? s.heap.objs.size = some (emptyObj w) := Heap.get?_push_size _ rfl
      have hT : Shared.TypeIs { s with heap := s.heap.push (emptyObj w) } (.ref s.heap.objs.size) "set" := ⟨_, hS, rfl⟩
      have hli := PySem.F.called_set.init.lookup
      have hbi := PySem.F.called_set.init.bind (.ref s.heap.objs.size)
      repeat (any_goals (first | assumption | wp_step))
      refine codeAny_mono (codeAny_call_builtin (R := wants (fun r s₂ => r = .none ∧ ∃ h' tk ys, s₂ = { s with heap := h', toks := tk } ∧ SetX P w h' s.heap.objs.size ys ∧ (∀ x, x ∈ ys ↔ x ∈ xs) ∧ ys.length ≤ xs.length ∧
          (∀ b o, s.heap.get? b = some o → h'.get? b = some o)) E) PySem.F.called_set.init.plain PySem.F.entry_set_init (check_set_init_1 hT ?_)) fun r₂ s₂ hr₂ => ?_
      · have hh3 : A.in1.in1.in1.handled = none := by simp [hh]
        have hz1 : (s.heap.push (emptyObj w)).objs.size = s.heap.objs.size + 1 := Heap.size_push ..
        rcases hl with hl | hl
        · obtain ⟨ol, hol, hcl, nl, hdl⟩ := hl
          obtain ⟨ocls, odict, odata, oslots⟩ := ol
          simp only at hcl hdl
          subst hcl; subst hdl
          have hol' : (s.heap.push (emptyObj w)).get? l = some { cls := .type "list", dict := odict, data := .seq items nl, slots := oslots } := Heap.get?_push_of_some _ hol
          have hsls := PySem.F.sub_list_set
          have hslf := PySem.F.sub_list_frozenset
          have hne : (Value.type "list" == Value.type "dict") = false := by decide
          have hl1 : (s.heap.push (emptyObj w)).IsList l items := ⟨_, hol', rfl, nl, rfl⟩
          unfold Builtin.«set.__init__» noKeywords Builtin.Frozenset.updateFrom
          generalize hPI : pyIter = PI
          wp_walk
          subst hPI
          refine wpAny_pyIter_list hl1 ?_
          refine wpAny_bind (wpAny_runValue ?_)
          have hlS : l < s.heap.objs.size := Heap.lt_size hol
          have hneI : l ≠ (s.heap.push (emptyObj w)).objs.size := by
            rw [hz1]
            exact Nat.ne_of_lt (Nat.lt_succ_of_lt hlS)
          have hSf : s.heap.objs.size ∉ [(s.heap.push (emptyObj w)).objs.size, l] := by
            simp only [List.mem_cons, List.mem_singleton, List.not_mem_nil, or_false, not_or]
            rw [hz1]
            exact ⟨Nat.ne_of_lt (Nat.lt_succ_self _), Nat.ne_of_gt hlS⟩
          have hget : ((s.heap.push (emptyObj w)).push { cls := .type "list_iterator", data := .fields #[.ref l, .int 0 0] }).get? s.heap.objs.size = some (emptyObj w) := Heap.get?_push_of_some _ hS
          refine fill_loop ((Walks.list hh3 _ l hneI items).toS) s.heap.objs.size hSf xs hisz hval (by omega) (items.size - 0) 0 _ [] (by omega) (Nat.zero_le _)
            ⟨⟨_, Heap.get?_push_size _ rfl, rfl, rfl⟩, (hl1.push _)⟩ (setX_fresh hget) (fun x => Iff.rfl) (Nat.le_refl _) ?hR
          case hR =>
            intro s' ys hm hS' hmm hlen
            obtain ⟨h', g', d', tk', os'⟩ := s'
            have eg : g' = s.gens := hm.gens
            have ed : d' = s.drawn := hm.drawn
            have eo : os' = s.os := hm.os
            subst eg; subst ed; subst eo
            show wpAny _ _ _ _ _ _
            refine wpAny_pure ?_
            show wpAny _ _ (ret Value.none) _ _ _
            refine wpAny_pure ⟨rfl, h', tk', ys, rfl, hS', hmm, by omega, fun b o e => ?_⟩
            have hb0 : b < s.heap.objs.size := Heap.lt_size e
            refine hm.heap b o ?_ (Heap.get?_push_of_some _ (Heap.get?_push_of_some _ e))
            simp only [List.mem_cons, List.mem_singleton, List.not_mem_nil, or_false, not_or]
            rw [hz1]
            exact ⟨Nat.ne_of_lt hb0, Nat.ne_of_lt (Nat.lt_succ_of_lt hb0)⟩
        · obtain ⟨ol, hol, hcl, nl, hdl⟩ := hl
          obtain ⟨ocls, odict, odata, oslots⟩ := ol
          simp only at hcl hdl
          subst hcl; subst hdl
          have hol' : (s.heap.push (emptyObj w)).get? l = some { cls := .type "tuple", dict := odict, data := .seq items nl, slots := oslots } := Heap.get?_push_of_some _ hol
          have hsls := PySem.F.sub_tuple_set
          have hslf := PySem.F.sub_tuple_frozenset
          have hne : (Value.type "tuple" == Value.type "dict") = false := by decide
          have hl1 : (s.heap.push (emptyObj w)).IsTuple l items := ⟨_, hol', rfl, nl, rfl⟩
          unfold Builtin.«set.__init__» noKeywords Builtin.Frozenset.updateFrom
          generalize hPI : pyIter = PI
          wp_walk
          subst hPI
          refine wpAny_pyIter_tuple hl1 ?_
          refine wpAny_bind (wpAny_runValue ?_)
          have hlS : l < s.heap.objs.size := Heap.lt_size hol
          have hneI : l ≠ (s.heap.push (emptyObj w)).objs.size := by
            rw [hz1]
            exact Nat.ne_of_lt (Nat.lt_succ_of_lt hlS)
          have hSf : s.heap.objs.size ∉ [(s.heap.push (emptyObj w)).objs.size, l] := by
            simp only [List.mem_cons, List.mem_singleton, List.not_mem_nil, or_false, not_or]
            rw [hz1]
            exact ⟨Nat.ne_of_lt (Nat.lt_succ_self _), Nat.ne_of_gt hlS⟩
          have hget : ((s.heap.push (emptyObj w)).push { cls := .type "tuple_iterator", data := .fields #[.ref l, .int 0 0] }).get? s.heap.objs.size = some (emptyObj w) := Heap.get?_push_of_some _ hS
          refine fill_loop ((Walks.tuple hh3 _ l hneI items).toS) s.heap.objs.size hSf xs hisz hval (by omega) (items.size - 0) 0 _ [] (by omega) (Nat.zero_le _)
            ⟨⟨_, Heap.get?_push_size _ rfl, rfl, rfl⟩, (hl1.push _)⟩ (setX_fresh hget) (fun x => Iff.rfl) (Nat.le_refl _) ?hR
          case hR =>
            intro s' ys hm hS' hmm hlen
            obtain ⟨h', g', d', tk', os'⟩ := s'
            have eg : g' = s.gens := hm.gens
            have ed : d' = s.drawn := hm.drawn
            have eo : os' = s.os := hm.os
            subst eg; subst ed; subst eo
            show wpAny _ _ _ _ _ _
            refine wpAny_pure ?_
            show wpAny _ _ (ret Value.none) _ _ _
            refine wpAny_pure ⟨rfl, h', tk', ys, rfl, hS', hmm, by omega, fun b o e => ?_⟩
            have hb0 : b < s.heap.objs.size := Heap.lt_size e
            refine hm.heap b o ?_ (Heap.get?_push_of_some _ (Heap.get?_push_of_some _ e))
            simp only [List.mem_cons, List.mem_singleton, List.not_mem_nil, or_false, not_or]
            rw [hz1]
            exact ⟨Nat.ne_of_lt hb0, Nat.ne_of_lt (Nat.lt_succ_of_lt hb0)⟩
      · cases r₂ with
        | error e => exact hr₂
        | ok fl₂ =>
          cases fl₂ with
          | ret r =>
            obtain ⟨rfl, h', tk, ys, rfl, hS', hmm, hlen, hk'⟩ := hr₂
            repeat (any_goals (first | assumption | wp_step))
            exact h _ _ _ hS' hmm hlen hk'
          | _ => exact hr₂.elim
    | _ => exact hr.elim

/-! ### sorted(set) -/
theorem strs_of : ∀ (l : List Value), (∀ v ∈ l, ∃ k tk, v = Value.str k tk) → StrsAre l (l.map strOf)
  | [], _ => .nil
  | v :: l, h => by
    obtain ⟨k, tk, rfl⟩ := h v List.mem_cons_self
    exact .cons k tk (strs_of l fun u hu => h u (List.mem_cons_of_mem _ hu))
theorem sorted_setX {a : Addr} {l : List Str} {Q : Value → Shared → Prop} (R : SetX P w s.heap a l) (hh : A.handled = none) (hlen : l.length + 1 < scanBound)
    (hQ : ∀ s' p (out : Array Value) (c : Nat) (ys : List Str), (∀ b o, s.heap.get? b = some o → s'.heap.get? b = some o) → s'.gens = s.gens → s'.os = s.os → s.heap.objs.size ≤ p →
      s'.heap.get? p = some (seqObj "list" out c) → StrsAre out.toList ys → sortedS ys = true → ys.Perm l → Q (.ref p) s') :
    wpAny (model P w) A (call (.builtin "sorted") [.ref a]) Q E s := by
  obtain ⟨⟨es, ep, t⟩, ho, F, nd, r, hl⟩ := R
  have hf : t.fits es.size = true := F.fit
  have hsz : es.size = l.length := F.sz
  refine Calls.call_function_entry kind_sorted plain_sorted entry_sorted (args_sorted1 _) ?_
  unfold Builtin.«sorted»
  refine wpAny_bind (m := checkCount "sorted" 1 1 _) (wpAny_pure ?_)
  refine wpAny_bind (collect_set (A := A.in1) hh ⟨_, ho, rfl, rfl⟩ hf (by show es.size < scanBound; rw [hsz]; omega) r hl fun s1 vs k1 hz g1 o1 pm => ?_)
  have hvl : vs.length = l.length := by rw [pm.length_eq, List.length_map, Array.length_toList]; exact hsz
  have hst : ∀ v ∈ vs, ∃ k tk, v = Value.str k tk ∧ k ∈ l := fun v hv => by
    obtain ⟨e, he, q⟩ := List.mem_map.mp (pm.mem_iff.mp hv)
    obtain ⟨⟨k, h1, _⟩, _⟩ := F.el e he
    obtain ⟨tk, h2⟩ := Value.isStrOf_shape h1
    exact ⟨k, tk, by rw [← q]; exact h2, (F.mem k).mpr ⟨e, he, h1⟩⟩
  have hI : StrsAre vs (vs.map strOf) := strs_of vs fun v hv => let ⟨k, tk, e, _⟩ := hst v hv; ⟨k, tk, e⟩
  have pk : (vs.map strOf).Perm l := by
    refine (perm_of_sub l (vs.map strOf) nd (fun x hx => ?_) (by rw [List.length_map, hvl])).symm
    obtain ⟨e, he, h1⟩ := (F.mem x).mp hx
    obtain ⟨tk, h2⟩ := Value.isStrOf_shape h1
    exact List.mem_map.mpr ⟨e.2, pm.mem_iff.mpr (List.mem_map.mpr ⟨e, he, rfl⟩), by rw [h2]; rfl⟩
  have hline : vs.length ≤ sizeLine := by
    rw [hvl, sizeLine_eq]
    have z : scanBound = 4096 := rfl
    omega
  refine wpAny_bind (wpAny_newList ?_ hline)
  have hoL : (s1.heap.push (seqObj "list" vs.toArray 0)).get? s1.heap.objs.size = some (seqObj "list" vs.toArray 0) := Heap.get?_push_size _ rfl
  refine wpAny_bind (wpAny_holding (wpAny_call_entry slot_list_sort ⟨_, hoL, rfl⟩ entry_list_sort (list_sort_treeKAny strKind_oneLt hoL hI.keysOf (fun v₁ v₂ rest e => keyKind_strs (by rw [← e]; exact hI)) hline fun st' hp hs => ⟨_, rfl, ?_⟩) (args_list_sort _)))
  obtain ⟨ys, a1, a2, a3⟩ := sorted_out_str hI hp hs
  obtain ⟨c, hc⟩ := sortedHeap_at (vs := vs) (out := (arrOf st').map (·.2)) hoL
  refine wpAny_pure ⟨_, rfl, hQ _ s1.heap.objs.size _ c ys (fun b u e => ?_) g1 o1 hz hc a1 a3 (a2.trans pk)⟩
  have q := k1 b u e
  have hlt := Heap.lt_size q
  show (sortedHeap (s1.heap.push (seqObj "list" vs.toArray 0)) s1.heap.objs.size vs _).get? b = some u
  rw [sortedHeap_old (Nat.ne_of_lt hlt) (by rw [size_push']; exact Nat.lt_succ_of_lt hlt)]
  exact Heap.get?_push_of_some _ q
end

/-! ### over the layer -/
def SetV (P : Program) (w : World) (a : Addr) (l : List Str) : HO := .ext fun h => SetX P w h a l
section
variable {X : Cx}
theorem setV_new {P : Program} {w : World} {H : Hp} {h : Heap} {a : Addr} {l : List Str} (R : SetX P w h a l) : ObjOk P w H h a (SetV P w a l) := by
  have ⟨o, ho, _⟩ := R
  exact ⟨R, ⟨_, ho⟩, fun h1 h2 p k => SetX.at p k⟩
/-- set(xs), xs a list or a tuple of texts -/
def rSetX (K : PySem.W.Frag) (P : Program) (w : World) : List V → Hp → VK → Prop := fun vs H Q => ∃ (a : Addr) (xs : List Str), vs = [V.ref a] ∧ (SqL K H a (xs.map V.str) ∨ SqT K H a (xs.map V.str)) ∧ xs.length < 4000 ∧
  ∀ p ys, H p = none → (∀ x, x ∈ ys ↔ x ∈ xs) → ys.Nodup → ys.length ≤ xs.length → Q (.ref p) (upd H p (SetV P w p ys))
theorem cr_setX (hc : X.calm = true) : CallR X (.type "set") (rSetX X.K X.prog X.w) := by
  intro pins s σ H vs us Q I r h
  obtain ⟨a, xs, rfl, hs, hlen, q⟩ := h
  rw [Vals.ref1 r]
  have hn : H s.heap.objs.size = none := I.hok.fresh (Nat.le_refl _)
  have hz : xs.length + 1 < scanBound := by
    have z : scanBound = 4096 := rfl
    omega
  obtain ⟨its, rv, pl⟩ : ∃ its : List Value, Vals (xs.map V.str) its ∧ (s.heap.IsList a its.toArray ∨ s.heap.IsTuple a its.toArray) := by
    rcases hs with hs | hs
    · obtain ⟨its, rv, pl, _⟩ := I.list hs
      exact ⟨its, rv, .inl pl.isList⟩
    · obtain ⟨its, rv, pl, _⟩ := I.tuple hs
      exact ⟨its, rv, .inr pl⟩
  refine call_set (P := X.prog) (w := X.w) (I.ok.hd hc) pl (by simpa using rv.strs) hz fun h' tk ys R hm hl k => ?_
  have nd : ys.Nodup := by
    obtain ⟨_, _, _, z, _⟩ := R
    exact z
  exact ⟨.ref s.heap.objs.size, upd H s.heap.objs.size (SetV X.prog X.w s.heap.objs.size ys), I.laid (t' := tk) k (Nat.le_refl _) (setV_new R), rfl, q _ ys hn hm nd hl⟩
/-- sorted(a set of texts) -/
def rSortX (P : Program) (w : World) : List V → Hp → VK → Prop := fun vs H Q => ∃ (a : Addr) (l : List Str), vs = [V.ref a] ∧ H a = some (SetV P w a l) ∧ l.length < 4000 ∧
  ∀ ys p, ys.Perm l → sortedS ys = true → H p = none → Q (.ref p) (upd H p (.lst (ys.map V.str)))
theorem cr_sortX (hc : X.calm = true) : CallR X (.builtin "sorted") (rSortX X.prog X.w) := by
  intro pins s σ H vs us Q I r h
  obtain ⟨a, l, rfl, ha, hlen, q⟩ := h
  have R : SetX X.prog X.w s.heap a l := (I.hok a _ ha).1
  rw [Vals.ref1 r]
  have hz : l.length + 1 < scanBound := by
    have z : scanBound = 4096 := rfl
    omega
  refine sorted_setX R (I.ok.hd hc) hz fun s' p out c ys k g o hp hg hi hs pm => ?_
  have hl2 : (ys.map V.str).length ≤ sizeLine := by
    rw [List.length_map, pm.length_eq, sizeLine_eq]
    omega
  have hn : H p = none := I.hok.fresh hp
  have J : Inv X pins σ (upd H p (.lst (ys.map V.str))) { s with heap := s'.heap, gens := s'.gens, drawn := s'.drawn, toks := s'.toks } :=
    I.call (ch := []) (Un.laid k hp hn) (I.hok.laid k hp ⟨hl2, out.toList, c, vals_of_strs hi, hg⟩) (by rw [g]; exact I.bare) (fun _ z => nomatch z)
  have e : s' = { s with heap := s'.heap, gens := s'.gens, drawn := s'.drawn, toks := s'.toks } := by
    cases s'
    cases s
    cases o
    rfl
  rw [e]
  exact ⟨.ref p, _, J, rfl, q ys p pm hs hn⟩
end
end Sx
/-! Calls of the module's own defs by their promises, walks over a list or a tuple, data that stays. -/
namespace Bx
open PySem PySem.Spec PyProof.Rows L2 TL

/-- the module's name x holds a def that keeps sp, by at most level k -/
structure Cal (P : Program) (w : World) (K : PySem.W.Frag) (mg : Str → Option Value) (base : Heap) (x : Str) (k : Nat) (ps : List Str) (sp : Sp) : Prop where
  ex : ∃ (f : Addr) (fd : FuncData), FnOk P w K mg base CX0 k f fd ps sp ∧ mg x = some (.ref f) ∧ PySem.W.keepIn K (.ref f) = true ∧ Binds K fd ps []
/-- the same of a def with a star parameter alone -/
structure CalR (P : Program) (w : World) (K : PySem.W.Frag) (mg : Str → Option Value) (base : Heap) (x : Str) (k : Nat) (sp : Sp) : Prop where
  ex : ∃ f : Addr, FnR P w K mg base CX0 k f sp ∧ mg x = some (.ref f) ∧ PySem.W.keepIn K (.ref f) = true
section
variable {X : Cx} {x : Str} {k : Nat} {ps : List Str} {sp : Sp} {e : Expr} {es : List Expr} {t : TA} {p pos : Pos}
def tCal (sp : Sp) (t : TA) : TE := fun σ H Q => t σ H fun vs H1 => sp vs H1 Q E0
theorem pe_cal (c : Cal X.prog X.w X.K X.mg X.base x k ps sp) (hr : Room k X.A) (ha : PA X (e :: es) t) (hg : Gl X x := by rfl) (hdb : (x == ("__debug__" : Str)) = false := by decide)
    (he : starEach (e :: es) X.env = (false, eval e X.env) :: starEach es X.env := by rfl) (hpl : (backTo pos (starEach es X.env)).any (·.1) = false := by rfl) : PE X (.Call (.Name x p) (e :: es) [] pos) (tCal sp t) := by
  obtain ⟨f, fd, ok, g, kp, b⟩ := c.ex
  have z := pe_call (E := E0) ok hr hg g kp b .nil pass0 ha hdb he hpl (p := p)
  refine ⟨fun pins s σ H Q I h => z.run pins s σ H Q I ?_⟩
  unfold tCall
  simp only [List.append_nil]
  exact h
theorem pe_cal0 (c : Cal X.prog X.w X.K X.mg X.base x k ps sp) (hr : Room k X.A) (hg : Gl X x := by rfl) (hdb : (x == ("__debug__" : Str)) = false := by decide) : PE X (.Call (.Name x p) [] [] pos) (tCal sp tNil) := by
  obtain ⟨f, fd, ok, g, kp, b⟩ := c.ex
  have z := pe_call0 (E := E0) (pos := pos) ok hr hg g kp b .nil pass0 hdb (p := p)
  refine ⟨fun pins s σ H Q I h => z.run pins s σ H Q I ?_⟩
  exact h
theorem pe_calR (c : CalR X.prog X.w X.K X.mg X.base x k sp) (hr : Room k X.A) (ha : PA X (e :: es) t) (hg : Gl X x := by rfl) (hdb : (x == ("__debug__" : Str)) = false := by decide)
    (he : starEach (e :: es) X.env = (false, eval e X.env) :: starEach es X.env := by rfl) (hpl : (backTo pos (starEach es X.env)).any (·.1) = false := by rfl) : PE X (.Call (.Name x p) (e :: es) [] pos) (tCal sp t) := by
  obtain ⟨f, ok, g, kp⟩ := c.ex
  refine ⟨fun pins s σ H Q I h => ?_⟩
  refine wpAny_Call_Name_kw (ld_glob I hg g ?_ hdb)
  refine PySem.W.callWith_K (h₀ := X.base) I.ok.mod.kin kp (thn (ha.run pos pins s σ H _ I h) fun us s1 ⟨vs, H1, I1, r, q⟩ => ⟨I1.kIn, ?_⟩) he hpl
  exact wpAny_call (run_fnR ok hr pass0 I1 r q)
theorem pe_calR0 (c : CalR X.prog X.w X.K X.mg X.base x k sp) (hr : Room k X.A) (hg : Gl X x := by rfl) (hdb : (x == ("__debug__" : Str)) = false := by decide) : PE X (.Call (.Name x p) [] [] pos) (tCal sp tNil) := by
  obtain ⟨f, ok, g, kp⟩ := c.ex
  refine ⟨fun pins s σ H Q I h => ?_⟩
  refine wpAny_Call_Name_kw (ld_glob I hg g ?_ hdb)
  exact PySem.W.callWith_K0 I.kIn kp (wpAny_call (run_fnR ok hr pass0 I .nil h))

/-- x(*y) -/
theorem pe_calS {te : TE} {sp_ : Pos} (c : CalR X.prog X.w X.K X.mg X.base x k sp) (hr : Room k X.A) (he : PE X e te) (hg : Gl X x := by rfl) (hdb : (x == ("__debug__" : Str)) = false := by decide) (hst : starEach [.Starred e sp_] X.env = [(true, eval e X.env)] := by rfl) :
    PE X (.Call (.Name x p) [.Starred e sp_] [] pos) (fun σ H Q => te σ H fun y H1 => ∃ a xs, y = V.ref a ∧ (SqT X.K H1 a xs ∨ SqL X.K H1 a xs) ∧ sp xs H1 Q E0) := by
  obtain ⟨f, ok, g, kp⟩ := c.ex
  exact StX.pe_callS1 ok hr kp hg g pass0 he hdb hst

/-- a walk over a list or a tuple -/
def SeqCase (K : PySem.W.Frag) (a : Addr) (H : Hp) (R : It → Hp → Prop) : Prop := ((∃ xs, SqL K H a xs) ∧ R (Itl K a) H) ∨ ((∃ xs, SqT K H a xs) ∧ R (Itt K a) H)
def iSeq (K : PySem.W.Frag) (tl : TE) : TI := fun σ H R => tl σ H fun x H1 => ∃ a, x = .ref a ∧ SeqCase K a H1 R
theorem pi_seq {tg l : Expr} {tl : TE} (hl : PE X l tl) : PI X tg l (iSeq X.K tl) := by
  refine ⟨fun pins s σ H R I h => ?_⟩
  refine thn (hl.run pins s σ H _ I h) fun v s1 ⟨x, H1, I1, r1, q1⟩ => ?_
  obtain ⟨a, e, q1⟩ := q1
  subst e
  cases r1
  rcases q1 with ⟨⟨xs, hq⟩, q⟩ | ⟨⟨xs, hq⟩, q⟩
  · obtain ⟨its, rv, p, hz⟩ := I1.list hq
    refine wpAny_pyIter_list p.isList ?_
    exact pi_one (tk := s1.toks) I1 _ (turn_list a _) ⟨_, Heap.get?_push_size _ rfl, rfl, rfl⟩ q
  · obtain ⟨its, rv, p, hz⟩ := I1.tuple hq
    refine wpAny_pyIter_tuple (show s1.heap.IsTuple a its.toArray from p) ?_
    exact pi_one (tk := s1.toks) I1 _ (turn_tuple a _) ⟨_, Heap.get?_push_size _ rfl, rfl, rfl⟩ q
end

/-! ### rules with the written part named (within a block) -/
section
variable {X : Cx} {K : PySem.W.Frag}
theorem ix_listK (h : X.K = K) : IxR X (rIxL K) := h ▸ ix_list
theorem ix_tupK (h : X.K = K) : IxR X (rIxT K) := h ▸ ix_tup
theorem op_in_seqK (h : X.K = K) : OpR X (compareOp .In) (rIn K false) := h ▸ op_in_seq
theorem call_list_ofK (h : X.K = K) : CallR X (.type "list") (fun xs H Q => ∃ p ys, xs = [.ref p] ∧ (SqL K H p ys ∨ SqT K H p ys) ∧ ∀ l, H l = none → Q (.ref l) (upd H l (.lst ys))) := by
  subst h
  exact call_list_of
theorem call_tuple_ofK (h : X.K = K) : CallR X (.type "tuple") (fun xs H Q => ∃ p ys, xs = [.ref p] ∧ ((SqL K H p ys ∧ ∀ l, H l = none → Q (.ref l) (upd H l (.tup ys))) ∨ (SqT K H p ys ∧ Q (.ref p) H))) := by
  subst h
  exact call_tuple_of
theorem call_len_seqK (h : X.K = K) : CallR X (.builtin "len") (fun xs H Q => ∃ p ys, xs = [.ref p] ∧ (SqL K H p ys ∨ SqT K H p ys) ∧ Q (.int ys.length) H) := by
  subst h
  exact call_len_seq
theorem cr_allK (h : X.K = K) (hc : X.calm = true) : CallR X (.builtin "all") (rAll K) := by
  subst h
  exact cr_all hc
theorem pg_tupK {es : List Expr} {k : Nat} {t : TGs} {n : Nat} {pos : Pos} (h : X.K = K) (hc : X.calm = true) (hs : PGs X es t)
    (hn : (assignEach es X.env).length = n := by rfl) (hst : (assignEach es X.env).findIdx? (·.1) = none := by rfl) : PG X (.Tuple es k pos) (gTup K n t) := by
  subst h
  exact pg_tup hc hs hn hst
theorem op_notIn_seqK (h : X.K = K) : OpR X (compareOp .NotIn) (rIn K true) := h ▸ op_notIn_seq
end

/-! ### heaps -/
theorem same_new {H : Hp} {p : Addr} {o : HO} (h : H p = none) : Same H (upd H p o) := fun b x e => by
  rw [upd_ne (ne_of_none e h)]
  exact e
theorem same_at {H H2 : Hp} {p : Addr} {o : HO} (h : H p = none) (s : Same H H2) : Same H (upd H2 p o) := fun b x e => by
  rw [upd_ne (ne_of_none e h)]
  exact s b x e
theorem Same.tup {K : PySem.W.Frag} {H H' : Hp} {a : Addr} {xs : List V} (e : Same H H') (h : SqT K H a xs) : SqT K H' a xs := by
  rcases h with (h | ⟨o, h⟩) | h
  · exact .inl (.inl (e _ _ h))
  · exact .inl (.inr ⟨o, e _ _ h⟩)
  · exact .inr h
theorem sq {K : PySem.W.Frag} {H : Hp} {a : Addr} {xs : List V} (h : H a = some (.lst xs)) : SqL K H a xs := Or.inl (Or.inl h)
theorem sqt {K : PySem.W.Frag} {H : Hp} {a : Addr} {xs : List V} (h : H a = some (.tup xs)) : SqT K H a xs := Or.inl (Or.inl h)
/-- all that was tracked but a is as it was -/
def SameBut (a : Addr) (H H' : Hp) : Prop := ∀ b o, b ≠ a → H b = some o → H' b = some o
theorem SameBut.refl (a : Addr) (H : Hp) : SameBut a H H := fun _ _ _ h => h
theorem SameBut.trans {a : Addr} {H H1 H2 : Hp} (x : SameBut a H H1) (y : SameBut a H1 H2) : SameBut a H H2 := fun b o n h => y b o n (x b o n h)
theorem Same.but {a : Addr} {H H' : Hp} (x : Same H H') : SameBut a H H' := fun b o _ h => x b o h
theorem SameBut.upd {a : Addr} {H : Hp} {o : HO} : SameBut a H (upd H a o) := fun b x n h => by
  rw [upd_ne n]
  exact h
/-- new objects do not disturb: what was tracked at H, where a was not -/
theorem SameBut.same {a : Addr} {H H1 H2 : Hp} (x : Same H H1) (n : H a = none) (y : SameBut a H1 H2) : Same H H2 := fun b o h => y b o (ne_of_none h n) (x b o h)
theorem sz {n : Nat} (h : n ≤ 100000) : n ≤ sizeLine := Nat.le_trans h (by decide)
theorem szl {n : Nat} (h : n < 100000) : n < sizeLine := Nat.lt_of_lt_of_le h (by decide)
/-- the source of draws at a -/
def Src (H : Hp) (a : Addr) : Prop := ∃ n c : Int, H a = some (.lst [.int n, .int c])

/-! ### data -/
mutual
theorem dp_same {K : PySem.W.Frag} {H H' : Hp} (e : Same H H') : ∀ {v : V} {d : PyData}, Dp K H v d → Dp K H' v d
  | _, _, .non => .non
  | _, _, .bl b => .bl b
  | _, _, .int i => .int i
  | _, _, .str x => .str x
  | _, _, .lst h a => .lst (e.seq h) (dpAll_same e a)
  | _, _, .tup h a => .tup (Bx.Same.tup e h) (dpAll_same e a)
theorem dpAll_same {K : PySem.W.Frag} {H H' : Hp} (e : Same H H') : ∀ {vs : List V} {ds : List PyData}, DpAll K H vs ds → DpAll K H' vs ds
  | _, _, .nil => .nil
  | _, _, .cons h a => .cons (dp_same e h) (dpAll_same e a)
end
theorem dp_strs {K : PySem.W.Frag} {H : Hp} : ∀ ys : List Str, DpAll K H (ys.map V.str) (ys.map PyData.str)
  | [] => .nil
  | y :: ys => .cons (.str y) (dp_strs ys)
theorem dp_ints {K : PySem.W.Frag} {H : Hp} : ∀ ys : List Int, DpAll K H (ys.map V.int) (ys.map PyData.int)
  | [] => .nil
  | y :: ys => .cons (.int y) (dp_ints ys)
theorem dp_map {K : PySem.W.Frag} {H : Hp} {α : Type} {f : α → V} {g : α → PyData} : ∀ {l : List α}, (∀ x ∈ l, Dp K H (f x) (g x)) → DpAll K H (l.map f) (l.map g)
  | [], _ => .nil
  | x :: l, h => .cons (h x List.mem_cons_self) (dp_map fun y hy => h y (List.mem_cons_of_mem _ hy))

/-! ### walks with any body -/
theorem walk_any {J : It} {n : Nat} {G : Hp → Prop} {Y : Nat → Hp → V → Hp → Prop} (w : Walk J n G Y) {Z : Hp → Prop} {B : (Hp → Prop) → V → Hp → Prop} {H0 : Hp} (Pv : Nat → Hp → Prop) (h0 : Pv 0 H0) (hG : ∀ i H, i ≤ n → Pv i H → G H)
    (hs : ∀ i x H H', i < n → Pv i H → Y i H x H' → B (Pv (i + 1)) x H') (hd : ∀ H, Pv n H → Z H) :
    ∃ W : Nat → Nat → Hp → Prop, (∃ m, W 0 m H0) ∧ ∀ i m H, W i m H → (J.stop i H ∧ Z H) ∨ (J.go i H ∧ ∃ Nx : Hp → Prop, (∀ H', Nx H' → ∃ m', m' < m ∧ W (i + 1) m' H') ∧ ∀ x H', J.yld i H x H' → B Nx x H') := by
  refine ⟨fun i m H => m = n - i ∧ i ≤ n ∧ Pv i H, ⟨n, by simp, Nat.zero_le _, h0⟩, ?_⟩
  rintro i m H ⟨rfl, hi, p⟩
  have q := hG i H hi p
  by_cases hlt : i < n
  · exact .inr ⟨w.goes i H hlt q, Pv (i + 1), fun H' p' => ⟨n - (i + 1), by omega, rfl, hlt, p'⟩, fun x H' y => hs i x H H' hlt p (w.yields i H x H' hlt q y)⟩
  · have e : i = n := by omega
    subst e
    exact .inl ⟨w.stops H q, hd H p⟩

/-! ### a def with a star parameter alone -/
theorem okStar {P : Program} {w : World} {K : PySem.W.Frag} {mg : Str → Option Value} {base : Heap} {x qual pn : Str} {st : Stmt} {f : Addr} {fd : FuncData} {N : List Str} {k : Nat} {sp : Sp} (F : Fun K x qual st f fd) (S : FnScope N [pn] (defScope st))
    (hb : ∀ (kV doc pm : Value) (an : Option Addr) (cdv ct : Value) (rest : List Value), bindArgs (PySem.W.fnOf x qual (defArgs st) (defBody st) (defScope st) .none kV doc pm an cdv ct) ⟨rest, []⟩ = (newTuple rest >>= fun t => pure [(pn, t)]))
    (hbody : ∀ (cdv : Value) (A : Around) (outer : List Env) (s : Shared) (H : Hp) (vs : List V) (Q : VK) (E : XK), Room k (A.deeper (envOfC qual (defScope st) s.heap.objs.size f cdv)) → sp vs H Q E →
      ∃ t, PSs (cxOf CX0 P w K mg base N qual (defScope st) f cdv A outer s H E) (defBody st) t ∧ t { nx := fun _ H' => Q .non H', rt := Q } (start N vs) H) :
    FnR P w K mg base CX0 (k + 1) f (fun vs H Q E => vs.length ≤ sizeLine ∧ ∀ p, H p = none → sp [V.ref p] (upd H p (.tup vs)) Q E) := by
  obtain ⟨oc, od, kV, doc, pm, an, cdv, ct, osl, rfl, lk, hcd⟩ := F.ex
  have z := StX.fn_star (P := P) (w := w) (K := K) (mg := mg) (base := base) (CX := CX0) (ps := []) (sp := sp) lk hcd S StX.cxUp_none (fun us rest hl => by
    have e : us = [] := List.length_eq_zero_iff.mp hl
    subst e
    exact hb kV doc pm an cdv ct rest) (hbody cdv)
  exact z.imp fun vs H Q E h => ⟨[], vs, rfl, rfl, h.1, h.2⟩

/-- one parameter ahead of the star -/
theorem okStar1 {P : Program} {w : World} {K : PySem.W.Frag} {mg : Str → Option Value} {base : Heap} {x qual p1 pn : Str} {st : Stmt} {f : Addr} {fd : FuncData} {N : List Str} {k : Nat} {sp : Sp} (F : Fun K x qual st f fd) (S : FnScope N [p1, pn] (defScope st))
    (h0 : ∀ (kV doc pm : Value) (an : Option Addr) (cdv ct a : Value), bindArgs (PySem.W.fnOf x qual (defArgs st) (defBody st) (defScope st) .none kV doc pm an cdv ct) ⟨[a], []⟩ = (newTuple [] >>= fun t => pure [(p1, a), (pn, t)]))
    (h1 : ∀ (kV doc pm : Value) (an : Option Addr) (cdv ct a r : Value) (rs : List Value), bindArgs (PySem.W.fnOf x qual (defArgs st) (defBody st) (defScope st) .none kV doc pm an cdv ct) ⟨a :: r :: rs, []⟩ = (newTuple (r :: rs) >>= fun t => pure [(p1, a), (pn, t)]))
    (hbody : ∀ (cdv : Value) (A : Around) (outer : List Env) (s : Shared) (H : Hp) (vs : List V) (Q : VK) (E : XK), Room k (A.deeper (envOfC qual (defScope st) s.heap.objs.size f cdv)) → sp vs H Q E →
      ∃ t, PSs (cxOf CX0 P w K mg base N qual (defScope st) f cdv A outer s H E) (defBody st) t ∧ t { nx := fun _ H' => Q .non H', rt := Q } (start N vs) H) :
    FnR P w K mg base CX0 (k + 1) f (fun vs H Q E => ∃ v rest, vs = v :: rest ∧ rest.length ≤ sizeLine ∧ ∀ p, H p = none → sp [v, V.ref p] (upd H p (.tup rest)) Q E) := by
  obtain ⟨oc, od, kV, doc, pm, an, cdv, ct, osl, rfl, lk, hcd⟩ := F.ex
  have z := StX.fn_star (P := P) (w := w) (K := K) (mg := mg) (base := base) (CX := CX0) (ps := [p1]) (sp := sp) lk hcd S StX.cxUp_none
    (StX.bind_star1 (B := fun us => bindArgs (PySem.W.fnOf x qual (defArgs st) (defBody st) (defScope st) .none kV doc pm an cdv ct) ⟨us, []⟩) (h0 kV doc pm an cdv ct) (h1 kV doc pm an cdv ct)) (hbody cdv)
  exact z.imp fun vs H Q E ⟨v, rest, e, hl, h⟩ => ⟨[v], rest, e, rfl, hl, h⟩

/-! ### a walk over a list or a tuple, told once -/
theorem seq_case {K : PySem.W.Frag} {H : Hp} {a : Addr} {xs : List V} {R : It → Hp → Prop} (h : SqL K H a xs ∨ SqT K H a xs) (k : ∀ (J : It) (G : Hp → Prop), Walk J xs.length G (YAt xs) → (∀ H', Same H H' → G H') → R J H) : SeqCase K a H R := by
  rcases h with h | h
  · exact .inl ⟨⟨_, h⟩, k _ _ walk_list fun H' s => s.seq h⟩
  · exact .inr ⟨⟨_, h⟩, k _ _ walk_tup fun H' s => Bx.Same.tup s h⟩
theorem at_map {α : Type} {l : List α} {f : α → V} {i : Nat} {x : V} (h : (l.map f)[i]? = some x) : ∃ y, l[i]? = some y ∧ x = f y := by
  rw [List.getElem?_map] at h
  cases e : l[i]? with
  | none =>
    rw [e] at h
    cases h
  | some y =>
    rw [e] at h
    exact ⟨y, rfl, (Option.some.inj h).symm⟩

/-! ### texts in ascending order -/
theorem rising_at : ∀ (p : Str) (r : List Str), risingS p r = true → ∀ (k : Nat) (x y : Str), (p :: r)[k]? = some x → (p :: r)[k + 1]? = some y → ltCps y.cps.toList x.cps.toList = false
  | p, [], _, k, x, y, _, h2 => by
    simp at h2
  | p, q :: r, h, k, x, y, h1, h2 => by
    have h3 : (!ltCps q.cps.toList p.cps.toList && risingS q r) = true := h
    rw [Bool.and_eq_true] at h3
    cases k with
    | zero =>
      have e1 : p = x := Option.some.inj h1
      have e2 : q = y := Option.some.inj h2
      rw [← e1, ← e2]
      simpa using h3.1
    | succ k => exact rising_at q r h3.2 k x y h1 h2
theorem sorted_at {l : List Str} (h : sortedS l = true) (nd : l.Nodup) {k : Nat} {x y : Str} (h1 : l[k]? = some x) (h2 : l[k + 1]? = some y) : x.cps.toList < y.cps.toList := by
  cases l with
  | nil => cases h1
  | cons p r =>
    have a := rising_at p r h k x y h1 h2
    rw [ltCps_eq] at a
    refine Std.lt_of_le_of_ne (of_decide_eq_false a) fun e => ?_
    have e2 : x = y := ext_tl e
    obtain ⟨i1, e3⟩ := List.getElem?_eq_some_iff.mp h1
    obtain ⟨i2, e4⟩ := List.getElem?_eq_some_iff.mp h2
    have z := List.pairwise_iff_getElem.mp nd k (k + 1) i1 i2 (Nat.lt_succ_self k)
    exact z (e3.trans (e2.trans e4.symm))

/-! ### membership of texts -/
theorem inV_str (x : Str) (ys : List Str) : inV (.str x) (ys.map V.str) = decide (x ∈ ys) := by
  unfold inV
  rw [List.any_map]
  induction ys with
  | nil => rfl
  | cons y ys ih =>
    rw [List.any_cons, ih]
    show ((y == x) || _) = _
    by_cases e : y = x
    · subst e
      simp
    · have e2 : (y == x) = false := by simpa using e
      rw [e2, Bool.false_or]
      by_cases h : x ∈ ys
      · rw [decide_eq_true h, decide_eq_true (List.mem_cons_of_mem _ h)]
      · rw [decide_eq_false h, decide_eq_false (fun z => (List.mem_cons.mp z).elim (fun z => e z.symm) h)]
theorem flat_all (ys : List Str) : (ys.map V.str).all flatV = true := by
  rw [List.all_map, List.all_eq_true]
  intro y _
  rfl
theorem lay_strs : ∀ ys : List Str, (∀ y ∈ ys, PyData.strOk y = true) → PyData.canLayAll0 (ys.map PyData.str) = true ∧ PyData.depthAll (ys.map PyData.str) ≤ 1
  | [], _ => ⟨rfl, by decide⟩
  | y :: ys, h => by
    obtain ⟨a, b⟩ := lay_strs ys fun z hz => h z (List.mem_cons_of_mem _ hz)
    constructor
    · show (PyData.strOk y && PyData.canLayAll0 (ys.map PyData.str)) = true
      rw [a, h y List.mem_cons_self]
      rfl
    · show max (PyData.depth (.str y)) (PyData.depthAll (ys.map PyData.str)) ≤ 1
      exact Nat.max_le.mpr ⟨by first | exact Nat.zero_le _ | decide | exact Nat.le_refl _, b⟩
theorem lay_lists : ∀ L : List (List Str), (∀ ys ∈ L, ∀ y ∈ ys, PyData.strOk y = true) → PyData.canLayAll0 (L.map fun ys => PyData.list (ys.map PyData.str)) = true ∧ PyData.depthAll (L.map fun ys => PyData.list (ys.map PyData.str)) ≤ 2
  | [], _ => ⟨rfl, by decide⟩
  | ys :: L, h => by
    obtain ⟨a, b⟩ := lay_lists L fun z hz => h z (List.mem_cons_of_mem _ hz)
    obtain ⟨c, d⟩ := lay_strs ys (h ys List.mem_cons_self)
    constructor
    · show (PyData.canLayAll0 (ys.map PyData.str) && PyData.canLayAll0 (L.map fun ys => PyData.list (ys.map PyData.str))) = true
      rw [a, c]
      rfl
    · show max (PyData.depthAll (ys.map PyData.str) + 1) (PyData.depthAll (L.map fun ys => PyData.list (ys.map PyData.str))) ≤ 2
      exact Nat.max_le.mpr ⟨by omega, b⟩

/-! ### signs of a written text -/
theorem pick {L : Str} {r : Int} (h0 : 0 ≤ r) (h1 : r < (tl L).length) : ∃ c, atI L.cps.toList r = some c ∧ c ∈ tl L := by
  obtain ⟨n, rfl⟩ := Int.eq_ofNat_of_zero_le h0
  have hn : n < (tl L).length := by omega
  exact ⟨(tl L)[n], atI_nat (List.getElem?_eq_getElem hn), List.getElem_mem hn⟩
end Bx
/-! Data that stands in the heap, beside objects that change; rules told of data. -/
namespace Dx
open PySem PySem.Spec PyProof.Rows L2 Bx TL

/-! ### the heap without some addresses -/
def mn (H : Hp) (S : List Addr) : Hp := fun b => if b ∈ S then none else H b
theorem mn_in {H : Hp} {S : List Addr} {b : Addr} (h : b ∈ S) : mn H S b = none := if_pos h
theorem mn_out {H : Hp} {S : List Addr} {b : Addr} (h : b ∉ S) : mn H S b = H b := if_neg h
theorem mn_same {H : Hp} {S : List Addr} : Same (mn H S) H := fun b o e => by
  by_cases h : b ∈ S
  · rw [mn_in h] at e
    cases e
  · rw [mn_out h] at e
    exact e
theorem mn_nil {H : Hp} : mn H [] = H := funext fun b => mn_out (by simp)
theorem mn_sub {H : Hp} {S T : List Addr} (h : ∀ b, b ∈ S → b ∈ T) : Same (mn H T) (mn H S) := fun b o e => by
  by_cases h1 : b ∈ T
  · rw [mn_in h1] at e
    cases e
  · rw [mn_out h1] at e
    rw [mn_out fun z => h1 (h b z)]
    exact e
theorem mn_upd {H : Hp} {S : List Addr} {a : Addr} {o : HO} (h : a ∈ S) : mn (upd H a o) S = mn H S := funext fun b => by
  by_cases h1 : b ∈ S
  · rw [mn_in h1, mn_in h1]
  · rw [mn_out h1, mn_out h1, upd_ne (show b ≠ a from fun z => h1 (by rw [z]; exact h))]
theorem mn_new {H : Hp} {S : List Addr} {p : Addr} {o : HO} (h : H p = none) : Same (mn H S) (mn (upd H p o) S) := fun b u e => by
  by_cases h1 : b ∈ S
  · rw [mn_in h1] at e
    cases e
  · rw [mn_out h1] at e ⊢
    rw [upd_ne (ne_of_none e h)]
    exact e
theorem mn_but {H H' : Hp} {S : List Addr} {a : Addr} (h : a ∈ S) (s : SameBut a H H') : Same (mn H S) (mn H' S) := fun b u e => by
  by_cases h1 : b ∈ S
  · rw [mn_in h1] at e
    cases e
  · rw [mn_out h1] at e ⊢
    exact s b u (fun z => h1 (z ▸ h)) e
theorem mn_all {H H' : Hp} {S : List Addr} (s : Same H H') : Same (mn H S) (mn H' S) := fun b u e => by
  by_cases h1 : b ∈ S
  · rw [mn_in h1] at e
    cases e
  · rw [mn_out h1] at e ⊢
    exact s b u e
theorem mn_to {H H' : Hp} {S T : List Addr} (h : ∀ b, b ∈ S → b ∈ T) (s : Same (mn H S) (mn H' S)) : Same (mn H T) (mn H' T) := fun b u e => by
  by_cases h1 : b ∈ T
  · rw [mn_in h1] at e
    cases e
  · rw [mn_out h1] at e ⊢
    have z := s b u (by rw [mn_out fun z => h1 (h b z)]; exact e)
    rw [mn_out fun z => h1 (h b z)] at z
    exact z
/-- what is tracked beside S was there, or is new -/
theorem mn_at {H : Hp} {S : List Addr} {b : Addr} {o : HO} (h : b ∉ S) (e : H b = some o) : mn H S b = some o := by
  rw [mn_out h]
  exact e
theorem mn_keep {H H' : Hp} {S : List Addr} (s : Same (mn H S) (mn H' S)) {b : Addr} {o : HO} (h : b ∉ S) (e : H b = some o) : H' b = some o := mn_same _ _ (s _ _ (mn_at h e))
theorem mn_free {H H' : Hp} {S : List Addr} (s : Same (mn H S) (mn H' S)) {b : Addr} (h : b ∉ S) (e : H' b = none) : H b = none := by
  cases z : H b with
  | none => rfl
  | some o =>
    rw [mn_keep s h z] at e
    cases e

/-! ### data -/
section
variable {K : PySem.W.Frag} {H : Hp}
theorem dp_lst {v : V} {ds : List PyData} (h : Dp K H v (.list ds)) : ∃ a xs, v = .ref a ∧ SqL K H a xs ∧ DpAll K H xs ds := by
  cases h with
  | lst s a => exact ⟨_, _, rfl, s, a⟩
theorem dp_tup {v : V} {ds : List PyData} (h : Dp K H v (.tuple ds)) : ∃ a xs, v = .ref a ∧ SqT K H a xs ∧ DpAll K H xs ds := by
  cases h with
  | tup s a => exact ⟨_, _, rfl, s, a⟩
theorem dp_str {v : V} {s : Str} (h : Dp K H v (.str s)) : v = .str s := by cases h; rfl
theorem dp_int {v : V} {i : Int} (h : Dp K H v (.int i)) : v = .int i := by cases h; rfl
theorem da_len : ∀ {xs : List V} {ds : List PyData}, DpAll K H xs ds → xs.length = ds.length
  | _, _, .nil => rfl
  | _, _, .cons _ t => congrArg (· + 1) (da_len t)
theorem da_get : ∀ {xs : List V} {ds : List PyData}, DpAll K H xs ds → ∀ {i : Nat} {d : PyData}, ds[i]? = some d → ∃ v, xs[i]? = some v ∧ Dp K H v d
  | _, _, .nil, i, d, e => by cases e
  | _, _, .cons h t, 0, d, e => by
    cases e
    exact ⟨_, rfl, h⟩
  | _, _, .cons h t, i + 1, d, e => da_get t e
theorem da_at : ∀ {xs : List V} {ds : List PyData}, DpAll K H xs ds → ∀ {i : Nat} {v : V}, xs[i]? = some v → ∃ d, ds[i]? = some d ∧ Dp K H v d
  | _, _, .nil, i, d, e => by cases e
  | _, _, .cons h t, 0, d, e => by
    cases e
    exact ⟨_, rfl, h⟩
  | _, _, .cons h t, i + 1, d, e => da_at t e
theorem da_app : ∀ {xs ys : List V} {ds es : List PyData}, DpAll K H xs ds → DpAll K H ys es → DpAll K H (xs ++ ys) (ds ++ es)
  | _, _, _, _, .nil, h => h
  | _, _, _, _, .cons h t, k => .cons h (da_app t k)
theorem da_one {v : V} {d : PyData} (h : Dp K H v d) : DpAll K H [v] [d] := .cons h .nil
theorem da_strs : ∀ {xs : List V} {ns : List Str}, DpAll K H xs (ns.map PyData.str) → xs = ns.map V.str
  | [], [], _ => rfl
  | [], _ :: _, h => by cases h
  | _ :: _, [], h => by cases h
  | x :: xs, n :: ns, h => by
    cases h with
    | cons h t =>
      rw [dp_str h, da_strs t]
      rfl
theorem da_ints : ∀ {xs : List V} {ns : List Int}, DpAll K H xs (ns.map PyData.int) → xs = ns.map V.int
  | [], [], _ => rfl
  | [], _ :: _, h => by cases h
  | _ :: _, [], h => by cases h
  | x :: xs, n :: ns, h => by
    cases h with
    | cons h t =>
      rw [dp_int h, da_ints t]
      rfl
theorem da_take : ∀ {xs : List V} {ds : List PyData}, DpAll K H xs ds → ∀ n, DpAll K H (xs.take n) (ds.take n)
  | _, _, .nil, n => by
    rw [List.take_nil, List.take_nil]
    exact .nil
  | _, _, .cons h t, 0 => .nil
  | _, _, .cons h t, n + 1 => .cons h (da_take t n)
/-- the strs of a tuple of texts -/
theorem dp_names {v : V} {ns : List Str} (h : Dp K H v (.tuple (ns.map PyData.str))) : ∃ a, v = .ref a ∧ SqT K H a (ns.map V.str) := by
  obtain ⟨a, xs, rfl, s, t⟩ := dp_tup h
  rw [da_strs t] at s
  exact ⟨a, rfl, s⟩
theorem dp_namesL {v : V} {ns : List Str} (h : Dp K H v (.list (ns.map PyData.str))) : ∃ a, v = .ref a ∧ SqL K H a (ns.map V.str) := by
  obtain ⟨a, xs, rfl, s, t⟩ := dp_lst h
  rw [da_strs t] at s
  exact ⟨a, rfl, s⟩
theorem names_dp {a : Addr} {ns : List Str} (h : SqT K H a (ns.map V.str)) : Dp K H (.ref a) (.tuple (ns.map PyData.str)) := .tup h (dp_strs ns)
theorem namesL_dp {a : Addr} {ns : List Str} (h : SqL K H a (ns.map V.str)) : Dp K H (.ref a) (.list (ns.map PyData.str)) := .lst h (dp_strs ns)
end

/-! ### what may be compared: no dicts, not too deep -/
def Lay (n : Nat) (d : PyData) : Prop := d.canLay0 = true ∧ d.depth ≤ n
def Lays (n : Nat) (ds : List PyData) : Prop := PyData.canLayAll0 ds = true ∧ PyData.depthAll ds ≤ n
theorem lays_nil {n : Nat} : Lays n [] := ⟨rfl, Nat.zero_le _⟩
theorem lays_cons {n : Nat} {d : PyData} {ds : List PyData} (h : Lay n d) (t : Lays n ds) : Lays n (d :: ds) := by
  constructor
  · show (d.canLay0 && PyData.canLayAll0 ds) = true
    rw [h.1, t.1]
    rfl
  · show max d.depth (PyData.depthAll ds) ≤ n
    exact Nat.max_le.mpr ⟨h.2, t.2⟩
theorem lays_of {n : Nat} : ∀ {ds : List PyData}, (∀ d ∈ ds, Lay n d) → Lays n ds
  | [], _ => lays_nil
  | d :: ds, h => lays_cons (h d List.mem_cons_self) (lays_of fun x hx => h x (List.mem_cons_of_mem _ hx))
theorem lay_tuple {n : Nat} {ds : List PyData} (h : Lays n ds) : Lay (n + 1) (.tuple ds) := ⟨h.1, Nat.succ_le_succ h.2⟩
theorem lay_list {n : Nat} {ds : List PyData} (h : Lays n ds) : Lay (n + 1) (.list ds) := ⟨h.1, Nat.succ_le_succ h.2⟩
theorem lay_int {n : Nat} {i : Int} : Lay n (.int i) := ⟨rfl, Nat.zero_le _⟩
theorem lay_str {n : Nat} {s : Str} (h : PyData.strOk s = true) : Lay n (.str s) := ⟨h, Nat.zero_le _⟩
theorem lay_up {m n : Nat} {d : PyData} (h : Lay m d) (k : m ≤ n) : Lay n d := ⟨h.1, Nat.le_trans h.2 k⟩
theorem lays_up {m n : Nat} {ds : List PyData} (h : Lays m ds) (k : m ≤ n) : Lays n ds := ⟨h.1, Nat.le_trans h.2 k⟩
theorem lays_mem {n : Nat} : ∀ {ds : List PyData}, Lays n ds → ∀ d ∈ ds, Lay n d
  | d :: ds, h, x, hx => by
    have h1 : (d.canLay0 && PyData.canLayAll0 ds) = true := h.1
    have h2 : max d.depth (PyData.depthAll ds) ≤ n := h.2
    rw [Bool.and_eq_true] at h1
    rw [Nat.max_le] at h2
    rcases List.mem_cons.mp hx with e | e
    · rw [e]
      exact ⟨h1.1, h2.1⟩
    · exact lays_mem ⟨h1.2, h2.2⟩ x e
theorem lays_strs {n : Nat} {ns : List Str} (h : ∀ s ∈ ns, PyData.strOk s = true) : Lays n (ns.map PyData.str) := lays_of fun d hd => by
  obtain ⟨s, hs, rfl⟩ := List.mem_map.mp hd
  exact lay_str (h s hs)
theorem lays_ints {n : Nat} {ns : List Int} : Lays n (ns.map PyData.int) := lays_of fun d hd => by
  obtain ⟨s, _, rfl⟩ := List.mem_map.mp hd
  exact lay_int
theorem shape {n : Nat} {d : PyData} (h : Lay n d) (k : n ≤ 64) : SeqAt.shaped d = true := by
  unfold SeqAt.shaped
  rw [Bool.and_eq_true]
  exact ⟨h.1, decide_eq_true (Nat.le_trans h.2 k)⟩
theorem eq_refl {n : Nat} {d : PyData} (h : Lay n d) : PyData.eqv d d = true := SeqAt.eqv_refl d h.1

/-! ### strict order of lists of texts, and equal lists -/
def Asc (l : List Str) : Prop := l.Pairwise fun x y => x.cps.toList < y.cps.toList
theorem asc_of : ∀ {l : List Str}, sortedS l = true → l.Nodup → Asc l := by
  intro l h nd
  have key : ∀ (d i : Nat) (x y : Str), l[i]? = some x → l[i + (d + 1)]? = some y → x.cps.toList < y.cps.toList := by
    intro d
    induction d with
    | zero => exact fun i x y h1 h2 => sorted_at h nd h1 h2
    | succ d ih =>
      intro i x y h1 h2
      have hl : i + (d + 1) < l.length := by
        have := (List.getElem?_eq_some_iff.mp h2).1
        omega
      have h3 : l[i + (d + 1)]? = some l[i + (d + 1)] := List.getElem?_eq_getElem hl
      exact List.lt_trans (ih i x _ h1 h3) (sorted_at h nd h3 h2)
  refine List.pairwise_iff_getElem.mpr fun i j hi hj hij => ?_
  exact key (j - i - 1) i _ _ (List.getElem?_eq_getElem hi) (by rw [show i + (j - i - 1 + 1) = j by omega]; exact List.getElem?_eq_getElem hj)
theorem asc_nodup {l : List Str} (h : Asc l) : l.Nodup := List.Pairwise.imp (fun {x y} hxy e => by
  rw [e] at hxy
  exact List.lt_irrefl _ hxy) h
theorem asc_eq : ∀ {l m : List Str}, Asc l → Asc m → (∀ x, x ∈ l ↔ x ∈ m) → l = m
  | [], [], _, _, _ => rfl
  | [], y :: m, _, _, h => absurd ((h y).mpr List.mem_cons_self) (by simp)
  | x :: l, [], _, _, h => absurd ((h x).mp List.mem_cons_self) (by simp)
  | x :: l, y :: m, h1, h2, h => by
    obtain ⟨a1, a2⟩ := List.pairwise_cons.mp h1
    obtain ⟨b1, b2⟩ := List.pairwise_cons.mp h2
    have e : x = y := by
      rcases List.mem_cons.mp ((h x).mp List.mem_cons_self) with e | e
      · exact e
      · rcases List.mem_cons.mp ((h y).mpr List.mem_cons_self) with e' | e'
        · exact e'.symm
        · exact absurd (List.lt_trans (a1 y e') (b1 x e)) (List.lt_irrefl _)
    subst e
    have nl : x ∉ l := fun z => List.lt_irrefl _ (a1 x z)
    have nm : x ∉ m := fun z => List.lt_irrefl _ (b1 x z)
    rw [asc_eq a2 b2 fun z => ⟨fun hz => (List.mem_cons.mp ((h z).mp (List.mem_cons_of_mem _ hz))).resolve_left fun e => nl (e ▸ hz), fun hz => (List.mem_cons.mp ((h z).mpr (List.mem_cons_of_mem _ hz))).resolve_left fun e => nm (e ▸ hz)⟩]

/-! ### sorted(xs), xs tuples of ints of one length: some order -/
def rSortRows (K : PySem.W.Frag) : List V → Hp → VK → Prop := fun vs H Q => ∃ (a : Addr) (xs : List V) (d : Nat) (B : Int), vs = [V.ref a] ∧ SqL K H a xs ∧ xs.length < 64 ∧ (∀ x ∈ xs, ∃ ns, TupI K H x ns ∧ ns.length = d ∧ TS.Bd B ns) ∧ (d = 0 → xs.length ≤ 1) ∧
  ∀ (ys : List V) (p : Addr), ys.Perm xs → H p = none → Q (.ref p) (upd H p (.lst ys))
theorem cr_sortRows {X : Cx} : CallR X (.builtin "sorted") (rSortRows X.K) := by
  intro pins s σ H vs us Q I r h
  obtain ⟨a, xs, d, B, rfl, hs, h64, hx, h1, q⟩ := h
  by_cases hd : 1 ≤ d
  · exact cr_sortT hd pins s σ H _ us Q I r ⟨a, xs, rfl, hs, h64, hx, fun ys p pm _ n => q ys p pm n⟩
  · have hl1 : xs.length ≤ 1 := h1 (by omega)
    obtain ⟨its, rv, hl, hz⟩ := I.list hs
    have hlen := rv.length
    rw [Vals.ref1 r]
    refine Srt.sorted_any hl.isList (by rw [← hlen]; exact hz) (fun h2 => absurd h2 (by omega)) fun out hp => ?_
    have e : out = its := by
      match its, hlen, hp with
      | [], _, hp => exact hp.eq_nil
      | [v], _, hp => exact List.perm_singleton.mp hp
      | _ :: _ :: _, hlen, _ =>
        simp only [List.length_cons] at hlen
        omega
    subst e
    obtain ⟨ep, he'⟩ := PyProof.Rows.sortedAll_at s.heap out out.toArray
    exact ⟨.ref _, upd H (s.heap.objs.size + 1) (.lst xs), I.laid (t' := s.toks) (fun _ _ => PyProof.Rows.sortedAll_old) (Nat.le_succ _) ⟨hz, out, ep, rv, by simpa using he'⟩, rfl, q xs _ (List.Perm.refl _) (I.hok.fresh (Nat.le_succ _))⟩

/-! ### the room of a call for a comparison of data -/
theorem room {k : Nat} {A : Around} (r : Room k A) : A.units + 65 < cLine := by
  have := r.un
  omega

/-! ### a list or a tuple of data -/
theorem dp_seq {K : PySem.W.Frag} {H : Hp} {v : V} {ds : List PyData} (h : Dp K H v (.list ds) ∨ Dp K H v (.tuple ds)) : ∃ a xs, v = .ref a ∧ DpAll K H xs ds ∧ (SqL K H a xs ∨ SqT K H a xs) := by
  rcases h with h | h
  · obtain ⟨a, xs, rfl, s, t⟩ := dp_lst h
    exact ⟨a, xs, rfl, t, .inl s⟩
  · obtain ⟨a, xs, rfl, s, t⟩ := dp_tup h
    exact ⟨a, xs, rfl, t, .inr s⟩

/-! ### name = {k: v for ..} -/
section
variable {X : Cx}
theorem ps_setDc {i : Nat} {y : Str} {py : Pos} {kx vx tg iter : Expr} {ifs : List Expr} {scope : Scope} {own : List (Str × Nat)} {pos spos : Pos} {wi : TI} {g : TG} {tt : TT} {tk tv : TE} (hc : X.calm = true) (hN : X.N.Nodup) (hy : X.N[i]? = some y) (hyl : X.env.scope.names.lookup y = some .local)
    (hsw : swapsWith (.DictComp kx vx [⟨tg, iter, ifs, 0⟩] scope pos) (some (.Name y py)) spos.line X.env = pure true) (hi : PI X tg iter wi) (ok : BlkOk X.N X.env.scope scope own)
    (hg : ∀ (s : Shared) (H : Hp) (C : Addr) (cl : List (Str × Addr)) (fp : List Addr), PG (X.blk s H scope (compEnvC scope cl C X.env) fp) tg g) (ht : ∀ (s : Shared) (H : Hp) (C : Addr) (cl : List (Str × Addr)) (fp : List Addr), PTs (X.blk s H scope (compEnvC scope cl C X.env) fp) ifs tt)
    (hk : ∀ (s : Shared) (H : Hp) (C : Addr) (cl : List (Str × Addr)) (fp : List Addr), PE (X.blk s H scope (compEnvC scope cl C X.env) fp) kx tk)
    (he : ∀ (s : Shared) (H : Hp) (C : Addr) (cl : List (Str × Addr)) (fp : List Addr), PE (X.blk s H scope (compEnvC scope cl C X.env) fp) vx tv) (hs : ∀ x, foldedSetIterable iter X.env x = pure x := by intro _; rfl) :
    PS X (.Assign [.Name y py] (.DictComp kx vx [⟨tg, iter, ifs, 0⟩] scope pos) spos) (tAsg (tDc wi g tt tk tv (own.map (·.2))) (gName i)) := by
  refine ⟨fun pins s σ H D I h => ?_⟩
  rw [exec_Assign_Name_used _ _ _ _ hsw]
  refine wpAny_bind (wpAny_standAt (wpAny_bind ?_))
  show wpAny _ X.A (do let _ ← comprehension (.DictComp kx vx [⟨tg, iter, ifs, 0⟩] scope pos) scope X.env _ newDict false (eval iter X.env) (some (assign (.Name y py) X.env))) _ _ s
  have h : tDc wi g tt tk tv (own.map (·.2)) σ H (fun x H1 => gName i x σ H1 D.nx) := h
  refine wpAny_bind (thn (dc_core (Qf := fun _ s' => SP X pins D .next s') hc hN I hi ok hg ht hk he hs h fun L C s' m H' I' q hn f => ?_) fun _ s' hq => wpAny_pure (wpAny_pure hq))
  show wpAny _ _ (assign (.Name y py) X.env (.ref L)) _ _ _
  refine wpAny_assign_Name (store_ok2 (v := V.ref L) I' hN hy (.inl hyl) rfl (fun s2 I2 ⟨a, sb, ha⟩ => ?_) (.inr hyl))
  obtain ⟨f0, f1, f2, f3, f4, f5⟩ := f
  have haC : C ≠ a := by
    rcases ha with z | z
    · rw [z]; exact f1
    · exact fun e => f4 y a z e.symm
  refine ⟨m, hn.sameBut sb haC, fun h3 sb3 => ?_⟩
  exact ⟨_, H', I2.turned (t' := s2.toks) (fun b o hb e => (sb3.2 b hb).trans e) f0 f1 f3 f4 f5, q⟩
theorem sw_trueD {kx vx : Expr} {gs : List Comprehension} {scope : Scope} {pos py : Pos} {y : Str} {l : Nat} {env : Env} (hk : env.scope.kind = .function) (hy : env.scope.names.lookup y = some .local) (hl : (py.line == pos.line) = true)
    (ha : (scope.names.any fun (n, k) => n == y && (k == .local || k == .cell)) = false) : swapsWith (.DictComp kx vx gs scope pos) (some (.Name y py)) l env = pure true := by
  have ky : env.kindOf y = some .local := hy
  have hb : env.blockKind = .function := by unfold Env.blockKind; rw [hk]; rfl
  unfold swapsWith
  simp only [hb, ky, ha, Expr.pos, hl]
  rfl
end
end Dx
/-! Own errors with one field, whose __init__ says super().__init__(f'..'). -/
namespace Er
open PySem PySem.Spec PyProof.Rows L2 Bx TL Dx Sup NdefX
/-- __init__(self, y): the error at a gets a dict with f = y -/
def spErr (ok : V → Prop) (C : Addr) (f : Str) : Sp := fun vs H Q _ => ∃ (a : Addr) (v : V), vs = [.ref a, v] ∧ ok v ∧ H a = some (exo a C none) ∧
  ∀ (d : Addr) (H' : Hp), (∀ b o, b ≠ a → H b = some o → H' b = some o) → H d = none → d ≠ a → H' a = some (exo a C (some d)) → H' d = some (exd d [(f, v)]) → Q .non H'
/-- the class at C, named x: an own error over ValueError with one field -/
structure Err (P : Program) (w : World) (K : PySem.W.Frag) (mg : Str → Option Value) (base : Heap) (x : Str) (C : Addr) (f y : Str) (ok : V → Prop) (k : Nat) : Prop where
  init : ∃ (fI : Addr) (fd : FuncData), PySem.W.findIn K (.ref C) "__init__" = some (some (.ref fI)) ∧ PySem.W.typeIn K (.ref fI) = some (.type "function") ∧ FnOk P w K mg base CX0 k fI fd ["self", y] (spErr ok C f) ∧ Binds K fd ["self", y] []
  exc : OexC K C
  g : mg x = some (.ref C)
  te : PySem.W.exmOne K (.ref C) (.ref C) = some true
  xf : XfC K C
  no : PySem.W.findIn K (.ref C) f = some none
section
variable {X : Cx} {x : Str} {C : Addr} {f y : Str} {ok : V → Prop} {k : Nat} {e : Expr} {te : TE} {p pos pos' : Pos} {W : WX}
theorem ps_raiseE (c : Err X.prog X.w X.K X.mg X.base x C f y ok k) (hc : X.calm = true) (tk : Takes X W) (hr : Room (k + 1) X.A) (he : PE X e te) (hg : Gl X x := by rfl) (hdb : (x == ("__debug__" : Str)) = false := by decide)
    (hst : starEach [e] X.env = (false, eval e X.env) :: starEach [] X.env := by rfl) (hpl : (backTo pos (starEach [] X.env)).any (·.1) = false := by rfl) :
    PS X (.Raise (some (.Call (.Name x p) [e] [] pos)) none pos') (fun _ σ H => te σ H fun v H1 => ok v ∧ ∀ d H3, Same H1 H3 → H1 d = none → H3 d = some (.xd [(f, v)]) → W (.ref C) (some d) σ H3) := by
  obtain ⟨fI, fd, iC, tI, F1, hb⟩ := c.init
  have he2 : PE X e (fun σ H Q => ∃ R : VK, te σ H R ∧ ∀ v H1, R v H1 → Q v H1) := ⟨fun pins s σ H Q I ⟨R, h, hR⟩ => thn (he.run pins s σ H R I h) fun v s1 ⟨x, H1, I1, r, q⟩ => ⟨x, H1, I1, r, hR _ _ q⟩⟩
  have z := ps_raise (pos := pos') hc tk (pmk_oex (pos := pos) (p := p) (dvs := []) c.exc iC tI F1 hr hb .nil (pass0) hg c.g (pa_cons he2 pa_nil hst) hdb hst hpl)
  refine ⟨fun pins s σ H D I h => z.run pins s σ H D I ?_⟩
  refine ⟨_, h, fun v H1 hq => ?_⟩
  obtain ⟨hok, hw⟩ := hq
  refine ⟨by show 1 ≤ 1000; decide, fun a na => ⟨a, v, rfl, hok, upd_same, fun d H' keep nd da ea ed => ?_⟩⟩
  have nd1 : H1 d = none := by
    rw [upd_ne da] at nd
    exact nd
  refine ⟨rfl, d, _, ea, ed, nd1, hw d _ (fun b o e => ?_) nd1 upd_same⟩
  have ba : b ≠ a := ne_of_none e na
  rw [upd_ne (ne_of_none e nd1), del_ne ba]
  exact keep b o ba (by rw [upd_ne ba]; exact e)
end
/-! ### isinstance of an error with a dict -/
def rIsD (K : PySem.W.Frag) (a : Addr) (cls : Value) (d : Option Addr) : List V → Hp → VK → Prop := fun xs H Q => ∃ (D dd : Addr) (c : V) (cv : Value) (b : Bool) (fs : List (Str × V)), xs = [.ref a, c] ∧ cls = .ref D ∧ d = some dd ∧ (PySem.W.clsIn K D).isSome = true ∧ ExcC K D ∧
  H dd = some (.xd fs) ∧ (∀ u, RelV c u → u = cv) ∧ PySem.W.kitOne K (.ref D) cv = some b ∧ Q (.bl b) H
theorem call_isD {X : Cx} {a : Addr} {cls : Value} {d : Option Addr} {oe : Obj} {pn : List (Addr × Obj)} (hz : Zc cls d oe) (hf : ∃ vs, oe.data = .fields vs) : CallR (X.suite a ((a, oe) :: pn)) (.builtin "isinstance") (rIsD X.K a cls d) := by
  intro pins s σ H xs us Q I r h
  obtain ⟨D, dd, c, cv, b, fs, rfl, rfl, rfl, hcl, C, hdd, hcv, e, q⟩ := h
  cases r with
  | cons rx rr =>
    cases rr with
    | cons rt rr =>
      cases rr
      cases rx
      have ec := hcv _ rt
      subst ec
      obtain ⟨hget, _⟩ := I.pin (a, oe) (List.mem_append.mpr (.inl List.mem_cons_self))
      obtain ⟨vs, hv⟩ := hf
      obtain ⟨oD, hD⟩ : ∃ o, s.heap.get? dd = some o := by
        obtain ⟨mA, hn, _⟩ := I.hok dd _ hdd
        obtain ⟨o, _, _, e, _⟩ := hn
        exact ⟨o, e⟩
      have J : PySem.W.InstAt s.heap a oe D (some oD) := by
        obtain ⟨oc, od, oda, osl⟩ := oe
        obtain ⟨h1, h2⟩ := hz
        dsimp only at h1 h2 hv
        subst h1 h2 hv
        exact ⟨hget, rfl, rfl, hD⟩
      exact PySem.W.kia_one (PySem.W.kitx_exc hcl C.hg C.hk C.hs C.ha C.hn C.ht C.hm) I.kIn J e (fun z => nomatch z) fun tk => ⟨.bl b, H, I.kept (t' := tk) fun _ _ z => z, rfl, q⟩
/-! ### calls of defs that may raise -/
section
variable {X : Cx} {CX : CXT} {k n : Nat} {f : Addr} {fd : FuncData} {ps ks : List Str} {sp : Sp} {E : L2.St → XK} {x : Str} {p pos : Pos} {e : Expr} {es : List Expr} {kws : List Keyword} {t tk : TA} {g : List Value → List Value → List Value} {gV : List V → List V → List V}
theorem run_fnNS {pins : List (Addr × Obj)} {σ : L2.St} {H : Hp} {s : Shared} {Q : VK} {us ws : List Value} {vs zs : List V} (F : FnOk X.prog X.w X.K X.mg X.base CX k f fd ps sp) (hr : Room k X.A) (hb : KBn X.K fd ps n ks g gV) (hx : PassesAt CX X σ (E σ))
    (I : Inv X pins σ H s) (r : Vals vs us) (rz : Vals zs ws) (l1 : vs.length = n) (l2 : zs.length = ks.length) (h : sp (gV vs zs) H Q (E σ)) : wpAny (model X.prog X.w) X.A (call (.ref f) us (ks.zip ws)) (EP X pins σ Q) X.xe s := by
  refine wpAny_call (codeAny_mono (F.run X.A X.stack s H ⟨us, ks.zip ws⟩ (g us ws) (gV vs zs) Q (E σ) hr I.env0 (hb.to s us ws I.kIn (by rw [← r.length]; exact l1) (by rw [← rz.length]; exact l2)) (hb.rel r rz) h) fun r s' hq => ?_)
  cases r with
  | error e => exact hx pins H s e s' I hq
  | ok fl =>
    cases fl with
    | ret u => exact I.after hq
    | next => exact False.elim hq
    | brk => exact False.elim hq
    | cont => exact False.elim hq
def tCallNS (n m : Nat) (sp : Sp) (gV : List V → List V → List V) (E : L2.St → XK) (t tk : TA) : TE := fun σ H Q => t σ H fun vs H1 => tk σ H1 fun zs H2 => vs.length = n ∧ zs.length = m ∧ sp (gV vs zs) H2 Q (E σ)
theorem pe_callNS (F : FnOk X.prog X.w X.K X.mg X.base CX k f fd ps sp) (hr : Room k X.A) (hg : Gl X x) (hm : X.mg x = some (.ref f)) (hk : PySem.W.keepIn X.K (.ref f) = true) (hb : KBn X.K fd ps n ks g gV) (hx : ∀ σ, PassesAt CX X σ (E σ))
    (ha : PA X (e :: es) t) (hkw : PK X kws tk) (hall : (backToKw pos (keywordEach kws X.env)).all (·.1.isSome) = true := by rfl) (hks : (backToKw pos (keywordEach kws X.env)).filterMap (·.1) = ks := by rfl)
    (hdb : (x == ("__debug__" : Str)) = false := by decide) (he : starEach (e :: es) X.env = (false, eval e X.env) :: starEach es X.env := by rfl)
    (hpl : ((backTo pos (starEach (e :: es) X.env)).any (·.1) || (backToKw pos (keywordEach kws X.env)).any (·.1.isNone)) = false := by rfl) :
    PE X (.Call (.Name x p) (e :: es) kws pos) (tCallNS n ks.length sp gV E t tk) := by
  refine ⟨fun pins s σ H Q I h => ?_⟩
  refine wpAny_Call_Name_kw (ld_glob I hg hm ?_ hdb)
  refine PySem.W.callWith_KW (h₀ := X.base) I.ok.mod.kin hk hall (thn (ha.run pos pins s σ H _ I h) fun us s1 ⟨vs, H1, I1, r, q⟩ => ?_) hpl he
  refine thn (hkw.run pos pins s1 σ H1 _ I1 q) fun ws s2 ⟨zs, H2, I2, rz, l1, l2, q2⟩ => ⟨I2.kIn, ?_⟩
  rw [hks]
  exact run_fnNS F hr hb (hx σ) I2 r rz l1 l2 q2
/-- the module's name x holds a def of one parameter and a keyword-only one with a default; it may raise -/
structure CalX (P : Program) (w : World) (K : PySem.W.Frag) (mg : Str → Option Value) (base : Heap) (x y : Str) (k : Nat) (ps : List Str) (dv : V) (sp : Sp) : Prop where
  ex : ∃ (f : Addr) (fd : FuncData), FnOk P w K mg base (L2.CX P w) k f fd ps sp ∧ mg x = some (.ref f) ∧ PySem.W.keepIn K (.ref f) = true ∧ (∃ ds, Vals [dv] ds ∧ Binds K fd ps ds) ∧ KBn K fd ps 1 [y] (fun us ws => us ++ ws) (fun vs zs => vs ++ zs)
variable {y : Str} {dv : V} {W : WX} {tk1 : TA}
def tCalX (sp : Sp) (dv : V) (W : WX) (t : TA) : TE := fun σ H Q => t σ H fun vs H1 => sp (vs ++ [dv]) H1 Q (fun cls d H' => W cls d σ H')
def tCalXK (sp : Sp) (W : WX) (t tk : TA) : TE := fun σ H Q => t σ H fun vs H1 => tk σ H1 fun zs H2 => vs.length = 1 ∧ zs.length = 1 ∧ sp (vs ++ zs) H2 Q (fun cls d H' => W cls d σ H')
theorem pe_calX (c : CalX X.prog X.w X.K X.mg X.base x y k ps dv sp) (tkW : Takes X W) (hr : Room k X.A) (ha : PA X (e :: es) t) (hg : Gl X x := by rfl) (hdb : (x == ("__debug__" : Str)) = false := by decide)
    (he : starEach (e :: es) X.env = (false, eval e X.env) :: starEach es X.env := by rfl) (hpl : (backTo pos (starEach es X.env)).any (·.1) = false := by rfl) : PE X (.Call (.Name x p) (e :: es) [] pos) (tCalX sp dv W t) := by
  obtain ⟨f, fd, ok, hm, kp, ⟨ds, hv, hb⟩, _⟩ := c.ex
  have z := pe_callSD (E := fun σ cls d H' => W cls d σ H') ok hr hg hm kp hb hv (fun σ => passAt tkW σ) ha hdb he hpl (p := p)
  exact ⟨fun pins s σ H Q I h => z.run pins s σ H Q I h⟩
theorem pe_calXK (c : CalX X.prog X.w X.K X.mg X.base x y k ps dv sp) (tkW : Takes X W) (hr : Room k X.A) (ha : PA X (e :: es) t) (hkw : PK X kws tk1) (hg : Gl X x := by rfl) (hall : (backToKw pos (keywordEach kws X.env)).all (·.1.isSome) = true := by rfl) (hks : (backToKw pos (keywordEach kws X.env)).filterMap (·.1) = [y] := by rfl)
    (hdb : (x == ("__debug__" : Str)) = false := by decide) (he : starEach (e :: es) X.env = (false, eval e X.env) :: starEach es X.env := by rfl)
    (hpl : ((backTo pos (starEach (e :: es) X.env)).any (·.1) || (backToKw pos (keywordEach kws X.env)).any (·.1.isNone)) = false := by rfl) : PE X (.Call (.Name x p) (e :: es) kws pos) (tCalXK sp W t tk1) := by
  obtain ⟨f, fd, ok, hm, kp, _, hb⟩ := c.ex
  have z := pe_callNS (E := fun σ cls d H' => W cls d σ H') ok hr hg hm kp hb (fun σ => passAt tkW σ) ha hkw hall hks hdb he hpl (p := p)
  exact ⟨fun pins s σ H Q I h => z.run pins s σ H Q I h⟩
end
end Er
/-! zip of two tuples, walked; great products and quotients; xs[::-1]. -/
namespace Zx
open PySem PySem.Spec PyProof.Rows L2 Bx TL Dx
theorem walk_zipT {K : PySem.W.Frag} {a b : Addr} {xs ys : List V} {n : Nat} (hn : n = min xs.length ys.length) : Walk (RZ.ItzT K a b) n (fun H => SqT K H a xs ∧ SqT K H b ys) (YPair (fun i => xs[i]?) (fun i => ys[i]?)) := by
  subst hn
  refine ⟨fun i _ hi q => ?_, fun _ q => ⟨xs, ys, q.1, q.2, by omega⟩, fun i H v H' _ q y => ?_⟩
  · have h1 : i < xs.length := by omega
    have h2 : i < ys.length := by omega
    exact ⟨xs, ys, xs[i], ys[i], q.1, q.2, by simp [h1], by simp [h2]⟩
  · obtain ⟨T, x, z, h1, h2, h3, h4, h5⟩ := y
    exact ⟨T, x, z, h1, h2, h3, h4 xs q.1, h5 ys q.2⟩
end Zx
namespace Zx
open PySem PySem.Spec PyProof.Rows L2
theorem ne_t {p : Prop} [Decidable p] (h : (!decide p) = true) : ¬ p := by simpa using h
theorem ne_f {p : Prop} [Decidable p] (h : ¬ (!decide p) = true) : p := by simpa using h
theorem int_t {x y : Int} (h : decide (V.int x = V.int y) = true) : x = y := V.int.inj (of_decide_eq_true h)
theorem int_f {x y : Int} (h : ¬ decide (V.int x = V.int y) = true) : x ≠ y := fun e => h (decide_eq_true (congrArg V.int e))
theorem int_nt {x y : Int} (h : (!decide (V.int x = V.int y)) = true) : x ≠ y := fun e => ne_t h (congrArg V.int e)
theorem int_nf {x y : Int} (h : ¬ (!decide (V.int x = V.int y)) = true) : x = y := V.int.inj (ne_f h)
end Zx
namespace Zx
open PySem PySem.Spec PyProof.Rows L2 Bx
section
variable {K : PySem.W.Frag}
theorem ty_tup {H : Hp} {a : Addr} {xs : List V} (h : SqT K H a xs) : TyX K H (.ref a) (.type "tuple") := by
  rcases h with (h | ⟨o, h⟩) | h
  · exact .base (.tup h)
  · exact .fTuple h
  · obtain ⟨o, its, n, h1, h2, _⟩ := h
    exact .kTuple h1 h2
def spRight : Sp := fun vs H Q _ => ∃ a : Addr, vs = [.ref a] ∧ Src H a ∧ ∀ H', SameBut a H H' → Q (.bl true) H'
end
end Zx
namespace Zx
open PySem PySem.Spec PyProof.Rows L2 Bx
theorem cont_of {α : Type} {R X : α → Prop} {G : Prop} (first : (∀ a, R a → X a) → G) (rest : ∀ a, R a → X a) : G := first rest
theorem cont_of2 {α β : Type} {R X : α → β → Prop} {G : Prop} (first : (∀ a b, R a b → X a b) → G) (rest : ∀ a b, R a b → X a b) : G := first rest
theorem but_new {a : Addr} {H H3 : Hp} {p : Addr} {o : HO} (h : H p = none) (s : SameBut a (upd H p o) H3) : SameBut a H H3 := fun b x n e => s b x n (by rw [upd_ne (ne_of_none e h)]; exact e)
theorem but_at {a : Addr} {H H2 : Hp} {p : Addr} {o : HO} (h : H p = none) (s : SameBut a H H2) : SameBut a H (upd H2 p o) := fun b x n e => by
  rw [upd_ne (ne_of_none e h)]
  exact s b x n e
theorem src_same {a : Addr} {H1 H2 : Hp} (s : Src H1 a) (t : Same H1 H2) : Src H2 a := by
  obtain ⟨n, c, h⟩ := s
  exact ⟨n, c, t _ _ h⟩
theorem src_ne {a o : Addr} {H : Hp} (s : Src H a) (h : H o = none) : a ≠ o := by
  obtain ⟨n, c, z⟩ := s
  exact ne_of_none z h
theorem but_free {a o : Addr} {H H1 : Hp} (s : SameBut a H H1) (n : o ≠ a) (h : H1 o = none) : H o = none := by
  cases e : H o with
  | none => rfl
  | some x =>
    rw [s o x n e] at h
    cases h
theorem src_upd {a o : Addr} {H : Hp} {u : HO} (s : Src H a) (n : a ≠ o) : Src (upd H o u) a := by
  obtain ⟨x, c, h⟩ := s
  exact ⟨x, c, by rw [upd_ne n]; exact h⟩

end Zx
namespace Zx
open PySem PySem.Spec PyProof.Rows L2 Bx
theorem set_same {σ : L2.St} {i : Nat} {v : V} (h : σ[i]? = some (some v)) : σ.set i (some v) = σ := by
  obtain ⟨hi, e⟩ := List.getElem?_eq_some_iff.mp h
  rw [← e]
  exact List.set_getElem_self hi
/-- if c: name = e -/
theorem if_asg {c : Prop} [Decidable c] {te : TE} {i : Nat} {D : Ends} {σ : L2.St} {H : Hp} {old : V} (R : V → Hp → Prop) (hi : σ[i]? = some (some old))
    (h1 : c → ∀ Z : V → Hp → Prop, (∀ v H', R v H' → Z v H') → te σ H Z) (h2 : ¬ c → R old H) (rest : ∀ v H', R v H' → D.nx (σ.set i (some v)) H') : if c then tAsg te (gName i) D σ H else tNext D σ H := by
  split
  · rename_i h
    exact h1 h (fun v H' => D.nx (σ.set i (some v)) H') rest
  · rename_i h
    have := rest old H (h2 h)
    rw [set_same hi] at this
    exact this
/-- if c: name = e else: name = f -/
theorem if_asg2 {c : Prop} [Decidable c] {te tf : TE} {i : Nat} {D : Ends} {σ : L2.St} {H : Hp} (R : V → Hp → Prop)
    (h1 : c → ∀ Z : V → Hp → Prop, (∀ v H', R v H' → Z v H') → te σ H Z) (h2 : ¬ c → ∀ Z : V → Hp → Prop, (∀ v H', R v H' → Z v H') → tf σ H Z) (rest : ∀ v H', R v H' → D.nx (σ.set i (some v)) H') : if c then tAsg te (gName i) D σ H else tAsg tf (gName i) D σ H := by
  split
  · rename_i h
    exact h1 h (fun v H' => D.nx (σ.set i (some v)) H') rest
  · rename_i h
    exact h2 h (fun v H' => D.nx (σ.set i (some v)) H') rest
end Zx
/-! Own classes: methods that operators and built-ins call. -/
namespace Ow
open PySem PySem.Spec PyProof.Rows L2 Bx TL Dx Zx
/-- the class at C (or one above it) has the method m, a def that keeps sp -/
structure OwM (P : Program) (w : World) (K : PySem.W.Frag) (mg : Str → Option Value) (base : Heap) (CX : CXT) (C : Addr) (m : Str) (k : Nat) (ps : List Str) (sp : Sp) : Prop where
  ex : ∃ (f : Addr) (fd : FuncData), FnOk P w K mg base CX k f fd ps sp ∧ PySem.W.findIn K (.ref C) m = some (some (.ref f)) ∧ PySem.W.isFn K (.ref f) = true ∧ PySem.W.keepIn K (.ref f) = true ∧ Binds K fd ps []
section
variable {X : Cx} {pins : List (Addr × Obj)} {σ : L2.St} {H : Hp} {s : Shared} {C a dx : Addr} {fs : List (Str × V)}
/-- an instance as the library's operators see it -/
theorem inst_of (I : Inv X pins σ H s) (e : H a = some (.ins C dx fs)) : ∃ od, PySem.W.InstAt s.heap a (PySem.W.instObj C dx) C (some od) := by
  obtain ⟨mA, J, _⟩ := ins_get I.hok e
  obtain ⟨od, J2, _⟩ := J.look
  exact ⟨od, J2⟩
/-- a def is called, somewhere within -/
theorem call_at {CX : CXT} {k : Nat} {f : Addr} {fd : FuncData} {ps : List Str} {sp : Sp} {A1 : Around} {us : List Value} {vs : List V} {Q : VK} {E : XK} {E1 : Value → Shared → Prop} (sb : Sub X k A1) (ok : FnOk X.prog X.w X.K X.mg X.base CX k f fd ps sp) (b : Binds X.K fd ps [])
    (I : Inv X pins σ H s) (r : Vals vs us) (hsp : sp vs H Q E) (hx : ∀ e s', CX X.stack H s E e s' → E1 e s') : wpAny (model X.prog X.w) A1 (call (.ref f) us) (EP X pins σ Q) E1 s := by
  have z0 := I.env0
  have e0 : Env0 X.prog X.w X.K X.mg X.base A1 X.stack s H := ⟨by rw [sb.fr]; exact z0.frames, z0.mod, z0.bs, z0.bsz, z0.funs, z0.frf, z0.hok, z0.bare⟩
  have n1 := ok.len _ _ _ _ hsp
  have n2 : us.length = ps.length := by rw [← r.length]; exact n1
  have bb := b s us I.kIn (by rw [List.append_nil]; exact n2)
  rw [List.append_nil] at bb
  refine wpAny_call (codeAny_mono (ok.run A1 X.stack s H ⟨us, []⟩ us vs Q E sb.room e0 bb r hsp) fun res s' back => ?_)
  match res, back with
  | .error e, back => exact hx e s' back
  | .ok (.ret u), back => exact I.after back
  | .ok .next, back => exact back.elim
  | .ok .brk, back => exact back.elim
  | .ok .cont, back => exact back.elim
theorem sub_self {n : Nat} (hr : Room n X.A) : Sub X n X.A := ⟨hr, rfl⟩
/-- len(o) -/
def rLenO (C : Addr) (sp : Sp) : List V → Hp → VK → Prop := fun xs H Q => ∃ a dx fs, xs = [.ref a] ∧ H a = some (.ins C dx fs) ∧ sp [.ref a] H (fun v H' => ∃ n : Nat, v = .int (n : Int) ∧ n < 2 ^ 62 ∧ Q (.int (n : Int)) H') E0
theorem call_lenO {k : Nat} {ps : List Str} {sp : Sp} (c : OwM X.prog X.w X.K X.mg X.base CX0 C "__len__" k ps sp) (hr : Room (k + 1) X.A) : CallR X (.builtin "len") (rLenO C sp) := by
  intro pins s σ H xs us Q I r h
  obtain ⟨a, dx, fs, rfl, ha, hsp⟩ := h
  obtain ⟨f, fd, ok, hs, hf, _, hb⟩ := c.ex
  obtain ⟨od, J⟩ := inst_of I ha
  obtain ⟨m, hF⟩ := I.fr
  have r0 := r
  cases r with
  | cons r1 r2 =>
    cases r2
    cases r1
    refine PySem.W.len_K hF I.ok.mod.kin J hs hf ?_
    refine wpAny_mono (call_at ((sub_self hr).in1) ok hb I r0 hsp (fun e s' z => z.elim)) (fun u s' hu => ?_) (fun _ _ z => z)
    obtain ⟨v, H', I', rv, n, rfl, hn, hq⟩ := hu
    obtain ⟨t, rfl⟩ := rv
    exact ⟨⟨by omega, by omega⟩, .int n, H', I'.tok _, ⟨_, rfl⟩, hq⟩
/-- x in o, x not in o -/
def rInO (C : Addr) (sp : Sp) (neg : Bool) : V → V → Hp → VK → Prop := fun x y H Q => ∃ a dx fs, y = .ref a ∧ H a = some (.ins C dx fs) ∧ sp [.ref a, x] H (fun v H' => ∃ b : Bool, v = .bl b ∧ Q (.bl (b != neg)) H') E0
theorem truth_bl {M : Model} {A : Around} {E : Value → Shared → Prop} {s : Shared} {b : Bool} {Q : Bool → Shared → Prop} (h : Q b s) : wpAny M A (truthy (.bool b)) Q E s := by
  unfold truthy
  exact wpAny_pure h
theorem op_inO {k : Nat} {ps : List Str} {sp : Sp} (c : OwM X.prog X.w X.K X.mg X.base CX0 C "__contains__" k ps sp) (hr : Room k X.A) : OpR X (compareOp .In) (rInO C sp false) := by
  intro pins s σ H x y u v Q I rx ry h
  obtain ⟨a, dx, fs, rfl, ha, hsp⟩ := h
  obtain ⟨f, fd, ok, hs, hf, _, hb⟩ := c.ex
  obtain ⟨od, J⟩ := inst_of I ha
  obtain ⟨m, hF⟩ := I.fr
  cases ry
  refine PySem.W.in_K hF I.ok.mod.kin J hs hf ?_
  refine wpAny_mono (call_at (sub_self hr) ok hb I (vs := [.ref a, x]) (.cons rfl (.cons rx .nil)) hsp (fun e s' z => z.elim)) (fun u s' hu => ?_) (fun _ _ z => z)
  obtain ⟨v, H', I', rv, b, rfl, hq⟩ := hu
  cases rv
  refine truth_bl ⟨.bl b, H', I', rfl, ?_⟩
  rw [show (b != false) = b by cases b <;> rfl] at hq
  exact hq
theorem op_notInO {k : Nat} {ps : List Str} {sp : Sp} (c : OwM X.prog X.w X.K X.mg X.base CX0 C "__contains__" k ps sp) (hr : Room k X.A) : OpR X (compareOp .NotIn) (rInO C sp true) := by
  intro pins s σ H x y u v Q I rx ry h
  obtain ⟨a, dx, fs, rfl, ha, hsp⟩ := h
  obtain ⟨f, fd, ok, hs, hf, _, hb⟩ := c.ex
  obtain ⟨od, J⟩ := inst_of I ha
  obtain ⟨m, hF⟩ := I.fr
  cases ry
  refine PySem.W.notIn_K hF I.ok.mod.kin J hs hf ?_
  refine wpAny_mono (call_at (sub_self hr) ok hb I (vs := [.ref a, x]) (.cons rfl (.cons rx .nil)) hsp (fun e s' z => z.elim)) (fun u s' hu => ?_) (fun _ _ z => z)
  obtain ⟨v, H', I', rv, b, rfl, hq⟩ := hu
  cases rv
  refine truth_bl ⟨.bl (!b), H', I', rfl, ?_⟩
  rw [show (b != true) = !b by cases b <;> rfl] at hq
  exact hq
end
end Ow
/-! Own classes: o[i], o op x, loops over o. -/
namespace Ow
open PySem PySem.Spec PyProof.Rows L2 Bx TL Dx Zx ItX
/-! ### o[i] -/
section
variable {X : Cx} {C : Addr} {CXc : CXT} {k : Nat} {ps : List Str} {sp : Sp} {W : WX} {a b : Expr} {ta tb : TE} {pos : Pos}
def tSubO (C : Addr) (sp : Sp) (W : WX) (ta tb : TE) : TE := fun σ H Q => ta σ H fun x H1 => tb σ H1 fun y H2 => ∃ p dx fs, x = .ref p ∧ H2 p = some (.ins C dx fs) ∧ sp [.ref p, y] H2 Q (fun cls d H' => W cls d σ H')
theorem pe_subO (c : OwM X.prog X.w X.K X.mg X.base CXc C "__getitem__" k ps sp) (fi : ∀ f, PySem.W.findIn X.K (.ref C) "__getitem__" = some (some (.ref f)) → PySem.W.fnIn X.K f = true) (hr : Room (k + 1) X.A) (hx : ∀ σ, PassesAt CXc X σ (fun cls d H' => W cls d σ H')) (ha : PE X a ta) (hb : PE X b tb)
    (hs : ∀ v u, subscripted b true v u = runValue (.builtin "lifetime.subscript" ⟨[v, u], []⟩) := by intro _ _; rfl) : PE X (.Subscript a b pos) (tSubO C sp W ta tb) := by
  refine ⟨fun pins s σ H Q I h => ?_⟩
  refine Subscript_ (binT ha hb I (R := fun x y H2 => ∃ p dx fs, x = .ref p ∧ H2 p = some (.ins C dx fs) ∧ sp [.ref p, y] H2 Q (fun cls d H' => W cls d σ H')) h fun v u s2 x y H2 I2 rx ry q => ?_)
  obtain ⟨p, dx, fs, rfl, hp, hsp⟩ := q
  obtain ⟨f, fd, ok, hfi, hf, _, hbd⟩ := c.ex
  obtain ⟨od, J⟩ := inst_of I2 hp
  obtain ⟨m, hF⟩ := I2.fr
  cases rx
  refine PySem.W.sub_K hF I2.ok.mod.kin J hfi (fi f hfi) hf ?_ (hs _ _)
  exact call_at ((sub_self hr).in1) ok hbd I2 (vs := [.ref p, y]) (.cons rfl (.cons ry .nil)) hsp (fun e s' z => hx σ pins H2 s2 e s' I2 z)
end
/-! ### o op x, x of a built-in type -/
/-- what the written part says of an operator of C with a second operand of the built-in type T -/
structure BinF (K : PySem.W.Frag) (C : Addr) (op : Operator) (T : String) : Prop where
  first : PySem.W.selfFirst K C = true
  refl : ∃ rc, PySem.W.findIn K (.ref C) (dunderR op.info.2) = some rc ∧ (rc = none ∨ ∃ g : Addr, rc = some (.ref g))
  t1 : ∃ fo, PySem.W.findIn K (.type T) (PySem.dunder op.info.2) = some fo
  t2 : ∃ ro, PySem.W.findIn K (.type T) (dunderR op.info.2) = some ro
  sub : PySem.W.subIn K (.type T) (.ref C) = some false
/-- the type of a value, looked at -/
def LkT (M : Model) (h : Heap) (v : Value) (T : String) : Prop := PySem.W.Looks M h (typeOf v) (.type T)
theorem bin_looks {prog : Program} {w : World} {A : Around} {E : Value → Shared → Prop} {s : Shared} {K : PySem.W.Frag} {x C f : Addr} {ox : Obj} {od : Option Obj} {T : String} {op : Operator} {b : Value} {Q : Value → Shared → Prop}
    (X : K.In s.heap) (I : PySem.W.InstAt s.heap x ox C od) (B : BinF K C op T) (hb : LkT (model prog w) s.heap b T) (hs : PySem.W.findIn K (.ref C) (PySem.dunder op.info.2) = some (some (.ref f))) (hf : PySem.W.isFn K (.ref f) = true)
    (h : wpAny (model prog w) A (call (.ref f) [.ref x, b]) (PySem.W.CmpBack Q) E s) : wpAny (model prog w) A (binaryOp op (.ref x) b) Q E s := by
  obtain ⟨hc, ⟨rc, hrc, hrp⟩, ⟨fo, h1⟩, ⟨ro, h2⟩, hsub⟩ := B
  obtain ⟨cd, rest, hcd, hm⟩ := PySem.W.ksp_first hc
  cases hi : op.info with
  | mk sym nm =>
    rw [hi] at hs hrc h1 h2
    dsimp only at hs hrc h1 h2
    have called := PySem.W.ksp_try X I hs hf h
    have d1 : PySem.W.Looks (model prog w) s.heap (typeOf (.ref x)) (.ref C) := I.type
    have d3 : PySem.W.Looks (model prog w) s.heap (fillsNumberSlot (.ref C) nm) true := PySem.W.fills_K X hcd hm hs
    have d4 := PySem.W.ksp_fillsT (M := model prog w) X h1 h2
    have d5 : PySem.W.Looks (model prog w) s.heap (isSubtype (.type T) (.ref C)) false := PySem.W.looks_subIn X hsub
    have d6 : PySem.W.Looks (model prog w) s.heap (numberSlotInPython (.ref C) nm) true := PySem.W.ksp_inPy X hs hrc hrp
    have d7 : PySem.W.Looks (model prog w) s.heap (numberSlotInPython (.type T) nm) false := PySem.W.Looks.of_pure rfl
    have d8 : PySem.W.Looks (model prog w) s.heap (typeLookup (.type T) (dunderR nm)) ro := PySem.W.looks_findIn X h2
    unfold LkT at hb
    clear X I hs hf h
    obtain ⟨hp, g, dd, tt, os⟩ := s
    generalize ((fo.isSome && !isSeqSlot fo) || (ro.isSome && !isSeqSlot ro)) = right at d4
    have other : (Value.ref C == Value.type T) = false := by
      cases z : (Value.ref C == Value.type T) with
      | false => rfl
      | true => cases beq_iff_eq.mp z
    simp only [binaryOp, hi]
    refine wpAny_holding (wpAny_bind ?_)
    unfold binaryOp1
    refine wpAny_bind (d1.at (wpAny_bind ?_))
    refine hb.at (wpAny_bind (d3.at ?_))
    simp only [other, Bool.false_eq_true, if_false]
    cases right
    · ksp_lk
      refine wpAny_mono called (fun r s' z => ?_) fun _ _ e => e
      obtain ⟨v, rfl, z⟩ := z
      ksp_lk
      exact z
    · ksp_lk
      refine wpAny_mono called (fun r s' z => ?_) fun _ _ e => e
      obtain ⟨v, rfl, z⟩ := z
      ksp_lk
      exact z
end Ow
namespace Ow
open PySem PySem.Spec PyProof.Rows L2 Bx TL Dx Zx ItX
section
variable {X : Cx} {pins : List (Addr × Obj)} {σ : L2.St} {H : Hp} {s : Shared}
/-- the built-in types of second operands -/
inductive TyO (K : PySem.W.Frag) (H : Hp) : V → String → Prop
  | int (i : Int) : TyO K H (.int i) "int"
  | str (z : Str) : TyO K H (.str z) "str"
  | tup {p : Addr} {xs : List V} (h : SqT K H p xs) : TyO K H (.ref p) "tuple"
theorem lk_of {y : V} {v : Value} {T : String} (I : Inv X pins σ H s) (r : RelV y v) (t : TyO X.K H y T) : LkT (model X.prog X.w) s.heap v T := by
  cases t with
  | int i =>
    obtain ⟨u, rfl⟩ := r
    exact PySem.W.Looks.of_pure rfl
  | str z =>
    obtain ⟨u, rfl⟩ := r
    exact PySem.W.Looks.of_pure rfl
  | tup h =>
    cases r
    obtain ⟨its, rv, ht, _⟩ := I.tuple h
    obtain ⟨o, ho, hc, _⟩ := ht
    unfold LkT
    rw [← hc]
    exact (PySem.W.Looks.ld ho).andThen .now
theorem back_ep {Q : VK} {u : Value} {s' : Shared} (h : EP X pins σ Q u s') : PySem.W.CmpBack (EP X pins σ Q) u s' := by
  obtain ⟨v, H', I', r, q⟩ := h
  have h2 : EP X pins σ Q u s' := ⟨v, H', I', r, q⟩
  cases v with
  | non => cases r; exact h2
  | bl b => cases r; exact h2
  | int i => obtain ⟨t, rfl⟩ := r; exact h2
  | str z => obtain ⟨t, rfl⟩ := r; exact h2
  | byt b => obtain ⟨t, rfl⟩ := r; exact h2
  | flt b => obtain ⟨t, rfl⟩ := r; exact h2
  | ref a => cases r; exact h2
  | ty n => cases r; exact h2
end
section
variable {X : Cx} {C : Addr} {CXc : CXT} {k : Nat} {ps : List Str} {sp : Sp} {W : WX} {a b : Expr} {ta tb : TE} {pos : Pos} {op : Operator} {T m : String}
def tBinO (K : PySem.W.Frag) (C : Addr) (T : String) (sp : Sp) (W : WX) (ta tb : TE) : TE := fun σ H Q => ta σ H fun x H1 => tb σ H1 fun y H2 => ∃ p dx fs, x = .ref p ∧ H2 p = some (.ins C dx fs) ∧ TyO K H2 y T ∧ sp [.ref p, y] H2 Q (fun cls d H' => W cls d σ H')
theorem pe_binO (c : OwM X.prog X.w X.K X.mg X.base CXc C (PySem.dunder op.info.2) k ps sp) (B : BinF X.K C op T) (hr : Room k X.A) (hx : ∀ σ, PassesAt CXc X σ (fun cls d H' => W cls d σ H')) (ha : PE X a ta) (hb : PE X b tb) : PE X (.BinOp a op b pos) (tBinO X.K C T sp W ta tb) := by
  refine ⟨fun pins s σ H Q I h => ?_⟩
  refine wpAny_BinOp (binT ha hb I (R := fun x y H2 => ∃ p dx fs, x = .ref p ∧ H2 p = some (.ins C dx fs) ∧ TyO X.K H2 y T ∧ sp [.ref p, y] H2 Q (fun cls d H' => W cls d σ H')) h fun v u s2 x y H2 I2 rx ry q => ?_)
  obtain ⟨p, dx, fs, rfl, hp, ht, hsp⟩ := q
  obtain ⟨f, fd, ok, hfi, hf, _, hbd⟩ := c.ex
  obtain ⟨od, J⟩ := inst_of I2 hp
  cases rx
  refine bin_looks I2.kIn J B (lk_of I2 ry ht) hfi hf ?_
  refine wpAny_mono (call_at (sub_self hr) ok hbd I2 (vs := [.ref p, y]) (.cons rfl (.cons ry .nil)) hsp (fun e s' z => hx σ pins H2 s2 e s' I2 z)) (fun u s' z => back_ep z) fun _ _ z => z
end
/-! ### iter(t), t a tuple -/
def TiO (t it : Addr) : HO := .ext fun h => h.IsTupleIter it t 0
theorem tiO_ok {P : Program} {w : World} {H : Hp} {h : Heap} {t it : Addr} (e : h.IsTupleIter it t 0) : ObjOk P w H h it (TiO t it) := by
  obtain ⟨o, ho, hc, hd⟩ := id e
  exact ⟨e, ⟨o, ho⟩, fun h1 h2 z k => z.at fun o e => k _ e⟩
def rIterT (K : PySem.W.Frag) (n : Nat) : List V → Hp → VK → Prop := fun xs H Q => ∃ (t : Addr) (zs : List V), xs = [.ref t] ∧ SqT K H t zs ∧ ∀ it, H it = none → n ≤ it → Q (.ref it) (upd H it (TiO t it))
theorem call_iterT {X : Cx} : CallR X (.builtin "iter") (rIterT X.K X.s_0.heap.objs.size) := by
  intro pins s σ H xs us Q I r h
  obtain ⟨t, zs, rfl, hq, q⟩ := h
  cases r with
  | cons r1 r2 =>
    cases r2
    cases r1
    obtain ⟨its, rv, pl, hz⟩ := I.tuple hq
    refine Calls.call_function_entry (by decide +kernel) (by decide +kernel) PySem.W.kdk_entry_iter (PySem.W.kdk_args_iter _) ?_
    unfold Builtin.«iter»
    refine wpAny_bind (m := someArgs "iter" 1 2 _) (wpAny_of_eq (a := [Value.ref t]) (by first | rfl | kernel_rfl!) ?_)
    show wpAny _ _ (pyIter (.ref t) >>= _) _ _ _
    refine wpAny_bind (wpAny_pyIter_tuple pl ?_)
    refine wpAny_pure ⟨_, rfl, .ref s.heap.objs.size, _, I.laid (t' := s.toks) (fun b u e => Heap.get?_push_of_some _ e) (Nat.le_refl _) (tiO_ok ⟨_, Heap.get?_push_size _ rfl, rfl, rfl⟩), rfl, q _ (I.hok.fresh (Nat.le_refl _)) I.sz⟩
end Ow
namespace Ow
open PySem PySem.Spec PyProof.Rows L2 Bx TL Dx Zx ItX
/-- a def of the text, called at a state that one knows -/
theorem run_here {CX : CXT} {P : Program} {w : World} {K : PySem.W.Frag} {mg : Str → Option Value} {base : Heap} {k : Nat} {f : Addr} {nm qn : Str} {params : Arguments} {body : List Stmt} {scope : Scope} {dV kV doc pm cdv ct oc : Value} {an od : Option Addr} {osl : Array (Option Value)} {N ps : List Str}
    {A : Around} {outer : List Env} {s : Shared} {H : Hp} {args : Args} {us : List Value} {vs : List V} {Q : VK} {E : XK} (lk : K.lookup f = some ⟨oc, od, .func (PySem.W.fnOf nm qn params body scope dV kV doc pm an cdv ct), osl⟩) (cd : PySem.W.codeIn K cdv qn = true) (S : FnScope N ps scope) (room : Room (k + 1) A)
    (e0 : Env0 P w K mg base A outer s H) (hb : BindsTo s (PySem.W.fnOf nm qn params body scope dV kV doc pm an cdv ct) args (ps.zip us)) (rel : Vals vs us) (len : vs.length = ps.length)
    (reads : Room k (A.deeper (envOfC qn scope s.heap.objs.size f cdv)) → ∃ t, PSs (cxOf CX P w K mg base N qn scope f cdv A outer s H E) body t ∧ t { nx := fun _ H' => Q .non H', rt := Q } (start N vs) H) :
    codeAny (model P w) A (.call (.ref f) args) (CR CX outer P w H s Q E) s := by
  have kx : K.In s.heap := e0.mod.kin.keeps (fun p q z => (e0.bs p q z).1)
  have open_ : s.heap.NoLimit := e0.mod.nolimit.keeps (fun p q z => (e0.bs p q z).1)
  have kinds : ∀ y ∈ ps.zip us, scope.names.lookup y.1 = some .local ∨ (scope.names.lookup y.1 = some .cell ∧ ((cellsFrom (s.heap.objs.size + 1) scope.names []).lookup y.1).isSome = true) := by
    rintro ⟨one, val⟩ hy
    exact (S.par one (List.of_mem_zip hy).1).imp id (fun q => ⟨q, PySem.W.cellsFrom_some _ _ _ (.inl q)⟩)
  refine codeAny_call_function room.depth (kx _ _ lk) rfl S.co S.gen rfl (PySem.W.codeRec_of kx cd) ?_
  refine hb _ _ _ _ ?_
  refine wpAny_newFunctionEnv_cells S.kind kinds (fun env he s1 x => ?_)
  cases he
  refine ⟨open_.keeps x.toInCall.keep, codeAny_func ?_⟩
  obtain ⟨t, pt, ht⟩ := reads (room.deeper _)
  have J0 := inv_start (CX := CX) (E := E) S room.hd e0 len rel x
  refine wpAny_mono (pt.run [] s1 (start N vs) H _ J0 ht) ?_ (fun e s' z => z)
  intro fl s' back
  match fl, back with
  | .ret u, ⟨v, σ', H', J, rv, q⟩ => exact ⟨v, H', J.os, J.bare, J.base, J.hok, rv, q⟩
  | .next, ⟨σ', H', J, q⟩ => exact ⟨V.non, H', J.os, J.bare, J.base, J.hok, rfl, q⟩
  | .brk, ⟨_, _, _, q⟩ => exact q.elim
  | .cont, ⟨_, _, _, q⟩ => exact q.elim
/-! ### for x in o, where def __iter__(self): return iter(self.f) -/
structure ItM (P : Program) (w : World) (K : PySem.W.Frag) (mg : Str → Option Value) (base : Heap) (C : Addr) (f : Str) (k : Nat) : Prop where
  ex : ∃ fi : Addr, PySem.W.findIn K (.ref C) "__iter__" = some (some (.ref fi)) ∧ PySem.W.isFn K (.ref fi) = true ∧
    ∀ (A : Around) (outer : List Env) (s : Shared) (H : Hp) (E : XK) (p dx t : Addr) (fs : List (Str × V)) (zs : List V), Room k A → Env0 P w K mg base A outer s H → H p = some (.ins C dx fs) → fs.lookup f = some (.ref t) → SqT K H t zs →
      codeAny (model P w) A (.call (.ref fi) ⟨[.ref p], []⟩) (CR CX0 outer P w H s (fun v H' => ∃ it, v = .ref it ∧ H it = none ∧ s.heap.objs.size ≤ it ∧ H' = upd H it (TiO t it)) E) s
section
variable {X : Cx} {C : Addr}
def tIterO (K : PySem.W.Frag) (C : Addr) (f : Str) (te : TE) : TI := fun σ H R => te σ H fun x H1 => ∃ p dx fs t zs, x = .ref p ∧ H1 p = some (.ins C dx fs) ∧ fs.lookup f = some (.ref t) ∧ SqT K H1 t zs ∧ R (Itt K t) H1
theorem pi_iterO {tg l : Expr} {te : TE} {k : Nat} {f : Str} (c : ItM X.prog X.w X.K X.mg X.base C f k) (hr : Room k X.A) (he : PE X l te) : PI X tg l (tIterO X.K C f te) := by
  refine ⟨fun pins s σ H R I h => ?_⟩
  refine thn (he.run pins s σ H _ I h) fun v s1 ⟨x, H1, I1, r1, q1⟩ => ?_
  obtain ⟨p, dx, fs, t, zs, rfl, hp, hl, hz, hR⟩ := q1
  obtain ⟨fi, hfi, hf, go⟩ := c.ex
  obtain ⟨od, J⟩ := inst_of I1 hp
  obtain ⟨m, hF⟩ := I1.fr
  cases r1
  refine PySem.W.owit_iter hF I1.ok.mod.kin J hfi hf ?_
  refine wpAny_call (codeAny_mono (go X.A X.stack s1 H1 E0 p dx t fs zs hr I1.env0 hp hl hz) fun res s' back => ?_)
  match res, back with
  | .error e, back => exact back.elim
  | .ok .next, back => exact back.elim
  | .ok .brk, back => exact back.elim
  | .ok .cont, back => exact back.elim
  | .ok (.ret u), back =>
    obtain ⟨v, H2, I2, rv, it, rfl, n1, hy, rfl⟩ := I1.after back
    cases rv
    have e2 : upd H1 it (TiO t it) it = some (TiO t it) := upd_same
    have hit : s'.heap.IsTupleIter it t 0 := by
      have : ObjOk X.prog X.w (upd H1 it (TiO t it)) s'.heap it (.ext fun h => h.IsTupleIter it t 0) := I2.hok it _ e2
      exact this.1
    show wpAny _ _ (specialOf (.ref it) "__next__") _ _ _
    refine wpAny_specialOf (name := Str.ofString "__next__") hit.typeIs PySem.F.slot_tuple_iterator_next.lookup ?_
    have hn : X.s_0.heap.objs.size ≤ it := Nat.le_trans I1.sz hy
    have I3 := inv_drop I2 e2
    have fp := inv_fp I2 e2 hn
    rw [dropH_upd n1] at I3 fp
    refine ⟨it, [it], _, _, H1, rfl, I3, turn_tuple t it, hit, fun b hb => ?_, hR⟩
    rw [List.mem_singleton.mp hb]
    exact fp
end
end Ow
/-! Own classes: o + p of one class, k * o, -o; dict(t) of a tuple of pairs. -/
namespace Ow
open PySem PySem.Spec PyProof.Rows L2 Bx TL Dx Zx ItX
theorem bin_same {prog : Program} {w : World} {A : Around} {E : Value → Shared → Prop} {s : Shared} {K : PySem.W.Frag} {x y C f : Addr} {ox oy : Obj} {od oe : Option Obj} {op : Operator} {Q : Value → Shared → Prop}
    (X : K.In s.heap) (I : PySem.W.InstAt s.heap x ox C od) (J : PySem.W.InstAt s.heap y oy C oe) (first : PySem.W.selfFirst K C = true) (hs : PySem.W.findIn K (.ref C) (PySem.dunder op.info.2) = some (some (.ref f))) (hf : PySem.W.isFn K (.ref f) = true)
    (h : wpAny (model prog w) A (call (.ref f) [.ref x, .ref y]) (PySem.W.CmpBack Q) E s) : wpAny (model prog w) A (binaryOp op (.ref x) (.ref y)) Q E s := by
  obtain ⟨cd, rest, hcd, hm⟩ := PySem.W.ksp_first first
  cases hi : op.info with
  | mk sym nm =>
    rw [hi] at hs
    dsimp only at hs
    have called := PySem.W.ksp_try X I hs hf h
    have d1 : PySem.W.Looks (model prog w) s.heap (typeOf (.ref x)) (.ref C) := I.type
    have d2 : PySem.W.Looks (model prog w) s.heap (typeOf (.ref y)) (.ref C) := J.type
    have d3 : PySem.W.Looks (model prog w) s.heap (fillsNumberSlot (.ref C) nm) true := PySem.W.fills_K X hcd hm hs
    clear X I J hs hf h
    obtain ⟨hp, g, dd, tt, os⟩ := s
    have same : (Value.ref C == Value.ref C) = true := beq_self_eq_true _
    simp only [binaryOp, hi]
    refine wpAny_holding (wpAny_bind ?_)
    unfold binaryOp1
    refine wpAny_bind (d1.at (wpAny_bind ?_))
    refine d2.at (wpAny_bind (d3.at ?_))
    simp only [same, if_true]
    ksp_lk
    refine wpAny_mono called (fun r s' z => ?_) fun _ _ e => e
    obtain ⟨v, rfl, z⟩ := z
    ksp_lk
    exact z
section
variable {X : Cx} {C : Addr} {k : Nat} {ps : List Str} {sp : Sp} {op : Operator}
def rBinSame (C : Addr) (sp : Sp) : V → V → Hp → VK → Prop := fun x y H Q => ∃ p q dx dy fs gs, x = .ref p ∧ y = .ref q ∧ H p = some (.ins C dx fs) ∧ H q = some (.ins C dy gs) ∧ sp [.ref p, .ref q] H Q E0
theorem op_same (c : OwM X.prog X.w X.K X.mg X.base CX0 C (PySem.dunder op.info.2) k ps sp) (first : PySem.W.selfFirst X.K C = true) (hr : Room k X.A) : OpR X (binaryOp op) (rBinSame C sp) := by
  intro pins s σ H x y u v Q I rx ry h
  obtain ⟨p, q, dx, dy, fs, gs, rfl, rfl, hp, hq, hsp⟩ := h
  obtain ⟨f, fd, ok, hs, hf, _, hb⟩ := c.ex
  obtain ⟨od, J⟩ := inst_of I hp
  obtain ⟨oe, J2⟩ := inst_of I hq
  cases rx
  cases ry
  refine bin_same I.kIn J J2 first hs hf ?_
  refine wpAny_mono (call_at (sub_self hr) ok hb I (vs := [.ref p, .ref q]) (.cons rfl (.cons rfl .nil)) hsp (fun e s' z => z.elim)) (fun u s' z => back_ep z) fun _ _ z => z
/-- o op x -/
def rBinT (K : PySem.W.Frag) (C : Addr) (T : String) (sp : Sp) : V → V → Hp → VK → Prop := fun x y H Q => ∃ p dx fs, x = .ref p ∧ H p = some (.ins C dx fs) ∧ TyO K H y T ∧ sp [.ref p, y] H Q E0
theorem op_ownT {T : String} (c : OwM X.prog X.w X.K X.mg X.base CX0 C (PySem.dunder op.info.2) k ps sp) (B : BinF X.K C op T) (hr : Room k X.A) : OpR X (binaryOp op) (rBinT X.K C T sp) := by
  intro pins s σ H x y u v Q I rx ry h
  obtain ⟨p, dx, fs, rfl, hp, ht, hsp⟩ := h
  obtain ⟨f, fd, ok, hs, hf, _, hb⟩ := c.ex
  obtain ⟨od, J⟩ := inst_of I hp
  cases rx
  refine bin_looks I.kIn J B (lk_of I ry ht) hs hf ?_
  refine wpAny_mono (call_at (sub_self hr) ok hb I (vs := [.ref p, y]) (.cons rfl (.cons ry .nil)) hsp (fun e s' z => z.elim)) (fun u s' z => back_ep z) fun _ _ z => z
/-- -o -/
theorem un_negO (c : OwM X.prog X.w X.K X.mg X.base CX0 C "__neg__" k ps sp) (hr : Room k X.A) : UnR X (unaryOp .USub) (fun x H Q => ∃ p dx fs, x = .ref p ∧ H p = some (.ins C dx fs) ∧ sp [.ref p] H Q E0) := by
  intro pins s σ H x u Q I rx h
  obtain ⟨p, dx, fs, rfl, hp, hsp⟩ := h
  obtain ⟨f, fd, ok, hs, hf, _, hb⟩ := c.ex
  obtain ⟨od, J⟩ := inst_of I hp
  obtain ⟨m, hF⟩ := I.fr
  cases rx
  refine PySem.W.ksp_neg hF I.ok.mod.kin J hs hf ?_
  exact call_at (sub_self hr) ok hb I (vs := [.ref p]) (.cons rfl .nil) hsp (fun e s' z => z.elim)
/-- o[i] -/
theorem pe_subO0 {a b : Expr} {ta tb : TE} {pos : Pos} (c : OwM X.prog X.w X.K X.mg X.base CX0 C "__getitem__" k ps sp) (fi : ∀ f, PySem.W.findIn X.K (.ref C) "__getitem__" = some (some (.ref f)) → PySem.W.fnIn X.K f = true) (hr : Room (k + 1) X.A) (ha : PE X a ta) (hb : PE X b tb)
    (hs : ∀ v u, subscripted b true v u = runValue (.builtin "lifetime.subscript" ⟨[v, u], []⟩) := by intro _ _; rfl) : PE X (.Subscript a b pos) (tSubO C sp (fun _ _ _ _ => False) ta tb) :=
  pe_subO c fi hr (fun _ _ _ _ _ _ _ h => h.elim) ha hb hs
end
end Ow
/-! tuple(xs) without a dict of its own; dict(t) of such a tuple of pairs; k * o. -/
namespace Ow
open PySem PySem.Spec PyProof.Rows L2 Bx TL Dx Zx ItX
/-- a tuple without a dict of its own -/
def PlT (H : Hp) (a : Addr) (xs : List V) : Prop := ∃ o, H a = some (.frz o (.tup xs)) ∧ o.dict = none
theorem PlT.sq {K : PySem.W.Frag} {H : Hp} {a : Addr} {xs : List V} (h : PlT H a xs) : SqT K H a xs := .inl (.inr ⟨_, h.choose_spec.1⟩)
theorem PlT.same {H H' : Hp} {a : Addr} {xs : List V} (s : Same H H') (h : PlT H a xs) : PlT H' a xs := ⟨_, s _ _ h.choose_spec.1, h.choose_spec.2⟩
section
variable {X : Cx}
def rTupF (K : PySem.W.Frag) : List V → Hp → VK → Prop := fun xs H Q => ∃ p ys, xs = [.ref p] ∧ SqL K H p ys ∧ ∀ l o, H l = none → o.dict = none → Q (.ref l) (upd H l (.frz o (.tup ys)))
theorem call_tupleF : CallR X (.type "tuple") (rTupF X.K) := by
  intro pins s σ H xs us Q I r h
  obtain ⟨p, ys, rfl, hq, q⟩ := h
  obtain ⟨u, rfl, rx⟩ := vals1 r
  cases rx
  obtain ⟨its, r', pl, hz⟩ := I.list hq
  have hlen := r'.length
  refine call_tuple_list pl.isList (fun h' kp => ?_) (by simp only [List.size_toArray] <;> omega)
  have I1 : Inv X pins σ H { s with heap := h' } := I.kept (t' := s.toks) kp
  let o : Obj := { cls := .type "tuple", data := .seq its.toArray }
  have I2 : Inv X pins σ (upd H h'.objs.size (.frz o (.tup ys))) { s with heap := h'.push o } :=
    I1.laid (t' := s.toks) (fun b o e => Heap.get?_push_of_some _ e) (Nat.le_refl _) (show ObjOk X.prog X.w _ _ _ (.frz o (.tup ys)) from ⟨Heap.get?_push_size _ rfl, hz, its, r', IsTup.new _ _⟩)
  exact ⟨.ref h'.objs.size, _, I2, rfl, q _ o (I1.hok.fresh (Nat.le_refl _)) rfl⟩
def rDictT (K : PySem.W.Frag) : List V → Hp → VK → Prop := fun xs H Q => ∃ (a : Addr) (ps : List Addr) (kvs : List (Key × V)), xs = [.ref a] ∧ PlT H a (ps.map V.ref) ∧ Paired (fun p kv => SqT K H p [kV kv.1, kv.2]) ps kvs ∧
    ∀ p, H p = none → Q (.ref p) (upd H p (.dK (mergeK [] kvs)))
theorem call_dictT (hcalm : X.calm = true) : CallR X (.type "dict") (rDictT X.K) := by
  intro pins s σ H xs us Q I r q
  obtain ⟨a, ps, kvs, rfl, ⟨o, ha, hod⟩, hp, q⟩ := q
  obtain ⟨u, rfl, rx⟩ := vals1 r
  cases rx
  obtain ⟨hg, hz, its, rv, o2, ho2, hc, n, hdat⟩ : ObjOk X.prog X.w H s.heap a (.frz o (.tup (ps.map V.ref))) := I.hok a _ ha
  rw [hg] at ho2
  obtain rfl := Option.some.inj ho2
  have ei := refs_at rv
  subst ei
  obtain ⟨prs, rel, hl, hpr⟩ := pairs_of I hp
  rw [List.length_map] at hz
  have at_ : ∀ (j : Nat) (q : Key × Value), prs[j]? = some q → ∃ u : Value, IsTup s.heap (ps.getD j 0) #[u, q.2] ∧ ps[j]? = some (ps.getD j 0) ∧ keyIs q.1 u = true := fun j q e => by
    obtain ⟨b, u, e1, e2, e3⟩ := hpr j q e
    have e4 : ps.getD j 0 = b := by rw [List.getD_eq_getElem?_getD, e1]; rfl
    rw [e4]
    exact ⟨u, e2, e1, e3⟩
  classical
  let key : Nat → Value := fun j => match prs[j]? with
    | some q => (if h : ∃ u : Value, IsTup s.heap (ps.getD j 0) #[u, q.2] ∧ keyIs q.1 u = true then h.choose else .none)
    | none => .none
  have keyAt : ∀ (j : Nat) (q : Key × Value), prs[j]? = some q → IsTup s.heap (ps.getD j 0) #[key j, q.2] ∧ keyIs q.1 (key j) = true := fun j q e => by
    obtain ⟨u, h1, _, h3⟩ := at_ j q e
    have hh : ∃ u : Value, IsTup s.heap (ps.getD j 0) #[u, q.2] ∧ keyIs q.1 u = true := ⟨u, h1, h3⟩
    have ek : key j = hh.choose := by
      show (match prs[j]? with | some q => _ | none => _) = _
      rw [e]
      exact dif_pos hh
    rw [ek]
    exact hh.choose_spec
  let vps : List (Value × Value) := (List.range prs.length).map fun j => (key j, match prs[j]? with | some q => q.2 | none => .none)
  have vlen : vps.length = prs.length := by simp [vps]
  have vat : ∀ j k v, vps[j]? = some (k, v) → ∃ q : Key × Value, prs[j]? = some q ∧ k = key j ∧ v = q.2 := fun j k v e => by
    have hj : j < prs.length := by
      have := (List.getElem?_eq_some_iff.mp e).1
      omega
    have e1 : prs[j]? = some prs[j] := List.getElem?_eq_getElem hj
    refine ⟨prs[j], e1, ?_⟩
    have e2 : vps[j]? = some (key j, prs[j].2) := by
      simp only [vps, List.getElem?_map, List.getElem?_range hj, Option.map_some, e1]
    rw [e2] at e
    cases e
    exact ⟨rfl, rfl⟩
  have P := PySem.PairArg.tuple (prog := X.prog) (w := X.w) a (ps.map Value.ref).toArray (fun j => ps.getD j 0) vps
  refine PySem.call_dict_pairs (knd := mixKind X.prog X.w) (kvs := prs) P (I.ok.hd hcalm) ⟨⟨o, n, hg, hc, hod, hdat⟩, by rw [List.size_toArray, List.length_map, vlen, hl], fun j k v e => ?_⟩ ⟨vlen.symm, fun i k v e => ?_⟩ (by rw [vlen, hl]; exact hz) fun h' tk hd' kp => ?_
  · obtain ⟨q, e1, rfl, rfl⟩ := vat j k v e
    obtain ⟨u, _, e3, _⟩ := at_ j q e1
    refine ⟨?_, .inl (keyAt j q e1).1⟩
    rw [List.getElem?_toArray, List.getElem?_map, e3]
    rfl
  · obtain ⟨q, e1, rfl, rfl⟩ := vat i k v e
    exact ⟨q.1, e1, (keyAt i q e1).2⟩
  · have hm : (s.heap.objs.size == sysModules) = false := beq_eq_false_iff_ne.mpr (Nat.ne_of_gt I.big)
    have hlen : (mergeK [] kvs).length ≤ sizeLine := by
      refine Nat.le_trans (length_mergeK kvs []) ?_
      rw [List.length_nil, Nat.zero_add, rel.length, hl]
      exact hz
    exact ⟨.ref s.heap.objs.size, upd H s.heap.objs.size (.dK (mergeK [] kvs)), I.laid (t' := tk) (fun b o e => kp b o (fun h => nomatch h) e) (Nat.le_refl _) (show ObjOk X.prog X.w _ _ _ (.dK (mergeK [] kvs)) from ⟨hlen, hm, merged [] prs, KV.merge rel .nil, hd'⟩), rfl, q _ (I.hok.fresh (Nat.le_refl _))⟩
end
/-! ### k * o -/
theorem int_mul_ins (a : Int) (t : Tok) (l C dx : Addr) :
    Meets (Builtin.«int.__mul__» ⟨[.int a t, .ref l], []⟩) (fun _ R s => s.heap.get? l = some (PySem.W.instObj C dx) ∧ R (.ok (.ret Value.notImplemented)) s) :=
  .of_wp fun prog w A R s h => by obtain ⟨hp, g, d, tk, os⟩ := s; obtain ⟨hl, h⟩ := h; wp_walk; exact ⟨_, rfl, h⟩
theorem int_declines {prog : Program} {w : World} {A : Around} {E : Value → Shared → Prop} {s : Shared} {k : Int} {t : Tok} {x C dx : Addr} {Q : Value → Shared → Prop} (hg : s.heap.get? x = some (PySem.W.instObj C dx)) (q : Q .notImplemented s) :
    wpAny (model prog w) A (call (.builtin "int.__mul__") [.int k t, .ref x]) Q E s :=
  call_meets F.slot_int_mul (typeIs_int s k t) F.entry_int_mul (F.args_int_mul_2 _ _) (int_mul_ins k t x C dx) ⟨hg, q⟩
theorem try_declines {prog : Program} {w : World} {A : Around} {E : Value → Shared → Prop} {s : Shared} {k : Int} {t : Tok} {x C dx : Addr} {Q : Option Value → Shared → Prop} (hg : s.heap.get? x = some (PySem.W.instObj C dx)) (q : Q none s) :
    wpAny (model prog w) A (tryMethod (.int k t) (dunder "mul") (.ref x)) Q E s := by
  refine wpAny_tryMethod_declines (T := "int") (name := dunder "mul") (id := "int.__mul__") ?_ ?_ ?_
  · exact typeIs_int s k t
  · exact F.slot_int_mul
  exact int_declines hg ⟨rfl, q⟩
theorem bin_right {prog : Program} {w : World} {A : Around} {E : Value → Shared → Prop} {s : Shared} {K : PySem.W.Frag} {x C f dx : Addr} {od : Option Obj} {k : Int} {t : Tok} {Q : Value → Shared → Prop}
    (X : K.In s.heap) (I : PySem.W.InstAt s.heap x (PySem.W.instObj C dx) C od) (first : PySem.W.selfFirst K C = true) (hl : PySem.W.findIn K (.ref C) "__mul__" = some (some (.ref f))) (hs : ∃ g : Addr, PySem.W.findIn K (.ref C) "__rmul__" = some (some (.ref g)) ∧ PySem.W.isFn K (.ref g) = true ∧
      wpAny (model prog w) A (call (.ref g) [.ref x, .int k t]) (PySem.W.CmpBack Q) E s)
    (hsub : PySem.W.subIn K (.ref C) (.type "int") = some false) : wpAny (model prog w) A (binaryOp .Mult (.int k t) (.ref x)) Q E s := by
  obtain ⟨g, hr, hf, h⟩ := hs
  obtain ⟨cd, rest, hcd, hm⟩ := PySem.W.ksp_first first
  have hg : s.heap.get? x = some (PySem.W.instObj C dx) := by
    exact I.at_
  have called := PySem.W.ksp_try X I hr hf h
  have d1 : PySem.W.Looks (model prog w) s.heap (typeOf (.ref x)) (.ref C) := I.type
  have d3 : PySem.W.Looks (model prog w) s.heap (fillsNumberSlot (.ref C) "mul") true := PySem.W.fills_K X hcd hm hl
  have d5 : PySem.W.Looks (model prog w) s.heap (isSubtype (.ref C) (.type "int")) false := PySem.W.looks_subIn X hsub
  clear X I hl hr hf h
  simp only [binaryOp]
  refine wpAny_holding (wpAny_bind ?_)
  show wpAny _ _ (binaryOp1 "mul" _ _) _ _ _
  simp only [binaryOp1]
  refine wpAny_bind (wpAny_typeOf (typeIs_int s k t) (wpAny_bind (d1.at (wpAny_bind (wpAny_of_eq F.fills_int_mul ?_)))))
  have hne : (Value.type "int" == Value.ref C) = false := Bool.eq_false_iff.mpr fun q => by cases beq_iff_eq.mp q
  simp only [hne, Bool.false_eq_true, if_false]
  refine wpAny_bind (d3.at ?_)
  simp only [Bool.and_self, if_true]
  refine wpAny_bind (d5.at ?_)
  have hpy : numberSlotInPython (.type "int") "mul" = pure false := rfl
  simp only [Bool.false_eq_true, if_false, pure_bind, Bool.not_false, Bool.and_self, if_true, hpy]
  refine wpAny_bind (try_declines hg ?_)
  refine wpAny_bind (wpAny_mono called (fun r s' z => ?_) fun _ _ e => e)
  obtain ⟨v, rfl, z⟩ := z
  exact wpAny_bind (wpAny_rule (wpAny_pure (wpAny_pure z)))
section
variable {X : Cx} {C : Addr} {k : Nat} {ps : List Str} {sp : Sp}
/-- k * o -/
def rMulR (C : Addr) (sp : Sp) : V → V → Hp → VK → Prop := fun x y H Q => ∃ p dx fs n, x = .int n ∧ y = .ref p ∧ H p = some (.ins C dx fs) ∧ sp [.ref p, .int n] H Q E0
theorem op_mulR (c : OwM X.prog X.w X.K X.mg X.base CX0 C "__rmul__" k ps sp) (first : PySem.W.selfFirst X.K C = true) (hl : ∃ f : Addr, PySem.W.findIn X.K (.ref C) "__mul__" = some (some (.ref f))) (hsub : PySem.W.subIn X.K (.ref C) (.type "int") = some false) (hr : Room k X.A) : OpR X (binaryOp .Mult) (rMulR C sp) := by
  intro pins s σ H x y u v Q I rx ry h
  obtain ⟨p, dx, fs, n, rfl, rfl, hp, hsp⟩ := h
  obtain ⟨f, fd, ok, hs, hf, _, hb⟩ := c.ex
  obtain ⟨fl, hfl⟩ := hl
  obtain ⟨od, J⟩ := inst_of I hp
  obtain ⟨t, rfl⟩ := id rx
  cases ry
  refine bin_right I.kIn J first hfl ⟨f, hs, hf, ?_⟩ hsub
  refine wpAny_mono (call_at (sub_self hr) ok hb I (vs := [.ref p, .int n]) (.cons rfl (.cons rx .nil)) hsp (fun e s' z => z.elim)) (fun u s' z => back_ep z) fun _ _ z => z
end
end Ow
namespace Ow
open PySem PySem.Spec PyProof.Rows L2 Bx TL Dx Zx ItX
/-! ### calls with defaults, new instances, methods, by their promises -/
structure CalD (P : Program) (w : World) (K : PySem.W.Frag) (mg : Str → Option Value) (base : Heap) (x : Str) (k : Nat) (ps : List Str) (sp : Sp) (dvs : List V) : Prop where
  ex : ∃ (f : Addr) (fd : FuncData) (ds : List Value), FnOk P w K mg base CX0 k f fd ps sp ∧ mg x = some (.ref f) ∧ PySem.W.keepIn K (.ref f) = true ∧ Binds K fd ps ds ∧ Vals dvs ds
structure MakC (P : Program) (w : World) (K : PySem.W.Frag) (mg : Str → Option Value) (base : Heap) (x : Str) (C : Addr) (k : Nat) (ps : List Str) (sp : Sp) (dvs : List V) : Prop where
  ex : ∃ (f : Addr) (fd : FuncData) (ds : List Value), Mk K C f ∧ FnOk P w K mg base CX0 k f fd ps sp ∧ mg x = some (.ref C) ∧ Binds K fd ps ds ∧ Vals dvs ds
structure MthC (P : Program) (w : World) (K : PySem.W.Frag) (mg : Str → Option Value) (base : Heap) (C : Addr) (m : Str) (k : Nat) (ps : List Str) (sp : Sp) : Prop where
  ex : ∃ (f : Addr) (fd : FuncData), Cls K C ∧ Meth K C m f ∧ FnOk P w K mg base CX0 k f fd ps sp ∧ Binds K fd ps []
section
variable {X : Cx} {x : Str} {k : Nat} {ps : List Str} {sp : Sp} {e : Expr} {es : List Expr} {t : TA} {p pos : Pos} {dvs : List V} {C : Addr}
theorem pe_calD (c : CalD X.prog X.w X.K X.mg X.base x k ps sp dvs) (hr : Room k X.A) (ha : PA X (e :: es) t) (hg : Gl X x := by rfl) (hdb : (x == ("__debug__" : Str)) = false := by decide)
    (he : starEach (e :: es) X.env = (false, eval e X.env) :: starEach es X.env := by rfl) (hpl : (backTo pos (starEach es X.env)).any (·.1) = false := by rfl) : PE X (.Call (.Name x p) (e :: es) [] pos) (tCall sp dvs E0 t) := by
  obtain ⟨f, fd, ds, ok, g, kp, b, r⟩ := c.ex
  exact pe_call (E := E0) ok hr hg g kp b r pass0 ha hdb he hpl (p := p)
theorem pe_mak (c : MakC X.prog X.w X.K X.mg X.base x C k ps sp []) (hr : Room (k + 1) X.A) (ha : PA X (e :: es) t) (hg : Gl X x := by rfl) (hdb : (x == ("__debug__" : Str)) = false := by decide)
    (he : starEach (e :: es) X.env = (false, eval e X.env) :: starEach es X.env := by rfl) (hpl : (backTo pos (starEach es X.env)).any (·.1) = false := by rfl) : PE X (.Call (.Name x p) (e :: es) [] pos) (tMake C sp [] E0 t) := by
  obtain ⟨f, fd, ds, M, ok, g, b, r⟩ := c.ex
  exact pe_make (E := E0) M ok hr hg g b r pass0 ha hdb he hpl (p := p)
theorem pe_mak0 (c : MakC X.prog X.w X.K X.mg X.base x C k ps sp dvs) (hr : Room (k + 1) X.A) (hg : Gl X x := by rfl) (hdb : (x == ("__debug__" : Str)) = false := by decide) : PE X (.Call (.Name x p) [] [] pos) (tMake C sp dvs E0 tNil) := by
  obtain ⟨f, fd, ds, M, ok, g, b, r⟩ := c.ex
  exact pe_make0 (E := E0) M ok hr hg g b r pass0 hdb (p := p)
theorem pe_mth {m : Str} {o : Expr} {to : TE} {apos : Pos} {pl : Sem Bool} (c : MthC X.prog X.w X.K X.mg X.base C m k ps sp) (hr : Room k X.A) (ho : PE X o to) (ha : PA X (e :: es) t)
    (hst : starEach (e :: es) X.env = (false, eval e X.env) :: starEach es X.env := by rfl) (hpl : (backTo pos (starEach es X.env)).any (·.1) = false := by rfl)
    (ht : eval (.Call (.Attribute o m apos) (e :: es) [] pos) X.env = (do
      let ov ← eval o X.env
      standAt apos.atName
      let (f, first) ← holding [ov] (getMethod ov m pl)
      callWith pos f first (backTo pos (starEach (e :: es) X.env)) (backToKw pos (keywordEach [] X.env))) := by rfl) : PE X (.Call (.Attribute o m apos) (e :: es) [] pos) (tMeth C m sp [] E0 to t) := by
  obtain ⟨f, fd, cl, mt, ok, b⟩ := c.ex
  exact pe_meth (E := E0) ho cl mt ok hr b .nil pass0 ha hst hpl ht
end
/-! ### // by any divisor -/
def CDivZ (_ j : Int) : Prop := j ≠ 0 ∧ j.natAbs.log2 < 9000
theorem op_fdivZ {X : Cx} : OpR X (binaryOp .FloorDiv) (rI CDivZ fun i j => .int (i.fdiv j)) := opI fun i j _ _ _ _ _ hc q => floordiv_int hc.1 q (.inl (PyProof.noPylong_of_log2 hc.2))
theorem wide_divZ {i j : Int} {b : Nat} (h : j ≠ 0) (hb : j.natAbs < 2 ^ b) (h0 : 0 < b) (h9 : b ≤ 9000) : CDivZ i j := ⟨h, Nat.lt_of_lt_of_le (PySem.Flt.log2_lt_of h0 hb) h9⟩
end Ow
namespace T31
open PySem PySem.Spec PyProof.Rows L2 Bx TL Dx
/-! ### sums of terms -/
abbrev Tr5 := Str × Int
def N5 : List Str := ["a", "a1", "aa", "b", "b.c", "b0", "c9", "gate", "gate.x", "h", "h1", "h10", "h9", "m.x", "q7", "w", "w.b.c", "zz", "zz9"]
theorem n5_nodup : N5.Nodup := by decide +kernel
def In5 (ps : List Tr5) : Prop := ∀ x ∈ ps, x.1 ∈ N5
def coef (ps : List Tr5) (n : Str) : Int := ((ps.filter fun x => decide (x.1 = n)).map (·.2)).sum
def tms (ps : List Tr5) : List Tr5 := (N5.map fun n => (n, coef ps n)).filter fun x => decide (x.2 ≠ 0)
def lin (g : Str → Int) (ps : List Tr5) : Int := (ps.map fun x => g x.1 * x.2).sum
theorem coef_nil (n : Str) : coef [] n = 0 := rfl
theorem coef_cons (x : Tr5) (ps : List Tr5) (n : Str) : coef (x :: ps) n = (if x.1 = n then x.2 else 0) + coef ps n := by
  unfold coef
  rw [List.filter_cons]
  by_cases h : x.1 = n
  · rw [if_pos (decide_eq_true h), if_pos h]
    rfl
  · rw [if_neg (by simpa using h), if_neg h]
    omega
theorem coef_app (ps qs : List Tr5) (n : Str) : coef (ps ++ qs) n = coef ps n + coef qs n := by
  unfold coef
  rw [List.filter_append, List.map_append, List.sum_append]
theorem coef_one (x : Tr5) (n : Str) : coef [x] n = if x.1 = n then x.2 else 0 := by
  rw [coef_cons, coef_nil]
  omega
theorem coef_scale (c : Int) (ps : List Tr5) (n : Str) : coef (ps.map fun x => (x.1, c * x.2)) n = c * coef ps n := by
  induction ps with
  | nil => simp [coef_nil]
  | cons x ps ih =>
    rw [List.map_cons, coef_cons, coef_cons, ih, Int.mul_add]
    congr 1
    split
    · rfl
    · simp
theorem tms_congr {ps qs : List Tr5} (h : ∀ n ∈ N5, coef ps n = coef qs n) : tms ps = tms qs := by
  unfold tms
  congr 1
  exact List.map_congr_left fun n hn => by rw [h n hn]
theorem lin_nil (g : Str → Int) : lin g [] = 0 := rfl
theorem lin_cons (g : Str → Int) (x : Tr5) (ps : List Tr5) : lin g (x :: ps) = g x.1 * x.2 + lin g ps := by
  unfold lin
  rw [List.map_cons, List.sum_cons]
theorem lin_coef (ps : List Tr5) (n : Str) : coef ps n = lin (fun m => if m = n then 1 else 0) ps := by
  induction ps with
  | nil => rfl
  | cons x ps ih =>
    rw [coef_cons, lin_cons, ih]
    congr 1
    split
    · omega
    · omega
theorem lin_drop (g : Str → Int) : ∀ l : List Tr5, lin g (l.filter fun x => decide (x.2 ≠ 0)) = lin g l
  | [] => rfl
  | x :: l => by
    rw [List.filter_cons, lin_cons]
    by_cases h : x.2 = 0
    · rw [if_neg (by simpa using h), lin_drop g l, h]
      omega
    · rw [if_pos (by simpa using h), lin_cons, lin_drop g l]
theorem lin_tms (g : Str → Int) : ∀ {ps : List Tr5}, In5 ps → lin g (tms ps) = lin g ps := by
  intro ps h
  unfold tms
  rw [lin_drop]
  have add : ∀ (u v : Str → Int) (l : List Str), lin g (l.map fun n => (n, u n + v n)) = lin g (l.map fun n => (n, u n)) + lin g (l.map fun n => (n, v n)) := by
    intro u v l
    induction l with
    | nil => rfl
    | cons n l ih =>
      rw [List.map_cons, List.map_cons, List.map_cons, lin_cons, lin_cons, lin_cons, ih, Int.mul_add]
      dsimp only
      omega
  have zero : ∀ l : List Str, lin g (l.map fun n => (n, (0 : Int))) = 0 := by
    intro l
    induction l with
    | nil => rfl
    | cons n l ih =>
      rw [List.map_cons, lin_cons, ih]
      simp
  have one : ∀ (x : Tr5) (l : List Str), l.Nodup → lin g (l.map fun n => (n, if x.1 = n then x.2 else 0)) = if x.1 ∈ l then g x.1 * x.2 else 0 := by
    intro x l
    induction l with
    | nil => intro _; rfl
    | cons n l ih =>
      intro nd
      obtain ⟨h1, h2⟩ := List.nodup_cons.mp nd
      rw [List.map_cons, lin_cons, ih h2]
      dsimp only
      by_cases e : x.1 = n
      · rw [if_pos e, if_neg (by rw [e]; exact h1), if_pos (by rw [e]; exact List.mem_cons_self), e]
        omega
      · rw [if_neg e]
        have : (x.1 ∈ n :: l) ↔ x.1 ∈ l := by simp [e]
        simp only [this]
        omega
  induction ps with
  | nil => exact zero N5
  | cons x ps ih =>
    have hc : (N5.map fun n => (n, coef (x :: ps) n)) = N5.map fun n => (n, (if x.1 = n then x.2 else 0) + coef ps n) := List.map_congr_left fun n _ => by rw [coef_cons]
    rw [hc, add, ih fun y hy => h y (List.mem_cons_of_mem _ hy), one x N5 n5_nodup, if_pos (h x List.mem_cons_self), lin_cons]
theorem coef_tms {ps : List Tr5} (h : In5 ps) (n : Str) : coef (tms ps) n = coef ps n := by
  rw [lin_coef, lin_tms _ h, ← lin_coef]
theorem in5_tms (ps : List Tr5) : In5 (tms ps) := fun x hx => by
  obtain ⟨n, hn, rfl⟩ := List.mem_map.mp (List.mem_filter.mp hx).1
  exact hn
theorem in5_app {ps qs : List Tr5} (h : In5 ps) (k : In5 qs) : In5 (ps ++ qs) := fun x hx => (List.mem_append.mp hx).elim (h x) (k x)
theorem in5_scale {ps : List Tr5} (c : Int) (h : In5 ps) : In5 (ps.map fun x => (x.1, c * x.2)) := fun x hx => by
  obtain ⟨y, hy, rfl⟩ := List.mem_map.mp hx
  exact h y hy
theorem tms_len (ps : List Tr5) : (tms ps).length ≤ 19 := by
  unfold tms
  exact Nat.le_trans (List.length_filter_le _ _) (by rw [List.length_map]; decide)
theorem tms_mem {ps : List Tr5} {x : Tr5} (h : x ∈ tms ps) : x.2 = coef ps x.1 ∧ x.2 ≠ 0 := by
  obtain ⟨h1, h2⟩ := List.mem_filter.mp h
  obtain ⟨n, hn, rfl⟩ := List.mem_map.mp h1
  exact ⟨rfl, by simpa using h2⟩
/-- the sum of two -/
theorem tms_add {ps qs : List Tr5} (h : In5 ps) (k : In5 qs) : tms (tms ps ++ tms qs) = tms (ps ++ qs) := tms_congr fun n _ => by
  rw [coef_app, coef_app, coef_tms h, coef_tms k]
theorem tms_scale {ps : List Tr5} (c : Int) (h : In5 ps) : tms ((tms ps).map fun x => (x.1, c * x.2)) = tms (ps.map fun x => (x.1, c * x.2)) := tms_congr fun n _ => by
  rw [coef_scale, coef_scale, coef_tms h]
theorem lin_ren (g : Str → Int) (r : Str → Str) (ps : List Tr5) : lin g (ps.map fun x => (r x.1, x.2)) = lin (fun m => g (r m)) ps := by
  unfold lin
  rw [List.map_map]
  rfl
theorem tms_ren {ps : List Tr5} (r : Str → Str) (h : In5 ps) : tms ((tms ps).map fun x => (r x.1, x.2)) = tms (ps.map fun x => (r x.1, x.2)) := tms_congr fun n _ => by
  rw [lin_coef, lin_coef, lin_ren, lin_ren, lin_tms _ h]
theorem tms_nil : tms [] = [] := by decide +kernel
theorem tms_minus {ps : List Tr5} (h : In5 ps) : tms (ps ++ ps.map fun x => (x.1, -1 * x.2)) = [] := by
  rw [← tms_nil]
  refine tms_congr fun n _ => ?_
  rw [coef_app, coef_scale, coef_nil]
  omega
/-- names of the terms, in ascending order -/
theorem asc5 : Asc N5 := by
  have h : ∀ n ∈ N5, True := fun _ _ => trivial
  exact asc_of (by decide +kernel) n5_nodup
theorem tms_names (ps : List Tr5) : (tms ps).map (·.1) = N5.filter fun n => decide (coef ps n ≠ 0) := by
  unfold tms
  rw [List.filter_map, List.map_map]
  show List.map (fun n => n) _ = _
  rw [List.map_id']
  rfl
theorem asc_filter {l : List Str} (p : Str → Bool) (h : Asc l) : Asc (l.filter p) := List.Pairwise.sublist List.filter_sublist h
theorem tms_asc (ps : List Tr5) : Asc ((tms ps).map (·.1)) := by
  rw [tms_names]
  exact asc_filter _ asc5
/-- what the program's own sum comes to: over any ascending list that holds the names that occur -/
theorem tms_of {ps : List Tr5} {ys : List Str} (ha : Asc ys) (hm : ∀ n, n ∈ ys ↔ n ∈ ps.map (·.1)) (h : In5 ps) : (ys.map fun n => (n, coef ps n)).filter (fun x => decide (x.2 ≠ 0)) = tms ps := by
  have e : (ys.filter fun n => decide (coef ps n ≠ 0)) = N5.filter fun n => decide (coef ps n ≠ 0) := by
    refine asc_eq (asc_filter _ ha) (asc_filter _ asc5) fun n => ?_
    rw [List.mem_filter, List.mem_filter, hm]
    have key : coef ps n ≠ 0 → n ∈ ps.map (·.1) := fun z => by
      apply Classical.byContradiction
      intro hn
      apply z
      unfold coef
      have : (ps.filter fun x => decide (x.1 = n)) = [] := List.filter_eq_nil_iff.mpr fun x hx hd => hn (List.mem_map.mpr ⟨x, hx, of_decide_eq_true hd⟩)
      rw [this]
      rfl
    constructor
    · rintro ⟨a, b⟩
      obtain ⟨x, hx, rfl⟩ := List.mem_map.mp a
      exact ⟨h x hx, b⟩
    · rintro ⟨_, b⟩
      exact ⟨key (of_decide_eq_true b), b⟩
  unfold tms
  rw [List.filter_map, List.filter_map]
  exact congrArg _ e
/-- how great -/
theorem coef_size {B : Nat} : ∀ {ps : List Tr5}, (∀ x ∈ ps, x.2.natAbs ≤ B) → ∀ n, (coef ps n).natAbs ≤ ps.length * B
  | [], _, n => by simp [coef_nil]
  | x :: ps, h, n => by
    have h1 := coef_size (fun y hy => h y (List.mem_cons_of_mem _ hy)) n (ps := ps)
    have h2 := h x List.mem_cons_self
    rw [coef_cons, List.length_cons, Nat.succ_mul]
    split
    · omega
    · omega
end T31
/-! Calls that may raise, with a wish that knows the slots: C(..), o.m(..), f(..); C held by a local; list.count of texts. -/
namespace Px
open PySem PySem.Spec PyProof.Rows L2 Bx TL Dx Zx Ow
theorem passN {X : Cx} : Passes (L2.CX X.prog X.w) X E0 := fun _ _ _ _ _ _ _ ⟨_, _, _, _, _, _, _, _, _, _, _, _, z⟩ => z.elim
/-- `C(..)`, whose `__init__` may raise -/
structure MakX (P : Program) (w : World) (K : PySem.W.Frag) (mg : Str → Option Value) (base : Heap) (x : Str) (C : Addr) (k : Nat) (ps : List Str) (sp : Sp) : Prop where
  ex : ∃ (f : Addr) (fd : FuncData), Mk K C f ∧ FnOk P w K mg base (L2.CX P w) k f fd ps sp ∧ mg x = some (.ref C) ∧ Binds K fd ps []
structure MthX (P : Program) (w : World) (K : PySem.W.Frag) (mg : Str → Option Value) (base : Heap) (C : Addr) (m : Str) (k : Nat) (ps : List Str) (sp : Sp) : Prop where
  ex : ∃ (f : Addr) (fd : FuncData), Cls K C ∧ Meth K C m f ∧ FnOk P w K mg base (L2.CX P w) k f fd ps sp ∧ Binds K fd ps []
structure CalE (P : Program) (w : World) (K : PySem.W.Frag) (mg : Str → Option Value) (base : Heap) (x : Str) (k : Nat) (ps : List Str) (sp : Sp) : Prop where
  ex : ∃ (f : Addr) (fd : FuncData), FnOk P w K mg base (L2.CX P w) k f fd ps sp ∧ mg x = some (.ref f) ∧ PySem.W.keepIn K (.ref f) = true ∧ Binds K fd ps []
section
variable {X : Cx} {x : Str} {k : Nat} {ps : List Str} {sp : Sp} {e : Expr} {es : List Expr} {t : TA} {p pos : Pos} {C : Addr} {W : WX}
theorem run_makS {pins : List (Addr × Obj)} {σ : L2.St} {H : Hp} {s : Shared} {Q : VK} {E : XK} {us : List Value} {vs : List V} {f : Addr} {fd : FuncData} (M : Mk X.K C f) (F : FnOk X.prog X.w X.K X.mg X.base (L2.CX X.prog X.w) k f fd ps sp) (hr : Room (k + 1) X.A) (b : Binds X.K fd ps [])
    (hx : PassesAt (L2.CX X.prog X.w) X σ E) (I : Inv X pins σ H s) (rv : Vals vs us) (h : ∀ y dy, H y = none → H dy = none → dy ≠ y → sp (.ref y :: vs) (upd (upd H dy (.own y)) y (.ins C dy [])) (fun v G => v = .non ∧ Q (.ref y) G) E) :
    wpAny (model X.prog X.w) X.A (call (.ref C) us) (EP X pins σ Q) X.xe s := by
  have n1 := I.hok.fresh (Nat.le_refl s.heap.objs.size)
  have n2 := I.hok.fresh (Nat.le_succ s.heap.objs.size)
  have g := h _ _ n2 n1 (Nat.ne_of_lt (Nat.lt_succ_self s.heap.objs.size))
  have J := Inv.made (C := C) I
  have rs : Vals (V.ref (s.heap.objs.size + 1) :: vs) (Value.ref (s.heap.objs.size + 1) :: us) := .cons rfl rv
  have ln : (Value.ref (s.heap.objs.size + 1) :: us).length = ps.length := rs.length.symm.trans (F.len _ _ _ _ g)
  have bd := b _ (Value.ref (s.heap.objs.size + 1) :: us) J.kIn (by rw [List.append_nil]; exact ln)
  rw [List.append_nil] at bd
  refine wpAny_call (make_map (f := f) I.kIn M.makes M.init (beq_iff_eq.mp M.fn) (codeAny_mono (F.run _ X.stack _ _ _ _ _ _ E (hr.make C us []) (J.env0.make C us []) bd rs g) fun res s' back => ?_))
  match res, back with
  | .error er, back => exact hx pins _ _ er s' J back
  | .ok (.ret u), back =>
    obtain ⟨v, G, J2, r2, e2, q⟩ := J.after back
    subst e2
    exact ⟨r2, .ref (s.heap.objs.size + 1), G, J2, rfl, q⟩
  | .ok .next, back => exact back.elim
  | .ok .brk, back => exact back.elim
  | .ok .cont, back => exact back.elim
def tMakX (C : Addr) (sp : Sp) (W : WX) (t : TA) : TE := fun σ H Q => t σ H fun vs H1 => ∀ y dy, H1 y = none → H1 dy = none → dy ≠ y → sp (.ref y :: vs) (upd (upd H1 dy (.own y)) y (.ins C dy [])) (fun v G => v = .non ∧ Q (.ref y) G) (WE W σ)
theorem pe_makX (c : MakX X.prog X.w X.K X.mg X.base x C k ps sp) (tk : Takes X W) (hr : Room (k + 1) X.A) (ha : PA X (e :: es) t) (hg : Gl X x := by rfl) (hdb : (x == ("__debug__" : Str)) = false := by decide)
    (he : starEach (e :: es) X.env = (false, eval e X.env) :: starEach es X.env := by rfl) (hpl : (backTo pos (starEach es X.env)).any (·.1) = false := by rfl) : PE X (.Call (.Name x p) (e :: es) [] pos) (tMakX C sp W t) := by
  obtain ⟨f, fd, M, ok, g, b⟩ := c.ex
  refine ⟨fun pins s σ H Q I h => wpAny_Call_Name_kw (ld_glob I hg g ?_ hdb)⟩
  exact PySem.W.callWith_K (h₀ := X.base) I.ok.mod.kin M.kp (thn (ha.run pos pins s σ H _ I h) fun us s1 ⟨vs, H1, I1, rv, q⟩ => ⟨I1.kIn, run_makS M ok hr b (passAt tk σ) I1 rv q⟩) he hpl
theorem pe_makN (c : MakX X.prog X.w X.K X.mg X.base x C k ps sp) (hr : Room (k + 1) X.A) (ha : PA X (e :: es) t) (hg : Gl X x := by rfl) (hdb : (x == ("__debug__" : Str)) = false := by decide)
    (he : starEach (e :: es) X.env = (false, eval e X.env) :: starEach es X.env := by rfl) (hpl : (backTo pos (starEach es X.env)).any (·.1) = false := by rfl) : PE X (.Call (.Name x p) (e :: es) [] pos) (tMake C sp [] E0 t) := by
  obtain ⟨f, fd, M, ok, g, b⟩ := c.ex
  exact pe_make (E := E0) M ok hr hg g b .nil passN ha hdb he hpl (p := p)
/-- the class in a slot: `cls(..)` -/
def tMakL (i : Nat) (C : Addr) (sp : Sp) (t : TA) : TE := fun σ H Q => σ[i]? = some (some (.ref C)) ∧ tMake C sp [] E0 t σ H Q
theorem pe_makL {i : Nat} {y : Str} (c : MakX X.prog X.w X.K X.mg X.base x C k ps sp) (hr : Room (k + 1) X.A) (hN : X.N[i]? = some y) (hv : Vis X.env.scope y) (ha : PA X (e :: es) t) (hdb : (y == ("__debug__" : Str)) = false := by decide) (hcd : (y == ("__classdict__" : Str)) = false := by decide)
    (he : starEach (e :: es) X.env = (false, eval e X.env) :: starEach es X.env := by rfl) (hpl : (backTo pos (starEach es X.env)).any (·.1) = false := by rfl) : PE X (.Call (.Name y p) (e :: es) [] pos) (tMakL i C sp t) := by
  obtain ⟨f, fd, M, ok, g, b⟩ := c.ex
  refine ⟨fun pins s σ H Q I h => ?_⟩
  obtain ⟨h1, h2⟩ := h
  refine wpAny_Call_Name_kw (thn ((pe_var (pos := p) hN hv hdb hcd).run pins s σ H (fun v G => v = .ref C ∧ G = H) I ⟨.ref C, h1, rfl, rfl⟩) fun u s1 ⟨v, G, I1, r1, q1⟩ => ?_)
  obtain ⟨rfl, rfl⟩ := q1
  cases r1
  exact PySem.W.callWith_K (h₀ := X.base) I.ok.mod.kin M.kp (thn (ha.run pos pins s1 σ _ _ I1 h2) fun us s2 ⟨vs, H2, I2, rv, q⟩ => ⟨I2.kIn, run_make M ok hr b .nil passN I2 rv q⟩) he hpl
def tMthX (C : Addr) (m : Str) (sp : Sp) (W : WX) (ta : TE) (t : TA) : TE := fun σ H Q => ta σ H fun v H1 => ∃ a dx fs, v = .ref a ∧ H1 a = some (.ins C dx fs) ∧ fs.lookup m = none ∧ t σ H1 fun vs H2 => sp (v :: vs) H2 Q (WE W σ)
theorem pe_mthX {m : Str} {o : Expr} {to : TE} {apos : Pos} {pl : Sem Bool} (c : MthX X.prog X.w X.K X.mg X.base C m k ps sp) (tk : Takes X W) (hr : Room k X.A) (ho : PE X o to) (ha : PA X (e :: es) t)
    (hst : starEach (e :: es) X.env = (false, eval e X.env) :: starEach es X.env := by rfl) (hpl : (backTo pos (starEach es X.env)).any (·.1) = false := by rfl)
    (ht : eval (.Call (.Attribute o m apos) (e :: es) [] pos) X.env = (do
      let ov ← eval o X.env
      standAt apos.atName
      let (f, first) ← holding [ov] (getMethod ov m pl)
      callWith pos f first (backTo pos (starEach (e :: es) X.env)) (backToKw pos (keywordEach [] X.env))) := by rfl) : PE X (.Call (.Attribute o m apos) (e :: es) [] pos) (tMthX C m sp W to t) := by
  obtain ⟨f, fd, cl, mt, ok, b⟩ := c.ex
  refine ⟨fun pins s σ H Q I h => PySem.W.methodCall_KW (pl := pl) (thn (ho.run pins s σ H _ I h) fun u s1 ⟨v, H1, I1, rx, a, dx, fs, ev, ea, l, q⟩ => ?_) ht⟩
  subst ev
  cases rx
  refine getmeth_ok I1 ea cl mt l (PySem.W.callWith_K (first := [.ref a]) (h₀ := X.base) I.ok.mod.kin mt.kp (thn (ha.run pos pins s1 σ H1 _ I1 q) fun us s2 ⟨vs, H2, I2, rv, q2⟩ => ⟨I2.kIn, ?_⟩) hst hpl)
  exact run_fnS (E := fun σ => WE W σ) (us := .ref a :: us) (vs := .ref a :: vs) ok hr b (passAt tk σ) I2 (.cons rfl rv) q2
theorem pe_calE (c : CalE X.prog X.w X.K X.mg X.base x k ps sp) (tk : Takes X W) (hr : Room k X.A) (ha : PA X (e :: es) t) (hg : Gl X x := by rfl) (hdb : (x == ("__debug__" : Str)) = false := by decide)
    (he : starEach (e :: es) X.env = (false, eval e X.env) :: starEach es X.env := by rfl) (hpl : (backTo pos (starEach es X.env)).any (·.1) = false := by rfl) : PE X (.Call (.Name x p) (e :: es) [] pos) (tCallS sp (fun σ => WE W σ) t) := by
  obtain ⟨f, fd, ok, g, kp, b⟩ := c.ex
  exact pe_callS ok hr hg g kp b (fun σ => passAt tk σ) ha hdb he hpl (p := p)
end
/-! ### xs.count(x) of texts -/
section
variable {X : Cx}
def rCntS (K : PySem.W.Frag) : V → List V → Hp → VK → Prop := fun x xs H Q => ∃ (p : Addr) (ns : List Str) (z : Str), x = .ref p ∧ xs = [.str z] ∧ SqL K H p (ns.map V.str) ∧ Q (.int (ns.count z : Nat)) H
theorem plain_strs : ∀ ns : List Str, PyData.plainAll (ns.map PyData.str) = true
  | [] => rfl
  | n :: ns => by
    show (PyData.plain (PyData.str n) && PyData.plainAll (ns.map PyData.str)) = true
    rw [plain_strs ns]
    rfl
theorem depth_strs : ∀ ns : List Str, PyData.depthAll (ns.map PyData.str) ≤ 1
  | [] => Nat.zero_le 1
  | n :: ns => by
    show max (PyData.depth (PyData.str n)) (PyData.depthAll (ns.map PyData.str)) ≤ 1
    exact Nat.max_le.mpr ⟨by show 0 ≤ 1; omega, depth_strs ns⟩
theorem cnt_strs (z : Str) : ∀ ns : List Str, (ns.map PyData.str).countP (fun y => PyData.eqv y (.str z)) = ns.count z
  | [] => rfl
  | n :: ns => by
    rw [List.map_cons, List.countP_cons, List.count_cons, cnt_strs z ns]
    rfl
theorem mt_lcountS (hu : X.A.units + 65 < cLine) : MtR X "list.count" (rCntS X.K) := by
  intro pins s σ H x xs v us Q I rx rxs h
  obtain ⟨p, ns, z, rfl, rfl, hs, q⟩ := h
  cases rx
  obtain ⟨u, rfl, ru⟩ := rxs.one
  obtain ⟨t, rfl⟩ := ru
  obtain ⟨its, rv, pl, _⟩ := I.list hs
  obtain ⟨as, ra⟩ := Dp.readsAll I _ _ its (dp_strs ns) rv
  refine SeqAt.count_list_data pl.isList (by simpa using ra) (Reads.str z t) (plain_strs ns) rfl ?_ ?_
  · have := depth_strs ns
    have := Nat.min_le_left (PyData.depthAll (ns.map PyData.str)) (PyData.depth (.str z))
    omega
  · rw [cnt_strs]
    exact ⟨.int (ns.count z : Nat), H, I.tok _, ⟨s.toks, rfl⟩, q⟩
end
end Px
set_option maxHeartbeats 4000000
/-! t * k for any k from 0 on, t a tuple with items. -/
namespace Px
open PySem PySem.Spec PyProof.Rows L2 Bx TL Dx Zx Ow
theorem mul_one (l : Addr) (its : Array Value) (n : Nat) (dd : Option Addr) (sl : Array (Option Value)) (u : Tok) :
    Meets (Builtin.«tuple.__mul__» ⟨[.ref l, .int 1 u], []⟩) (fun _ R s => s.heap.get? l = some { cls := .type "tuple", dict := dd, data := .seq its n, slots := sl } ∧ R (.ok (.ret (.ref l))) s) :=
  .of_wp fun prog w A R s h => by
    obtain ⟨hp, g, d, tk, os⟩ := s
    obtain ⟨hl, h⟩ := h
    have f1 := AutoSeq1.idx_int
    have c1 : (its.isEmpty || (1 : Int) == 1) = true := by rw [show ((1 : Int) == 1) = true from rfl, Bool.or_true]
    wp_walk using wpAny_loadPart' hl
    repeat (first
      | (refine wpAny_ite_true (decide_eq_true c1) ?_; wp_walk using wpAny_loadPart' hl)
      | (refine wpAny_ite_false (by decide) ?_; wp_walk using wpAny_loadPart' hl))
    exact ⟨_, rfl, h⟩
theorem mul_nil (l : Addr) (its : Array Value) (n : Nat) (dd : Option Addr) (sl : Array (Option Value)) (u : Tok) (hi : its.isEmpty = false) :
    Meets (Builtin.«tuple.__mul__» ⟨[.ref l, .int 0 u], []⟩) (fun _ R s => s.heap.get? l = some { cls := .type "tuple", dict := dd, data := .seq its n, slots := sl } ∧
      R (.ok (.ret (Value.ref s.heap.objs.size))) { s with heap := s.heap.push { cls := Value.type "tuple", data := Data.seq #[] }, toks := s.toks }) :=
  .of_wp fun prog w A R s h => by
    obtain ⟨hp, g, d, tk, os⟩ := s
    obtain ⟨hl, h⟩ := h
    have f1 := AutoSeq1.idx_int
    have c1 : (its.isEmpty || (0 : Int) == 1) = false := by rw [hi]; rfl
    wp_walk using wpAny_loadPart' hl
    repeat (first
      | (refine wpAny_ite_false (decide_eq_false (by rw [c1]; exact Bool.false_ne_true)) ?_; wp_walk using wpAny_loadPart' hl)
      | (refine wpAny_ite_true (by decide) ?_; wp_walk using wpAny_loadPart' hl)
      | (refine wpAny_ite_false (by decide) ?_; wp_walk using wpAny_loadPart' hl))
    exact ⟨_, rfl, h⟩
def rRepA (K : PySem.W.Frag) : R2 := fun x y H Q => ∃ (l : Addr) (k : Nat) (xs : List V), x = .ref l ∧ y = .int (k : Int) ∧ SqT K H l xs ∧ xs ≠ [] ∧ k ≤ 1000 ∧ xs.length ≤ 1000 ∧ (k = 1 → Q (.ref l) H) ∧ (k ≠ 1 → ∀ p, H p = none → Q (.ref p) (upd H p (.tup (List.replicate k xs).flatten)))
theorem op_repA {X : Cx} : OpR X (binaryOp .Mult) (rRepA X.K) := by
  intro pins s σ H x y v u Q I rx ry h
  obtain ⟨l, k, xs, rfl, rfl, hT, hne, hk, hx, q1, q2⟩ := h
  by_cases h2 : 2 ≤ k
  · exact op_repT pins s σ H _ _ v u Q I rx ry ⟨l, (k : Int), xs, rfl, rfl, hT, hne, by omega, by omega, hx, fun p np => q2 (by omega) p np⟩
  · cases rx
    obtain ⟨t, rfl⟩ := ry
    obtain ⟨its, rv, ⟨⟨cls, dd, data, sl⟩, ho, hc, n, hd⟩, hsz⟩ := I.tuple hT
    simp only at hc hd
    subst hc hd
    have hi : its.toArray.isEmpty = false := by
      cases its with
      | nil =>
        cases rv
        exact absurd rfl hne
      | cons a b => rfl
    have hT2 : s.TypeIs (.ref l) "tuple" := ⟨_, ho, rfl⟩
    have go : ∀ {Z : Value → Shared → Prop} {D : Value → Shared → Prop}, wpAny (model X.prog X.w) X.A (call (.builtin "tuple.__mul__") [.ref l, .int (k : Int) t]) Z D s → wpAny (model X.prog X.w) X.A (binaryOp .Mult (.ref l) (.int (k : Int) t)) Z D s := fun {Z D} z =>
      wpAny_binaryOp_repeat_ref (T := "tuple") (U := "int") (by decide) hT2 (fun z => typeIs_int z (k : Int) t) noFill_tuple_mul F.fills_int_mul F.slot_int_rmul repeat_tuple F.slot_int_index.lookup
        (call_meets F.slot_int_rmul (typeIs_int s (k : Int) t) F.entry_int_rmul (F.args_int_rmul_2 _ _) (int_rmul_tuple (k : Int) t l its.toArray n dd sl) ⟨ho, rfl, hT2, z⟩)
    refine go ?_
    rcases (show k = 0 ∨ k = 1 by omega) with rfl | rfl
    · refine call_meets F.slot_tuple_mul hT2 F.entry_tuple_mul (F.args_tuple_mul_2 _ _) (mul_nil l its.toArray n dd sl t hi) ⟨ho, ?_⟩
      exact ⟨.ref s.heap.objs.size, _, I.laid (t' := s.toks) (o := .tup []) (fun b ob q => Heap.get?_push_of_some _ q) (Nat.le_refl _) ⟨Nat.zero_le _, [], .nil, IsTup.new _ _⟩, rfl, q2 (by omega) _ (I.hok.fresh (Nat.le_refl _))⟩
    · exact call_meets F.slot_tuple_mul hT2 F.entry_tuple_mul (F.args_tuple_mul_2 _ _) (mul_one l its.toArray n dd sl t) ⟨ho, .ref l, H, I, rfl, q1 rfl⟩
end Px
/-! try with several clauses, each of which names the error by the same name. -/
namespace Px
open PySem PySem.Spec PyProof.Rows L2 Bx TL Dx Zx Ow
abbrev Cl := Value × (Addr → Value → Option Addr → TS)
/-- the ends of a suite behind which slot i is taken away -/
def gone (i : Nat) (D : Ends) : Ends := { nx := fun σ H => D.nx (σ.set i none) H, rt := D.rt, bk := fun σ H => D.bk (σ.set i none) H, ct := fun σ H => D.ct (σ.set i none) H }
def wAsM (K : PySem.W.Frag) (i : Nat) (W0 : WX) (D : Ends) : List Cl → WX
  | [] => W0
  | c :: r => fun cls d σ H => ∃ b, PySem.W.exmOne K cls c.1 = some b ∧ (b = true → ∀ a, H a = none → c.2 a cls d (gone i D) (σ.set i (some (.ref a))) H) ∧ (b = false → wAsM K i W0 D r cls d σ H)
inductive HdA (X : Cx) (n : Str) : List ExceptHandler → List Cl → Prop
  | nil : HdA X n [] []
  | cons {x : Str} {c : Cl} {b0 : Stmt} {bs : List Stmt} {p1 p2 : Pos} {hs : List ExceptHandler} {l : List Cl} (nm : Names X x c.1)
      (su : ∀ (a : Addr) (o : Obj) (cls : Value) (d : Option Addr) (pn : List (Addr × Obj)), Zc cls d o → (∃ vs, o.data = .fields vs) → PSs (X.suite a ((a, o) :: pn)) (b0 :: bs) (c.2 a cls d)) (r : HdA X n hs l) :
      HdA X n (.ExceptHandler (some (.Name x p1)) (some n) (b0 :: bs) p2 :: hs) (c :: l)
section
variable {X : Cx} {n : Str} {i : Nat} {body : List Stmt} {h0 : ExceptHandler} {hs : List ExceptHandler} {l : List Cl} {pos : Pos} {tb : WX → TS} {W0 : WX}
theorem ps_tryA (hst : X.stack = X.env :: X.outer) (hfr : X.env.frame = some X.env.locals) (nd : X.N.Nodup) (hi : X.N[i]? = some n) (loc : X.env.kindOf n = some .local) (tk : Takes X W0)
    (hb : ∀ (W : WX) (pn : List (Addr × Obj)) (xe : Value → Shared → Prop), Takes (X.tr pn xe) W → PassesOwn (model X.prog X.w) X.A X.env xe → PSs (X.tr pn xe) body (tb W)) (hh : HdA X n (h0 :: hs) l) :
    PS X (.Try body (h0 :: hs) [] [] pos) (fun D σ H => tb (wAsM X.K i W0 D l) D σ H) := by
  refine ⟨fun pins s σ H D I h => wpAny_Try_except ?_⟩
  have ok := I.ok
  have fr2 : X.A.frames = some (X.env :: X.outer) := by rw [ok.frames, hst]
  refine wpAny_mono ((hb (wAsM X.K i W0 D l) (X.pn ++ pins) (fun e t1 => wpAny (model X.prog X.w) X.A (noteFrame e X.env) (fun _ t2 => wpAny (model X.prog X.w) X.A (setFlight e none) (fun _ t3 => wpAny (model X.prog X.w) X.A (handleBy e X.env (h0 :: hs)) (SP X pins D) X.xe t3) X.xe t2) X.xe t1)
    (fun er s' got => ?_) PassesOwn.looking).run [] s σ H D (I.toTry _) h) (fun fl s1 hsp => ?_) (fun er s1 he => he)
  · obtain ⟨a, B, sI, pins2, τ, G, cls, d, rfl, J0, nb, up, sky, na, os, ag, wish⟩ := got
    have J : Inv X pins τ G sI := J0.ofTry ok
    have sk2 : Sky B (X.env :: X.outer) a (Zc cls d) X.env.locals s'.heap := by rw [← hst]; exact sky
    show wpAny (model X.prog X.w) X.A (noteFrame (.ref a) X.env) _ _ _
    refine Sky.land Zc.steady fr2 hfr sk2 fun h3 fl3 up3 => ?_
    have J3 : Inv X pins τ G { s' with heap := h3 } := J.landed nb fl3.1 (up.trans up3) os ag
    obtain ⟨o3, v3, ho3, hz3, hd3⟩ := fl3.there
    have out : a ∉ frs (X.env :: X.outer) := fun hm => by
      obtain ⟨_, o2, ho2, no⟩ := fl3.2.2.1.mem hm
      rw [ho3] at ho2
      cases ho2
      exact no _ hd3
    have nL : a ≠ X.env.locals := fun z => out (List.mem_filterMap.mpr ⟨X.env, List.mem_cons_self, hfr.trans (congrArg some z.symm)⟩)
    have nF : a ∉ X.fs := fun hm => by
      obtain ⟨e, he, q⟩ := List.mem_filterMap.mp hm
      exact out (List.mem_filterMap.mpr ⟨e, List.mem_cons_of_mem _ he, q⟩)
    have S3 := J3.suite ho3 hd3 na nL nF
    have go : ∀ {hs2 : List ExceptHandler} {l2 : List Cl}, HdA X n hs2 l2 → wAsM X.K i W0 D l2 cls d τ G → wpAny (model X.prog X.w) X.A (handleBy (.ref a) X.env hs2) (SP X pins D) X.xe { s' with heap := h3 } := by
      intro hs2 l2 hk
      induction hk with
      | nil =>
        intro wish
        refine wpAny_handleBy_nil ?_
        obtain ⟨_, _, _, o4, v4, T, _, _, ho4, _, hd4, hT, _⟩ := id fl3
        unfold PySem.passOn
        refine wpAny_bind (wpAny_field ho4 hd4 hT ?_)
        rw [if_neg (show ¬ ((Value.ref T == Value.none) = true) from Bool.false_ne_true)]
        have last : wpAny (model X.prog X.w) X.A (setFlight (.ref a) X.env.frame) (fun _ t => wpAny (model X.prog X.w) X.A (throw (.ref a) : Sem Flow) (SP X pins D) X.xe t) X.xe { s' with heap := h3 } := by
          rw [hfr]
          refine HandSPX.setFlight_upZ fl3 fun h4 hh4 up4 => wpAny_throw (tk _ _ ⟨a, B, sI, pins, τ, G, cls, d, rfl, J, nb, (up.trans up3).trans up4, .inr (.inr ?_), na, os, ag, wish⟩)
          rw [hst]
          exact hh4
        first
          | exact wpAny_bind (wpAny_pure (wpAny_bind last))
          | exact wpAny_bind last
      | @cons x c b0 bs p1 p2 hs3 l3 nm su r ih =>
        intro wish
        obtain ⟨b, eb, yes, no⟩ := wish
        refine wpAny_handleBy_cons (codeAny_handlers_test ?_) (by intro q; cases q)
        have LT : PySem.W.Looks (model X.prog X.w) h3 (typeOf (.ref a)) cls := fun A Q E t k q => wpAny_typeOf_ref (k _ _ ho3) (by rw [hz3.1]; exact q)
        have LM := PySem.W.exm_one (M := model X.prog X.w) J3.kIn LT eb
        have look : ∀ {Q : Value → Shared → Prop} {E : Value → Shared → Prop}, Q c.1 { s' with heap := h3 } → wpAny (model X.prog X.w) (X.A.mark (some (.ref a))) (eval (.Name x p1) X.env) Q E { s' with heap := h3 } := fun {Q E} q => by
          obtain ⟨hg, hdb, hm | ⟨hm, hv, hnn⟩⟩ := nm
          · exact ld_glob (X := X.suite a ((a, o3) :: (X.pn ++ pins))) S3 hg hm q hdb
          · exact ld_blt (X := X.suite a ((a, o3) :: (X.pn ++ pins))) S3 hg hm hv q hnn hdb
        refine look (LM.here ?_)
        cases b with
        | false =>
          show wpAny _ X.A (handleBy (.ref a) X.env hs3) _ _ _
          exact ih (no rfl)
        | true =>
          refine codeAny_handlers_suite_as (HandSPX.lands_againZ fl3 fun h4 fl4 up4 => ?_)
          have J4 : Inv X pins τ G { s' with heap := h4 } := J.landed nb fl4.1 ((up.trans up3).trans up4) os ag
          obtain ⟨o4, v4, ho4, hz4, hd4⟩ := fl4.there
          refine store_ok (X := X.suite a ((a, o4) :: (X.pn ++ pins))) (v := .ref a) (J4.suite ho4 hd4 na nL nF) nd hi (.inl loc) rfl (fun s5 S5 => ?_) (.inr loc)
          refine wpAny_mono ((su a o4 cls d (X.pn ++ pins) hz4 ⟨_, hd4⟩).run [] s5 _ G _ S5 (yes rfl a na)) (fun fl s6 hsp => ?_) (fun _ _ z => False.elim z)
          have out6 : ∀ {ρ : L2.St} {H6 : Hp} {Q : Shared → Prop}, Inv (X.suite a ((a, o4) :: (X.pn ++ pins))) [] ρ H6 s6 → (∀ s7, Inv X pins (ρ.set i none) H6 s7 → Q s7) → wpAny (model X.prog X.w) X.A (do bindName X.env n .none; unbindBehindTheSuite X.env n p2) (fun _ s7 => Q s7) X.xe s6 :=
            fun S6 hq => gone_ok (S6.unsuite ok) nd hi loc hq
          match fl, hsp with
          | .next, ⟨ρ, H6, S6, q⟩ => exact out6 S6 fun s7 J7 => ⟨_, _, J7, q⟩
          | .brk, ⟨ρ, H6, S6, q⟩ => exact out6 S6 fun s7 J7 => ⟨_, _, J7, q⟩
          | .cont, ⟨ρ, H6, S6, q⟩ => exact out6 S6 fun s7 J7 => ⟨_, _, J7, q⟩
          | .ret u, ⟨v6, ρ, H6, S6, r6, q⟩ => exact out6 S6 fun s7 J7 => ⟨_, _, _, J7, r6, q⟩
    exact go hh wish
  · match fl, hsp with
    | .next, ⟨ρ, G, J, q⟩ => exact wpAny_execs_nil ⟨ρ, G, J.ofTry ok, q⟩
    | .brk, ⟨ρ, G, J, q⟩ => exact ⟨ρ, G, J.ofTry ok, q⟩
    | .cont, ⟨ρ, G, J, q⟩ => exact ⟨ρ, G, J.ofTry ok, q⟩
    | .ret u, ⟨v, ρ, G, J, rv, q⟩ => exact ⟨v, ρ, G, J.ofTry ok, rv, q⟩
end
end Px
/-! list(o), o of an own class with `__iter__` over a tuple and `__len__`. -/
namespace Px
open PySem PySem.Spec PyProof.Rows L2 Bx TL Dx Zx Ow
section
variable {X : Cx} {pins : List (Addr × Obj)} {σ : L2.St} {H : Hp} {s : Shared} {C p dx : Addr} {fs : List (Str × V)} {k : Nat} {ps : List Str} {sp : Sp} {A1 : Around} {E1 : Value → Shared → Prop}
theorem len_at {Q : Value → Shared → Prop} (sb : Sub X (k + 1) A1) (c : OwM X.prog X.w X.K X.mg X.base CX0 C "__len__" k ps sp) (I : Inv X pins σ H s) (ha : H p = some (.ins C dx fs)) (hsp : sp [.ref p] H (fun v G => G = H ∧ ∃ n : Nat, v = .int (n : Int) ∧ n ≤ 1000) E0)
    (q : ∀ (n : Nat) t s', n ≤ 1000 → Inv X pins σ H s' → Q (.int (n : Int) t) s') : wpAny (model X.prog X.w) A1 (call (.builtin "len") [.ref p]) Q E1 s := by
  obtain ⟨f, fd, ok, hs, hf, _, hb⟩ := c.ex
  obtain ⟨od, J⟩ := inst_of I ha
  obtain ⟨m, hF⟩ := I.fr
  refine PySem.W.len_K hF I.ok.mod.kin J hs hf ?_
  refine wpAny_mono (call_at sb.in1 ok hb I (vs := [.ref p]) (.cons rfl .nil) hsp (fun e s' z => z.elim)) (fun u s' hu => ?_) (fun _ _ z => z)
  obtain ⟨v, G, I', rv, rfl, n, rfl, hn⟩ := hu
  obtain ⟨t, rfl⟩ := rv
  exact ⟨⟨by omega, by omega⟩, q n _ _ hn (I'.tok _)⟩
theorem hint_own {Q : Bool → Shared → Prop} (sb : Sub X (k + 1) A1) (c : OwM X.prog X.w X.K X.mg X.base CX0 C "__len__" k ps sp) (I : Inv X pins σ H s) (ha : H p = some (.ins C dx fs)) (hsp : sp [.ref p] H (fun v G => G = H ∧ ∃ n : Nat, v = .int (n : Int) ∧ n ≤ 1000) E0)
    (q : ∀ b s', Inv X pins σ H s' → Q b s') : wpAny (model X.prog X.w) A1 (Builtin.List.listLengthHint (.ref p)) Q E1 s := by
  obtain ⟨f, fd, ok, hs, hf, _, hb⟩ := id c.ex
  obtain ⟨od, J⟩ := inst_of I ha
  unfold Builtin.List.listLengthHint
  refine wpAny_bind (wpAny_bind (J.type.here ((PySem.W.looks_findIn I.kIn hs).here ?_)))
  refine PySem.W.KFB.if_not rfl ?_
  show wpAny _ _ (rule _ >>= _) _ _ _
  refine wpAny_bind (wpAny_rule ?_)
  refine wpAny_bind (wpAny_attempt (len_at sb c I ha hsp fun n t s' hn I' => ?_))
  show wpAny _ _ (asInt? (Value.int (n : Int) t) >>= _) _ _ _
  refine wpAny_bind (wpAny_pure ?_)
  refine PySem.W.KFB.if_not ?_ (wpAny_pure (q _ s' I'))
  show decide ((n : Int).toNat > sizeLine) = false
  rw [sizeLine_eq]
  exact decide_eq_false (by omega)
/-- the iterator of o, where `__iter__` gives iter(self.f) -/
theorem iter_at {f : Str} {t : Addr} {zs : List V} {Q : Value → Shared → Prop} (sb : Sub X k A1) (c : ItM X.prog X.w X.K X.mg X.base C f k) (I : Inv X pins σ H s) (ha : H p = some (.ins C dx fs)) (hl : fs.lookup f = some (.ref t)) (hz : SqT X.K H t zs)
    (q : ∀ it s', Inv X pins σ H s' → s'.heap.IsTupleIter it t 0 → FpOk X pins H it → Q (.ref it) s') : wpAny (model X.prog X.w) A1 (pyIter (.ref p)) Q E1 s := by
  obtain ⟨fi, hfi, hf, go⟩ := c.ex
  obtain ⟨od, J⟩ := inst_of I ha
  obtain ⟨m, hF⟩ := I.fr
  refine PySem.W.owit_iter hF I.ok.mod.kin J hfi hf ?_
  have z0 := I.env0
  have e0 : Env0 X.prog X.w X.K X.mg X.base A1 X.stack s H := ⟨by rw [sb.fr]; exact z0.frames, z0.mod, z0.bs, z0.bsz, z0.funs, z0.frf, z0.hok, z0.bare⟩
  refine wpAny_call (codeAny_mono (go A1 X.stack s H E0 p dx t fs zs sb.room e0 ha hl hz) fun res s' back => ?_)
  match res, back with
  | .error e, back => exact back.elim
  | .ok .next, back => exact back.elim
  | .ok .brk, back => exact back.elim
  | .ok .cont, back => exact back.elim
  | .ok (.ret u), back =>
    obtain ⟨v, G, I2, rv, it, rfl, n1, hy, rfl⟩ := I.after back
    cases rv
    have e2 : upd H it (TiO t it) it = some (TiO t it) := upd_same
    have hit : s'.heap.IsTupleIter it t 0 := by
      have : ObjOk X.prog X.w (upd H it (TiO t it)) s'.heap it (.ext fun h => h.IsTupleIter it t 0) := I2.hok it _ e2
      exact this.1
    show wpAny _ _ (specialOf (.ref it) "__next__") _ _ _
    refine wpAny_specialOf (name := Str.ofString "__next__") hit.typeIs PySem.F.slot_tuple_iterator_next.lookup ?_
    have I3 := ItX.inv_drop I2 e2
    have fp := ItX.inv_fp I2 e2 (Nat.le_trans I.sz hy)
    rw [ItX.dropH_upd n1] at I3 fp
    exact q it s' I3 hit fp
theorem ext_loop {L it t : Addr} {zs : List V} {Rs : Result → Shared → Prop} (hc : X.calm = true) (hL : H L = some (.lst [])) (hz : SqT X.K H t zs) (hzl : zs.length ≤ 1000) (fp : FpOk X pins H it)
    (done : ∀ s', Inv X pins σ (upd H L (.lst zs)) s' → Rs (.ok (.ret .none)) s') :
    ∀ (m i : Nat) (s : Shared), zs.length - i = m → i ≤ zs.length → Inv X pins σ (upd H L (.lst (zs.take i))) s → s.heap.IsTupleIter it t i → codeAny (model X.prog X.w) X.A.in1 (.builtin "list.extend.loop" ⟨[.ref L, .ref it, .none], []⟩) Rs s := by
  have hzi : ∀ ys, SqT X.K (upd H L (.lst ys)) t zs := fun ys => by
    rcases hz with (h | ⟨u, h⟩) | h
    · exact .inl (.inl (by rw [upd_ne fun z => by rw [z, hL] at h; cases h]; exact h))
    · exact .inl (.inr ⟨u, by rw [upd_ne fun z => by rw [z, hL] at h; cases h]; exact h⟩)
    · exact .inr h
  have hit : it ≠ L := fun z => by
    have := fp.1
    rw [z, hL] at this
    cases this
  have fpi : ∀ ys, FpOk X pins (upd H L (.lst ys)) it := fun ys => ⟨by rw [upd_ne hit]; exact fp.1, fp.2⟩
  intro m
  induction m with
  | zero =>
    intro i s hm hi I st
    have e : i = zs.length := by omega
    subst e
    obtain ⟨its, rv, pt, _⟩ := I.tuple (hzi _)
    obtain ⟨f0, f1, f2, f3, f4, f5⟩ := fpi (zs.take zs.length)
    have hl := rv.length
    refine codeAny_builtin PySem.F.entry_extend_loop ?_
    rw [Around.under_plainId PySem.F.plain_extend_loop _]
    show wpAny _ X.A.in1.in1 (pyNext (.ref it) >>= _) _ _ s
    refine wpAny_bind (wpAny_pyNext_tuple_end (I.ok.hd hc) st (show s.heap.IsTuple t its.toArray from pt) (by simp; omega) fun h' eb => ?_)
    have I1 : Inv X pins σ (upd H L (.lst (zs.take zs.length))) { s with heap := h' } := I.turned (t' := s.toks) (fun b o hb e => eb b o hb e) f0 f1 f3 f4 f5
    rw [List.take_length] at I1
    exact wpAny_pure (done _ I1)
  | succ m ih =>
    intro i s hm hi I st
    have hlt : i < zs.length := by omega
    obtain ⟨its, rv, pt, _⟩ := I.tuple (hzi _)
    obtain ⟨u, hu, ru⟩ := rv.get (List.getElem?_eq_getElem hlt)
    obtain ⟨f0, f1, f2, f3, f4, f5⟩ := fpi (zs.take i)
    refine codeAny_builtin PySem.F.entry_extend_loop ?_
    rw [Around.under_plainId PySem.F.plain_extend_loop _]
    show wpAny _ X.A.in1.in1 (pyNext (.ref it) >>= _) _ _ s
    refine wpAny_bind (wpAny_pyNext_tuple_item st (show s.heap.IsTuple t its.toArray from pt) (x := u) (by simpa using hu) fun h' st' sb => ?_)
    have I1 : Inv X pins σ (upd H L (.lst (zs.take i))) { s with heap := h' } := I.turned (t' := s.toks) (fun b o hb e => (sb.2 b hb).trans e) f0 f1 f3 f4 f5
    obtain ⟨z, js, c, rj, hjl, ej⟩ := I1.lstM upd_same
    have tl : (zs.take i).length = i := by rw [List.length_take]; omega
    have jl : js.length = i := by rw [← rj.length, tl]
    show wpAny _ X.A.in1.in1 (updateSeq L (·.push u) >>= _) _ _ _
    have I2 := I1.lset (f := (·.push u)) (its := js) (its' := js ++ [u]) (ys := zs.take (i + 1)) (t' := s.toks) upd_same ej (by simp) (by rw [List.take_add_one, List.getElem?_eq_getElem hlt]; exact rj.append (.cons ru .nil)) (by rw [List.length_take, sizeLine_eq]; omega)
    rw [upd_upd] at I2
    refine wpAny_bind (wpAny_updateSeq ej rfl (wpAny_pure ⟨plainId_quiet PySem.F.plain_extend_loop _, ih (i + 1) _ (by omega) hlt I2 ?_⟩) (by rw [List.size_toArray, jl, sizeLine_eq]; omega) (by show (js.toArray.push u).size ≤ sizeLine + 1; rw [Array.size_push, List.size_toArray, jl, sizeLine_eq]; omega))
    exact st'.at fun o e => (Heap.get?_update_other _ _ (Ne.symm hit)).trans e
def rListO (K : PySem.W.Frag) (C : Addr) (f : Str) (sp : Sp) : List V → Hp → VK → Prop := fun xs H Q => ∃ (p dx t : Addr) (fs : List (Str × V)) (zs : List V), xs = [.ref p] ∧ H p = some (.ins C dx fs) ∧ fs.lookup f = some (.ref t) ∧ SqT K H t zs ∧ zs.length ≤ 1000 ∧
  (∀ G, (∀ b o, H b = some o → G b = some o) → sp [.ref p] G (fun v G' => G' = G ∧ ∃ n : Nat, v = .int (n : Int) ∧ n ≤ 1000) E0) ∧ ∀ q, H q = none → Q (.ref q) (upd H q (.lst zs))
theorem call_listO {f : Str} (hc : X.calm = true) (ci : ItM X.prog X.w X.K X.mg X.base C f k) (cl : OwM X.prog X.w X.K X.mg X.base CX0 C "__len__" k ps sp) (hr : Room (k + 3) X.A) : CallR X (.type "list") (rListO X.K C f sp) := by
  intro pins s σ H xs us Q I rv h
  obtain ⟨p, dx, t, fs, zs, rfl, hp, hl, hz, hzl, hsp, q⟩ := h
  obtain ⟨u, rfl, ru⟩ := rv.one
  cases ru
  have sb : Sub X (k + 1) X.A.in1.in1 := Sub.in1 (Sub.in1 (sub_self hr))
  refine callType_codes (Q₁ := fun obj s1 => obj = .ref s.heap.objs.size ∧ s1 = { s with heap := s.heap.push { cls := .type "list", data := .seq #[] } }) PySem.F.called_list (PySem.F.typeCall_list_1 _) PySem.F.entry_list_init (code_list_new _ ⟨rfl, rfl⟩) fun obj s1 h1 => ?_
  obtain ⟨rfl, rfl⟩ := h1
  have hS : (s.heap.push { cls := .type "list", data := .seq #[] }).get? s.heap.objs.size = some { cls := .type "list", data := .seq #[] } := Heap.get?_push_size _ rfl
  refine ⟨⟨_, hS, rfl⟩, PySem.F.args_list_init_2 _ _, ?_⟩
  have fr : H s.heap.objs.size = none := I.hok.fresh (Nat.le_refl _)
  have I1 : Inv X pins σ (upd H s.heap.objs.size (.lst [])) { s with heap := s.heap.push { cls := .type "list", data := .seq #[] } } := I.lnew (its := []) (t' := s.toks) .nil (Nat.zero_le _)
  have q2 := q _ fr
  have sm : Same H (upd H s.heap.objs.size (.lst [])) := same_new fr
  generalize hLd : s.heap.objs.size = L at hS fr I1 q2 sm ⊢
  show wpAny _ _ (do let old ← Builtin.List.listItems (.ref L); Builtin.List.listUpdate (.ref L) (fun _ => #[]); letGo old.toList.reverse; Builtin.List.listExtendWith (.ref L) (.ref p) .none) _ _ _
  refine wpAny_bind ?_
  unfold Builtin.List.listItems
  refine wpAny_bind (wpAny_seqItems hS rfl (wpAny_pure ?_))
  show wpAny _ _ (updateSeq L (fun _ => #[]) >>= fun _ => letGo (#[] : Array Value).toList.reverse >>= fun _ => Builtin.List.listExtendWith (.ref L) (.ref p) .none) _ _ _
  refine wpAny_bind (wpAny_updateSeq hS rfl ?_)
  have I2 := I1.lset (f := fun _ => #[]) (its := []) (its' := []) (ys := []) (t' := s.toks) upd_same hS rfl .nil (Nat.zero_le _)
  rw [upd_upd] at I2
  refine wpAny_bind (wpAny_letGo ?_)
  have hp2 := sm _ _ hp
  have hz2 := Bx.Same.tup sm hz
  have hsp2 := hsp _ sm
  have hL2 : upd H L (.lst []) L = some (.lst []) := upd_same
  have hne : L ≠ p := fun z => by rw [← z, fr] at hp; cases hp
  have fin : ∀ s', Inv X pins σ (upd (upd H L (.lst [])) L (.lst zs)) s' → EP X pins σ Q (.ref L) s' := fun s' I' => by
    rw [upd_upd] at I'
    exact ⟨.ref L, _, I', rfl, q2⟩
  clear q2 q hsp I1 I hS
  obtain ⟨mA, J, _⟩ := ins_get I2.hok hp2
  obtain ⟨od, J, _⟩ := J.look
  unfold Builtin.List.listExtendWith
  refine wpAny_bind (J.type.here ?_)
  have e1 : Builtin.List.listSameRef (.ref L) (.ref p) = false := by simp [Builtin.List.listSameRef, hne]
  have e2 : (Value.ref C == Value.type "list") = false := rfl
  have e3 : (Value.ref C == Value.type "tuple") = false := rfl
  simp only [e1, e2, e3, Bool.or_false, Bool.false_eq_true, if_false]
  refine wpAny_bind (iter_at (sb.mono (Nat.le_succ _)) ci I2 hp2 hl hz2 fun it s2 I3 hit fp => ?_)
  obtain ⟨oi, hoi, hci, hdi⟩ := id hit
  have Ip := I3.pinned (fp := [it]) (fun b hb => by rw [List.mem_singleton.mp hb]; exact fp) (fun b hb => by rw [List.mem_singleton.mp hb]; exact ⟨oi, hoi, fun v z => by rw [hdi] at z; cases z⟩)
  refine wpAny_bind (wpAny_holding (hint_own sb cl Ip hp2 hsp2 fun b s3 I4 => ?_))
  have hit3 : s3.heap.IsTupleIter it t 0 := hit.at fun o e => (I4.pin (it, o) (List.mem_append_right _ (List.mem_append_right _ (mem_pinsAt List.mem_cons_self e)))).1
  have I5 := I4.unpinned
  have run : ∀ s5, Inv X pins σ (upd (upd H L (.lst [])) L (.lst (zs.take 0))) s5 → s5.heap.IsTupleIter it t 0 → codeAny (model X.prog X.w) X.A.in1 (.builtin "list.extend.loop" ⟨[.ref L, .ref it, .none], []⟩) (wants (fun r s6 => r = .none ∧ EP X pins σ Q (.ref L) s6) X.xe) s5 := fun s5 J5 st5 =>
    ext_loop hc hL2 hz2 hzl fp (fun s6 J6 => ⟨rfl, fin s6 J6⟩) _ 0 s5 rfl (Nat.zero_le _) J5 st5
  have hH : upd (upd H L (.lst [])) L (.lst (zs.take 0)) = upd H L (.lst []) := upd_upd
  rw [hH] at run
  have hneL : it ≠ L := fun z => by
    have := fp.1
    rw [z, hL2] at this
    cases this
  refine wpAny_ite_split (fun _ => wpAny_bind (wpAny_rule (wpAny_bind ?_))) (fun _ => wpAny_pure ⟨plainId_quiet PySem.F.plain_extend_loop _, run s3 I5 hit3⟩)
  obtain ⟨z1, j1, c1, r1, l1, w1⟩ := I5.lstM hL2
  cases r1
  show wpAny _ _ (updateSeq L (·.push .none) >>= fun _ => updateSeq L (·.pop)) _ _ s3
  have K1 := I5.lset (f := (·.push Value.none)) (its' := [Value.none]) (ys := [.non]) (t' := s3.toks) hL2 w1 (by simp) (.cons rfl .nil) (by rw [sizeLine_eq]; decide)
  refine wpAny_bind (wpAny_updateSeq w1 rfl ?_)
  obtain ⟨z2, j2, c2, r2, l2, w2⟩ := K1.lstM upd_same
  obtain ⟨u2, rfl, _⟩ := r2.one
  have K2 := K1.lset (f := (·.pop)) (its := [u2]) (its' := []) (ys := []) (t' := s3.toks) upd_same w2 rfl .nil (Nat.zero_le _)
  rw [upd_upd, upd_upd] at K2
  refine wpAny_updateSeq w2 rfl (wpAny_pure ⟨plainId_quiet PySem.F.plain_extend_loop _, run _ K2 ?_⟩) (by show 1 ≤ sizeLine; rw [sizeLine_eq]; decide) (Nat.zero_le _)
  exact hit3.at fun o e => (Heap.get?_update_other _ _ (Ne.symm hneL)).trans ((Heap.get?_update_other _ _ (Ne.symm hneL)).trans e)
end
end Px
/-! o.m(..) where a method that may raise does not; C.m(..) of a classmethod. -/
namespace Px
open PySem PySem.Spec PyProof.Rows L2 Bx TL Dx Zx Ow
structure CmC (P : Program) (w : World) (K : PySem.W.Frag) (mg : Str → Option Value) (base : Heap) (C : Addr) (m : Str) (k : Nat) (sp : Sp) : Prop where
  ex : ∃ (mc : Value) (p g : Addr), ClX.CRead K C mc ∧ ClX.CMet K C mc m p g ∧ FnR P w K mg base CX0 k g sp
section
variable {X : Cx} {k : Nat} {ps : List Str} {sp : Sp} {o e : Expr} {es : List Expr} {t : TA} {apos pos : Pos} {C : Addr} {m : Str} {to : TE} {pl : Sem Bool}
theorem pe_mthN (c : MthX X.prog X.w X.K X.mg X.base C m k ps sp) (hr : Room k X.A) (ho : PE X o to) (ha : PA X (e :: es) t)
    (hst : starEach (e :: es) X.env = (false, eval e X.env) :: starEach es X.env := by rfl) (hpl : (backTo pos (starEach es X.env)).any (·.1) = false := by rfl)
    (ht : eval (.Call (.Attribute o m apos) (e :: es) [] pos) X.env = (do
      let ov ← eval o X.env
      standAt apos.atName
      let (f, first) ← holding [ov] (getMethod ov m pl)
      callWith pos f first (backTo pos (starEach (e :: es) X.env)) (backToKw pos (keywordEach [] X.env))) := by rfl) : PE X (.Call (.Attribute o m apos) (e :: es) [] pos) (tMeth C m sp [] E0 to t) := by
  obtain ⟨f, fd, cl, mt, ok, b⟩ := c.ex
  exact pe_meth (E := E0) ho cl mt ok hr b .nil passN ha hst hpl ht
theorem pe_cme (c : CmC X.prog X.w X.K X.mg X.base C m k sp) (hr : Room k X.A) (ho : PE X o to) (ha : PA X (e :: es) t)
    (hst : starEach (e :: es) X.env = (false, eval e X.env) :: starEach es X.env := by rfl) (hpl : (backTo pos (starEach es X.env)).any (·.1) = false := by rfl)
    (ht : eval (.Call (.Attribute o m apos) (e :: es) [] pos) X.env = (do
      let ov ← eval o X.env
      standAt apos.atName
      let (f, first) ← holding [ov] (getMethod ov m pl)
      callWith pos f first (backTo pos (starEach (e :: es) X.env)) (backToKw pos (keywordEach [] X.env))) := by rfl) : PE X (.Call (.Attribute o m apos) (e :: es) [] pos) (ClX.tCMeth C sp E0 to t) := by
  obtain ⟨mc, p, g, r, cm, F⟩ := c.ex
  exact ClX.pe_cmeth ho r cm F hr L2.pass0 ha hst hpl ht
/-- a property by its promise -/
structure PropC (P : Program) (w : World) (K : PySem.W.Frag) (mg : Str → Option Value) (base : Heap) (C : Addr) (m : Str) (k : Nat) (sp : Sp) : Prop where
  cl : Cls K C
  ex : ∃ (p g : Addr) (fd : FuncData), PropOf K C m p g ∧ FnOk P w K mg base CX0 k g fd ["self"] sp ∧ Binds K fd ["self"] []
theorem pe_propC {ta : TE} (c : PropC X.prog X.w X.K X.mg X.base C m k sp) (hr : Room (k + 1) X.A) (he : PE X e ta) (hab : attributeBase e m X.env (eval e X.env) = eval e X.env) : PE X (.Attribute e m pos) (tProp C sp [] E0 ta) := by
  obtain ⟨p, g, fd, hp, F, hb⟩ := c.ex
  exact pe_prop he c.cl hp F hr hb .nil L2.pass0 hab
end
end Px
/-! dicts whose keys are tuples: made by a comprehension. -/
namespace Dt
open PySem PySem.Spec PyProof.Rows L2 Bx TL Dx Zx
/-- the store of such a comprehension -/
theorem put_in {X : Cx} {pins : List (Addr × Obj)} {σ : L2.St} {H : Hp} {s : Shared} {E : Value → Shared → Prop} {D b : Addr} {kvs : List (List Key × V)} {k : List Key} {v : V} {r : Value} {Q : Unit → Shared → Prop} (hu : X.A.units < cLine) (J : Inv X pins σ H s) (hD : H D = some (.dT kvs)) (hl : kvs.length < sizeLine)
    (hb : H b = some (.tup (k.map kV))) (rv : RelV v r) (q : ∀ s', Inv X pins σ (upd H D (.dT (putK kvs k v))) s' → Q () s') : wpAny (model X.prog X.w) X.A (dictSet D (.ref b) r) Q E s := by
  obtain ⟨_, ns, xs, rel, dd⟩ := dt_of J.hok hD
  have small : xs.length ≤ sizeLine := by
    have := Paired.length rel
    omega
  have after : (putK kvs k v).length ≤ sizeLine := by
    have := length_putK kvs k v
    omega
  refine wpAny_dictSet_heap (hsz := small) hu (key_of J.hok hb) dd fun g dg sb => q _ ?_
  obtain ⟨ob, es, ep, ho, x2, x3, x4, _, x5⟩ := dg
  refine d_write J (by rw [hD]; exact True.intro) sb ⟨ob, ho⟩ ⟨after, ns, _, (rel.put k hb rv).keeps fun c ys e => ?_, ob, es, ep, ho, x2, x3, x4, x5⟩
  rw [upd_ne (ne_of e hD fun z => nomatch z)]
  exact e
end Dt
namespace Dt
open PySem PySem.Spec PyProof.Rows L2 Bx TL Dx Zx
section
variable {X : Cx}
/-- {k: v for target in iter if ..}, the keys tuples of ints and texts -/
def tDcT (wi : TI) (g : TG) (tt : TT) (tk tv : TE) (vs : List Nat) : TE := fun σ H Q => wi σ H fun J H1 => ∀ D, H1 D = none → ∃ W : Nat → Nat → Hp → Prop, (∃ m, W 0 m (upd H1 D (.dT []))) ∧ ∀ i m H, W i m H →
  (J.stop i H ∧ Q (.ref D) H) ∨ (J.go i H ∧ ∃ Nx : Hp → Prop, (∀ H', Nx H' → ∃ m', m' < m ∧ W (i + 1) m' H') ∧ ∀ x H', J.yld i H x H' → g x (wipe σ vs) H' fun σ2 H2 => wipe σ2 vs = wipe σ vs ∧ tt σ2 H2 fun b H3 =>
    if b = true then tk σ2 H3 fun y H4 => tv σ2 H4 fun z H5 => ∃ a kvs k, y = .ref a ∧ H5 a = some (.tup (k.map kV)) ∧ H5 D = some (.dT kvs) ∧ kvs.length < sizeLine ∧ Nx (upd H5 D (.dT (putK kvs k z))) else Nx H3)
end
end Dt
namespace Dt
open PySem PySem.Spec PyProof.Rows L2 Bx TL Dx Zx
section
variable {X : Cx}
/-- what holds between the turns: the block's slots are bare, the iterator stands at i, the measure is n -/
def Between (Y : Cx) (fp : List Addr) (tn : Nat → Heap → Prop) (W : Nat → Nat → Hp → Prop) (τ : L2.St) (n : Nat) (z : Shared) : Prop := ∃ i G, Inv Y [] τ G z ∧ tn i z.heap ∧ (∀ b ∈ fp, G b = none) ∧ W i n G
theorem dct_core {pins : List (Addr × Obj)} {s : Shared} {σ : L2.St} {H : Hp} {Q : VK} {kx vx tg iter : Expr} {ifs : List Expr} {scope : Scope} {own : List (Str × Nat)} {pos pos' : Pos} {wi : TI} {g : TG} {tt : TT} {tk tv : TE} {use : Option (Value → Sem Unit)} {Qf : Value → Shared → Prop}
    (hu : X.A.units < cLine) (calm : X.calm = true) (nod : X.N.Nodup) (J : Inv X pins σ H s) (walk : PI X tg iter wi) (ok : BlkOk X.N X.env.scope scope own)
    (pg : ∀ (z : Shared) (G : Hp) (C : Addr) (cl : List (Str × Addr)) (fp : List Addr), PG (X.blk z G scope (compEnvC scope cl C X.env) fp) tg g) (pt : ∀ (z : Shared) (G : Hp) (C : Addr) (cl : List (Str × Addr)) (fp : List Addr), PTs (X.blk z G scope (compEnvC scope cl C X.env) fp) ifs tt)
    (pk : ∀ (z : Shared) (G : Hp) (C : Addr) (cl : List (Str × Addr)) (fp : List Addr), PE (X.blk z G scope (compEnvC scope cl C X.env) fp) kx tk) (pv : ∀ (z : Shared) (G : Hp) (C : Addr) (cl : List (Str × Addr)) (fp : List Addr), PE (X.blk z G scope (compEnvC scope cl C X.env) fp) vx tv)
    (fold : ∀ x, foldedSetIterable iter X.env x = pure x) (want : tDcT wi g tt tk tv (own.map (·.2)) σ H Q)
    (back : ∀ D C z m G, Inv X pins σ G z → Q (.ref D) G → z.heap.Ns C m → FpOk X pins G C → compPost (model X.prog X.w) X.A X.xe use Qf (.ref D) C (.ok .next) z) :
    wpAny (model X.prog X.w) X.A (comprehension (.DictComp kx vx [⟨tg, iter, ifs, 0⟩] scope pos) scope X.env pos' newDict false (eval iter X.env) use) Qf X.xe s := by
  have free : ∀ y ∈ scope.names, y.2 = .free → ∃ c, X.env.cells.lookup y.1 = some c := fun y m e => (ok.free y m e).elim (fun k => J.ok.has _ (.inl k)) fun k => J.ok.has _ (.inr k)
  have names : ∀ y ∈ scope.names, y.2 = .local → scope.names.lookup y.1 = some .local := fun y m e => by
    have := ok.uniq y m
    rw [e] at this
    exact this
  refine wpAny_comprehension_free (use := use) rfl fold (closure_ok free) ok.kind names (thn (walk.run pins s σ H _ J want) fun first z1 got => thn got fun itv z2 ready => ?_)
  obtain ⟨it, fp, tn, I0, G2, rfl, J2, T, at0, out2, q⟩ := ready
  refine wpAny_newObj_type (newEnv_comp ?_)
  have bare : G2 z2.heap.objs.size = none := J2.hok.fresh (Nat.le_refl _)
  obtain ⟨W, ⟨n0, start⟩, turn⟩ := q _ bare
  have lo : ∀ b ∈ fp, b < z2.heap.objs.size := fun b m => by
    obtain ⟨u, hu2, _⟩ := T.obj _ _ at0 b m
    exact Heap.lt_size hu2
  have J3 : Inv X pins σ (upd G2 z2.heap.objs.size (.dT [])) { z2 with heap := z2.heap.push { cls := .type "dict", data := .dict #[] } } :=
    J2.laid (t' := z2.toks) (fun b o e => Heap.get?_push_of_some _ e) (Nat.le_refl _) (dt_empty z2.heap J2.big)
  have out3 : ∀ b ∈ fp, FpOk X pins (upd G2 z2.heap.objs.size (.dT [])) b ∧ b < (z2.heap.push { cls := .type "dict", data := .dict #[] }).objs.size := fun b m => by
    have l := lo b m
    refine ⟨⟨?_, (out2 b m).2⟩, ?_⟩
    · rw [upd_ne (Nat.ne_of_lt l)]
      exact (out2 b m).1
    · rw [Heap.size_push]
      exact Nat.lt_succ_of_lt l
  have at3 : tn 0 (z2.heap.push { cls := .type "dict", data := .dict #[] }) := T.keep _ _ _ at0 fun b _ o e => Heap.get?_push_of_some _ e
  generalize hD : z2.heap.objs.size = D at *
  generalize hz3 : ({ z2 with heap := z2.heap.push { cls := .type "dict", data := .dict #[] } } : Shared) = z3 at *
  have e3 : z3.heap = z2.heap.push { cls := .type "dict", data := .dict #[] } := by rw [← hz3]
  rw [← e3] at out3 at3
  have J4 := block_start J3 ok nod out3
  have bare3 : ∀ b ∈ fp, (upd G2 D (.dT [])) b = none := fun b m => (out3 b m).1.1
  generalize upd G2 D (.dT []) = G3 at J3 J4 bare3 out3 start
  generalize hcl : cellsFrom (z3.heap.objs.size + 1) scope.names (cloFrom X.env.cells scope.names []) = cl at J4 ⊢
  generalize hC : z3.heap.objs.size = C at *
  have g1 := pg z3 G3 C cl fp
  have g2 := pt z3 G3 C cl fp
  have g3 := pk z3 G3 C cl fp
  have g4 := pv z3 G3 C cl fp
  show codeAny _ _ (.compStart (.DictComp kx vx [⟨tg, iter, ifs, 0⟩] scope pos) 0 (.ref it) (.ref D) (compEnvC scope cl C X.env)) (compPost (model X.prog X.w) X.A X.xe use Qf (.ref D) C) { z3 with heap := pushCells (z3.heap.push { cls := .type "dict", data := .dict #[] }) scope.names }
  have at4 : tn 0 (pushCells (z3.heap.push { cls := .type "dict", data := .dict #[] }) scope.names) := T.keep _ _ _ at3 fun b _ o e => pushCells_keeps _ _ _ _ (Heap.get?_push_of_some _ e)
  generalize hz4 : ({ z3 with heap := pushCells (z3.heap.push { cls := .type "dict", data := .dict #[] }) scope.names } : Shared) = z4 at J4 ⊢
  have at4' : tn 0 z4.heap := by
    rw [← hz4]
    exact at4
  have cloc : (compEnvC scope cl C X.env).locals = C := rfl
  generalize compEnvC scope cl C X.env = ce at J4 g1 g2 g3 g4 cloc ⊢
  have stays : ∀ {τ : L2.St} {G : Hp} {z : Shared}, Inv (X.blk z3 G3 scope ce fp) [] τ G z → (∀ b ∈ fp, G b = none) → ∀ b ∈ fp, FpOk (X.blk z3 G3 scope ce fp) [] G b := fun J' hn b m =>
    ⟨hn b m, (J'.ok.exf b m).1, J'.ok.exfs b m, .inl m, fun x c e => (J'.ok.exf b m).2 x c e, fun p hp => absurd (show p ∈ ([] : List (Addr × Obj)) ++ [] from hp) (by simp)⟩
  have loop : codeAny (model X.prog X.w) X.A (.compLoop (.DictComp kx vx [⟨tg, iter, ifs, 0⟩] scope pos) 0 (.ref it) (.ref D) ce) (compPost (model X.prog X.w) X.A X.xe use Qf (.ref D) C) z4 := by
    refine compLoop_anyD (fun n z => Between (X.blk z3 G3 scope ce fp) fp tn W (wipe σ (own.map (·.2))) n z) (fun n z5 h5 => ?_) n0 ⟨0, G3, J4, at4', bare3, start⟩
    obtain ⟨i, G5, J5, at5, bare5, w5⟩ := h5
    rcases turn i n G5 w5 with ⟨stop, fin⟩ | ⟨go, Nx, less, step⟩
    · have over := T.done (X.blk z3 G3 scope ce fp) rfl rfl rfl calm i [] z5 _ G5 (fun _ _ => False) J5 (stays J5 bare5) at5 stop
      refine thnF over fun r z6 ⟨none_, J6⟩ => ?_
      subst none_
      have home : Inv X pins σ G5 z6 := J3.call' (ch := fp) J6.os J6.base J6.hok J6.bare fun b m => ⟨(out3 b m).1.2.2.2.1, (out3 b m).1.2.1, (out3 b m).1.2.2.2.2.1, (out3 b m).1.2.2.2.2.2⟩
      have noC : G5 C = none := by
        have f : G5 ce.locals = none := J6.free
        rwa [cloc] at f
      obtain ⟨m, ns, _⟩ := J6.loc
      have ns2 : z6.heap.Ns ce.locals m := ns
      rw [cloc] at ns2
      exact back D C z6 m G5 home fin ns2 (J3.fpOk (Nat.le_of_eq hC) noC)
    · have one := T.item (X.blk z3 G3 scope ce fp) rfl rfl rfl calm i [] z5 _ G5 (fun _ _ => False) J5 (stays J5 bare5) at5 go
      refine thnF one fun r z6 ⟨u, some_, h6⟩ => ?_
      subst some_
      refine thnF h6 fun _ z7 ⟨x, G7, J7, rx, y7, at7, bare7⟩ => ?_
      have J7p := J7.pinned (stays J7 bare7) (T.obj _ _ at7)
      refine thnF (g1.run _ z7 _ G7 x u _ J7p rx (step x G7 y7)) fun _ z8 ⟨σ8, G8, J8, clean, q8⟩ => ?_
      refine thnF (g2.run _ z8 σ8 G8 _ J8 q8) fun b z9 ⟨G9, J9, q9⟩ => ?_
      have next : ∀ {z : Shared} {G : Hp}, Inv (X.blk z3 G3 scope ce fp) ([] ++ pinsAt fp z7.heap) σ8 G z → Nx G → ∃ m, m < n ∧ Between (X.blk z3 G3 scope ce fp) fp tn W (wipe σ (own.map (·.2))) m z := fun {z G} J' nx => by
        obtain ⟨m, lt, w'⟩ := less G nx
        have held : ∀ b ∈ fp, ∀ o, z7.heap.get? b = some o → z.heap.get? b = some o ∧ G b = none := fun b m o e =>
          have k := J'.pin (b, o) (List.mem_append_right _ (List.mem_append_right _ (mem_pinsAt m e)))
          ⟨k.1, k.2.1⟩
        have long : (wipe σ (own.map (·.2))).length = σ8.length := by rw [← clean, wipe_length]
        refine ⟨m, lt, i + 1, G, (J'.unpinned (pins := [])).weak long (fun j v e => ?_), T.keep _ _ _ at7 fun b m o e => (held b m o e).1, fun b m => ?_, w'⟩
        · rw [← clean] at e
          exact (wipe_some e).1
        · obtain ⟨o, e, _⟩ := T.obj _ _ at7 b m
          exact (held b m o e).2
      cases b with
      | false =>
        simp only [Bool.false_eq_true, if_false] at q9 ⊢
        exact next J9 q9
      | true =>
        simp only [if_true] at q9 ⊢
        refine thnF (g3.run _ z9 σ8 G9 _ J9 q9) fun kv z10 ⟨y, G10, J10, ry, q10⟩ => ?_
        refine thnF (g4.run _ z10 σ8 G10 _ J10 q10) fun vv z11 ⟨v, G11, J11, rv, a, kvs, k, ey, ha, hd, small, nx⟩ => ?_
        subst ey
        cases ry
        exact put_in (X := X.blk z3 G3 scope ce fp) hu J11 hd small ha rv fun z12 J12 => next J12 nx
  exact codeAny_compStart_dict loop (T.self X.A 0 _ _ _ at4' loop)
end
end Dt
namespace Dt
open PySem PySem.Spec PyProof.Rows L2 Bx TL Dx Zx
section
variable {X : Cx}
/-- name = {k: v for ..}, the keys tuples -/
theorem ps_setDcT {i : Nat} {y : Str} {py : Pos} {kx vx tg iter : Expr} {ifs : List Expr} {scope : Scope} {own : List (Str × Nat)} {pos spos : Pos} {wi : TI} {g : TG} {tt : TT} {tk tv : TE} (hu : X.A.units < cLine) (hc : X.calm = true) (hN : X.N.Nodup) (hy : X.N[i]? = some y) (hyl : X.env.scope.names.lookup y = some .local)
    (hsw : swapsWith (.DictComp kx vx [⟨tg, iter, ifs, 0⟩] scope pos) (some (.Name y py)) spos.line X.env = pure true) (hi : PI X tg iter wi) (ok : BlkOk X.N X.env.scope scope own)
    (hg : ∀ (s : Shared) (H : Hp) (C : Addr) (cl : List (Str × Addr)) (fp : List Addr), PG (X.blk s H scope (compEnvC scope cl C X.env) fp) tg g) (ht : ∀ (s : Shared) (H : Hp) (C : Addr) (cl : List (Str × Addr)) (fp : List Addr), PTs (X.blk s H scope (compEnvC scope cl C X.env) fp) ifs tt)
    (hk : ∀ (s : Shared) (H : Hp) (C : Addr) (cl : List (Str × Addr)) (fp : List Addr), PE (X.blk s H scope (compEnvC scope cl C X.env) fp) kx tk)
    (he : ∀ (s : Shared) (H : Hp) (C : Addr) (cl : List (Str × Addr)) (fp : List Addr), PE (X.blk s H scope (compEnvC scope cl C X.env) fp) vx tv) (hs : ∀ x, foldedSetIterable iter X.env x = pure x := by intro _; rfl) :
    PS X (.Assign [.Name y py] (.DictComp kx vx [⟨tg, iter, ifs, 0⟩] scope pos) spos) (tAsg (tDcT wi g tt tk tv (own.map (·.2))) (gName i)) := by
  refine ⟨fun pins s σ H D I h => ?_⟩
  rw [exec_Assign_Name_used _ _ _ _ hsw]
  refine wpAny_bind (wpAny_standAt (wpAny_bind ?_))
  show wpAny _ X.A (do let _ ← comprehension (.DictComp kx vx [⟨tg, iter, ifs, 0⟩] scope pos) scope X.env _ newDict false (eval iter X.env) (some (assign (.Name y py) X.env))) _ _ s
  have h : tDcT wi g tt tk tv (own.map (·.2)) σ H (fun x H1 => gName i x σ H1 D.nx) := h
  refine wpAny_bind (thn (dct_core (Qf := fun _ s' => SP X pins D .next s') hu hc hN I hi ok hg ht hk he hs h fun L C s' m H' I' q hn f => ?_) fun _ s' hq => wpAny_pure (wpAny_pure hq))
  show wpAny _ _ (assign (.Name y py) X.env (.ref L)) _ _ _
  refine wpAny_assign_Name (store_ok2 (v := V.ref L) I' hN hy (.inl hyl) rfl (fun s2 I2 ⟨a, sb, ha⟩ => ?_) (.inr hyl))
  obtain ⟨f0, f1, f2, f3, f4, f5⟩ := f
  have haC : C ≠ a := by
    rcases ha with z | z
    · rw [z]; exact f1
    · exact fun e => f4 y a z e.symm
  refine ⟨m, hn.sameBut sb haC, fun h3 sb3 => ?_⟩
  exact ⟨_, H', I2.turned (t' := s2.toks) (fun b o hb e => (sb3.2 b hb).trans e) f0 f1 f3 f4 f5, q⟩
end
/-- over a walk -/
theorem dct_it {J : It} {n : Nat} {G : Hp → Prop} {Y : Nat → Hp → V → Hp → Prop} (w : Walk J n G Y) {g : TG} {tt : TT} {tk tv : TE} {vs : List Nat} {σ : L2.St} {H1 : Hp} {D : Addr} {Qd : Hp → Prop} (Pv : Nat → Hp → Prop) (h0 : Pv 0 (upd H1 D (.dT []))) (hG : ∀ i H, i ≤ n → Pv i H → G H)
    (hs : ∀ i x H H', i < n → Pv i H → Y i H x H' → g x (wipe σ vs) H' fun σ2 H2 => wipe σ2 vs = wipe σ vs ∧ tt σ2 H2 fun b H3 =>
      if b = true then tk σ2 H3 fun y H4 => tv σ2 H4 fun z H5 => ∃ a kvs k, y = .ref a ∧ H5 a = some (.tup (k.map kV)) ∧ H5 D = some (.dT kvs) ∧ kvs.length < sizeLine ∧ Pv (i + 1) (upd H5 D (.dT (putK kvs k z))) else Pv (i + 1) H3) (hd : ∀ H, Pv n H → Qd H) :
    ∃ W : Nat → Nat → Hp → Prop, (∃ m, W 0 m (upd H1 D (.dT []))) ∧ ∀ i m H, W i m H →
      (J.stop i H ∧ Qd H) ∨ (J.go i H ∧ ∃ Nx : Hp → Prop, (∀ H', Nx H' → ∃ m', m' < m ∧ W (i + 1) m' H') ∧ ∀ x H', J.yld i H x H' → g x (wipe σ vs) H' fun σ2 H2 => wipe σ2 vs = wipe σ vs ∧ tt σ2 H2 fun b H3 =>
        if b = true then tk σ2 H3 fun y H4 => tv σ2 H4 fun z H5 => ∃ a kvs k, y = .ref a ∧ H5 a = some (.tup (k.map kV)) ∧ H5 D = some (.dT kvs) ∧ kvs.length < sizeLine ∧ Nx (upd H5 D (.dT (putK kvs k z))) else Nx H3) :=
  walk_any (B := fun (Nx : Hp → Prop) x H' => g x (wipe σ vs) H' fun σ2 H2 => wipe σ2 vs = wipe σ vs ∧ tt σ2 H2 fun b H3 =>
        if b = true then tk σ2 H3 fun y H4 => tv σ2 H4 fun z H5 => ∃ a kvs k, y = .ref a ∧ H5 a = some (.tup (k.map kV)) ∧ H5 D = some (.dT kvs) ∧ kvs.length < sizeLine ∧ Nx (upd H5 D (.dT (putK kvs k z))) else Nx H3) w Pv h0 hG hs hd
end Dt
namespace Dt
open PySem PySem.Spec PyProof.Rows L2
/-- e.f within a block: the written part is named -/
theorem pe_fldK {X : Cx} {K : PySem.W.Frag} {e : Expr} {f : Str} {pos : Pos} {ta : TE} (h : X.K = K) (he : PE X e ta) (hb : attributeBase e f X.env (eval e X.env) = eval e X.env) : PE X (.Attribute e f pos) (tFld K ta f) := by
  subst h
  exact pe_fld he hb
end Dt
/-! a comprehension within another one's block -/
namespace Nx
open PySem PySem.Spec PyProof.Rows L2
theorem rel_eq {scope : Scope} {env : Env} {sc : Scope} (h : env.scope = sc) : relabel scope env = relS scope sc := by
  subst h
  rfl
theorem blkOk_nest {N : List Str} {sc scope1 scope : Scope} {cl : List (Str × Addr)} {C : Addr} {env : Env} {own : List (Str × Nat)} (he : env.scope = sc) (h : blkC N (relS scope1 sc) scope own = true) : BlkOk N (compEnvC scope1 cl C env).scope scope own := by
  have e : (compEnvC scope1 cl C env).scope = relS scope1 sc := rel_eq he
  rw [e]
  exact blkOk_by h
/-- d.setdefault(t, v), t a tuple of ints and texts -/
def rSetdT : V → List V → Hp → VK → Prop := fun x vs H Q => ∃ (a b : Addr) (kvs : List (List Key × V)) (k : List Key) (v : V), x = .ref a ∧ vs = [.ref b, v] ∧ H a = some (.dT kvs) ∧ H b = some (.tup (k.map kV)) ∧ kvs.length < sizeLine ∧
  (∀ u, valV kvs k = some u → Q u H) ∧ (valV kvs k = none → Q v (upd H a (.dT (putK kvs k v))))
theorem mt_setdT {X : Cx} (hu : X.A.units + 1 < cLine) : MtR X "dict.setdefault" rSetdT := by
  intro pins s σ H x xs v us Q I rx rs q
  obtain ⟨a, b, kvs, k, y, rfl, rfl, ea, eb, hl, w1, w2⟩ := q
  cases rx
  cases rs with
  | cons r1 rs =>
    cases rs with
    | cons r2 rs =>
      cases rs
      cases r1
      obtain ⟨z, hd, xs0, rel, dd⟩ := dt_of I.hok ea
      have hz : xs0.length ≤ sizeLine := by rw [← Paired.length rel]; exact z
      have hl2 : (putK kvs k y).length ≤ sizeLine := by have := length_putK kvs k y; omega
      refine call_setdefault_heap (hsz := hz) (tupleKind_room_in1 hu) (key_of I.hok eb) hd dd (fun p hp => ?_) fun hn h' dd' hs => ?_
      · have rr := rel.val k
        rw [hp] at rr
        cases e : valV kvs k with
        | none =>
          rw [e] at rr
          have := rr.isSome_eq
          cases this
        | some u =>
          rw [e] at rr
          exact ⟨u, H, I.tok _, rr, w1 u e⟩
      · have rr := rel.val k
        rw [hn] at rr
        have e : valV kvs k = none := by
          cases e : valV kvs k with
          | none => rfl
          | some u =>
            rw [e] at rr
            have := rr.isSome_eq
            cases this
        obtain ⟨q, es, ep, hq, h2, h3, h4, _, h5⟩ := dd'
        refine ⟨y, upd H a (.dT (putK kvs k y)), d_write I (by rw [ea]; exact True.intro) hs ⟨q, hq⟩ ⟨hl2, hd, _, (rel.put k eb r2).keeps fun c ys ec => ?_, q, es, ep, hq, h2, h3, h4, h5⟩, r2, w2 e⟩
        rw [upd_ne (ne_of ec ea (fun z => nomatch z))]
        exact ec
end Nx
/-! C() of an own class that has no `__init__`. -/
namespace Mk0
open PySem PySem.Spec PyProof.Rows L2 Ow
structure Bare (K : PySem.W.Frag) (mg : Str → Option Value) (x : Str) (C : Addr) : Prop where
  make : PySem.W.makesIn K C = true
  ini : PySem.W.findIn K (.ref C) "__init__" = some (some (.builtin "object.__init__"))
  kp : PySem.W.keepIn K (.ref C) = true
  g : mg x = some (.ref C)
section
variable {X : Cx} {pins : List (Addr × Obj)} {σ : L2.St} {H : Hp} {s : Shared} {C : Addr} {Q : VK} {x : Str} {p pos : Pos}
def tBare (C : Addr) : TE := fun _ H Q => ∀ y dy, H y = none → H dy = none → dy ≠ y → Q (.ref y) (upd (upd H dy (.own y)) y (.ins C dy []))
theorem run_bare (B : Bare X.K X.mg x C) (I : Inv X pins σ H s) (h : tBare C σ H Q) : wpAny (model X.prog X.w) X.A (call (.ref C) []) (EP X pins σ Q) X.xe s := by
  have hq := h (s.heap.objs.size + 1) s.heap.objs.size (I.hok.fresh (Nat.le_succ _)) (I.hok.fresh (Nat.le_refl _)) (Nat.ne_of_lt (Nat.lt_succ_self _))
  have I2 := Inv.made (C := C) I
  have XK := I.kIn
  obtain ⟨hh, g, d, t, os⟩ := s
  have Y := PySem.W.makes_of (M := model X.prog X.w) XK B.make
  refine wpAny_call (PySem.W.make_core Y (PySem.W.looks_findIn XK B.ini) (fun self => PySem.W.Looks.of_pure (PySem.W.oi_bind self)) (.inr ⟨rfl, rfl⟩) ?_)
  have hx : ((hh.push PySem.W.emptyDict).push (PySem.W.instObj C hh.objs.size)).get? (hh.objs.size + 1) = some (PySem.W.instObj C hh.objs.size) := by
    have := Heap.get?_push_size (hh.push PySem.W.emptyDict) (o := PySem.W.instObj C hh.objs.size) rfl
    rwa [Heap.size_push] at this
  have t1 : PySem.W.Looks (model X.prog X.w) ((hh.push PySem.W.emptyDict).push (PySem.W.instObj C hh.objs.size)) (typeOf (.ref (hh.objs.size + 1))) (.ref C) := (PySem.W.Looks.ld hx).andThen .now
  have t2 : PySem.W.Looks (model X.prog X.w) ((hh.push PySem.W.emptyDict).push (PySem.W.instObj C hh.objs.size)) (isInstance (.ref (hh.objs.size + 1)) (.type "object")) true := t1.andThen (Y.top.keeps fun b o e => Heap.get?_push_of_some _ (Heap.get?_push_of_some _ e))
  refine PySem.codeAny_call_builtin PySem.W.oi_plain PySem.W.entry_oi (@PySem.W.check_slot (model X.prog X.w) _ _ _ "object.__init__" "object" "__init__" (.ref (hh.objs.size + 1)) [] [] _ PySem.W.oi_kind PySem.W.oi_split t2 (PySem.W.oi_args (.ref (hh.objs.size + 1))) ?_)
  rw [PySem.W.oi_run]
  exact wpAny_pure (And.intro rfl ⟨V.ref (hh.objs.size + 1), _, I2, rfl, hq⟩)
theorem pe_bare (B : Bare X.K X.mg x C) (hg : Gl X x := by rfl) (hdb : (x == ("__debug__" : Str)) = false := by decide) : PE X (.Call (.Name x p) [] [] pos) (tBare C) := by
  refine ⟨fun pins s σ H Q I h => ?_⟩
  refine wpAny_Call_Name_kw (ld_glob I hg B.g ?_ hdb)
  exact PySem.W.callWith_K0 I.kIn B.kp (run_bare B I h)
end
end Mk0
/-! super().m(..) in a method of an own class, m a def of the class above: as the value of a `return .. and ..`, or in an `if not ..`. -/
namespace SupM
open PySem PySem.Spec PyProof.Rows L2 NdefX Sup Ow
section
variable {X : Cx} {pins : List (Addr × Obj)} {σ : List (Option V)} {H : Hp} {s : Shared} {self m : Str} {D a C dx g : Addr} {fs : List (Str × V)} {body : List Stmt} {p0 p1 p2 pos pos' : Pos} {e : Expr} {es : List Expr} {ta : TA} {pl : Sem Bool} {k : Nat} {sp : Sp} {Q : VK}
/-- the class above has the def g under the name m -/
structure SupA (K : PySem.W.Frag) (C D : Addr) (m : Str) (g : Addr) : Prop where
  cls : ∃ cd, PySem.W.clsIn K D = some cd
  sub : PySem.W.mroIn K C (.ref D) = some true
  sup : PySem.W.ks_superIn K C D m = some (some (.ref g))
  ty : PySem.W.typeIn K (.ref g) = some (.type "function")
  fn : PySem.W.fnIn K g = true
  nc : (m == ("__class__" : Str)) = false
theorem sup_eval (I : Inv X pins σ H s) (S : SupF X.prog X.K X.mg X.env self D) (T : SupA X.K C D m g) (F : FnR X.prog X.w X.K X.mg X.base CX0 k g sp) (hr : Room k X.A) (hN : X.N[0]? = some self) (h0 : σ[0]? = some (some (.ref a))) (ea : H a = some (.ins C dx fs)) (ha : PA X (e :: es) ta)
    (h : ta σ H fun vs H2 => sp (.ref a :: vs) H2 Q E0)
    (hev : eval (.Call (.Attribute (.Call (.Name "super" p0) [] [] p1) m p2) (e :: es) [] pos) X.env = (do
      let ov ← attributeBase (.Call (.Name "super" p0) [] [] p1) m X.env (eval (.Call (.Name "super" p0) [] [] p1) X.env)
      standAt p2.atName
      let (f, first) ← holding [ov] (getMethod ov m pl)
      callWith pos f first (backTo pos (starEach (e :: es) X.env)) []) := by rfl)
    (he : starEach (e :: es) X.env = (false, eval e X.env) :: starEach es X.env := by rfl) (hpl : (backTo pos (starEach es X.env)).any (·.1) = false := by rfl) :
    _root_.PySem.wpAt (model X.prog X.w) X.A (.func body X.env) (eval (.Call (.Attribute (.Call (.Name "super" p0) [] [] p1) m p2) (e :: es) [] pos) X.env) (EP X pins σ Q) X.xe s := by
  refine ks_wpAt_MethodCall ?_ hev
  obtain ⟨f, oc, od, fd, osl, ar, hfu, lf, hp, har⟩ := S.fn
  obtain ⟨cda, ccl, cdd, vs, ccs, file, tf, hco, lc, hvs, hfile⟩ := S.co
  obtain ⟨cc, cl, cld, csl, hcl, lcc⟩ := S.ce
  obtain ⟨mm, v, hn, hv, rv⟩ := self_at I hN h0 S.ka
  obtain rfl : v = Value.ref a := rv
  obtain ⟨oi, inst⟩ := inst_of I ea
  obtain ⟨cdD, hD⟩ := T.cls
  have XK := I.kIn
  obtain ⟨oD, hD1, hD2⟩ : ∃ oD, s.heap.get? D = some oD ∧ oD.data = .cls cdD := by
    unfold PySem.W.clsIn at hD
    split at hD
    · rename_i c d cd' sl ho
      cases hD
      exact ⟨_, XK _ _ ho, rfl⟩
    · cases hD
  refine ks_wpAt_super_base S.ks S.kc T.nc hfu (XK _ _ lf) rfl hp hco (XK _ _ lc) rfl hvs hfile S.top ?_
  refine ld_super I S ⟨rfl, ?_⟩
  refine wpAny_loadName_free I.ok.kind S.kc hcl ⟨_, XK _ _ lcc, rfl⟩ ?_
  refine wpAny_loadName_local I.ok.kind (har ▸ S.ka) hn (har ▸ hv) ?_
  refine ks_wpAny_isType_cls hD1 hD2 ⟨rfl, ?_⟩
  obtain ⟨hp0, gg, d, t, os⟩ := s
  refine ks_wpAny_call_super hD1 hD2 inst.at_ rfl (fun c e => by cases e) (PySem.W.looks_mroIn XK T.sub) fun h' eso k2 => ?_
  have I2 : Inv X pins σ H ⟨h', gg, d, t, os⟩ := I.kept (t' := t) k2
  have XK2 := I2.kIn
  have sup := T.sup
  unfold PySem.W.ks_superIn at sup
  cases hc : PySem.W.clsIn X.K C with
  | none =>
    rw [hc] at sup
    cases sup
  | some cd =>
    rw [hc] at sup
    obtain ⟨oi2, inst2⟩ := inst_of I2 ea
    obtain ⟨of, hof, hofc⟩ : ∃ of, h'.get? g = some of ∧ of.cls = .type "function" := by
      have ht' : (X.K.lookup g).map (·.cls) = some (.type "function") := T.ty
      cases z : X.K.lookup g with
      | none => rw [z] at ht'; cases ht'
      | some of => rw [z] at ht'; exact ⟨of, XK2 _ _ z, Option.some.inj ht'⟩
    refine ks_wpAny_getMethod_super eso (PySem.W.looks_opaque XK2 S.any) (l₀ := cd.mro) ?_ rfl XK2 sup hof hofc (PySem.W.ks_ne XK2 inst2 hc) T.nc ?_
    · exact fun A Q E s k q => wpAny_bind ((PySem.W.looks_clsIn XK2 hc) A _ E s k (wpAny_pure q))
    · have I3 := ClX.met_new (g := g) (C := a) I2
      refine ClX.callwith_cm I3 (ClX.base_none I2 (Nat.le_refl _)) T.fn (thn (ha.run pos _ _ σ H _ I3 h) fun us s3 ⟨vs, H2, I4, rv, q2⟩ => ⟨⟨ClX.pin_at I4, I4.kIn⟩, ?_⟩) he hpl
      exact ClX.run_cm F hr L2.pass0 I4 rv q2
end
/-! ### expressions, tests, statements that know the body they stand in -/
section
variable {M : Model} {A : Around} {c : Code} {E : Value → Shared → Prop} {s : Shared} {env : Env}
theorem at_and {e₁ e₂ : Expr} {rest : List Expr} {pos : Pos} {Q : Value → Shared → Prop}
    (h : _root_.PySem.wpAt M A c (eval e₁ env) (fun v s₁ => wpAny M A (truthy v) (fun c s₂ => if c then wpAny M A (eval (.BoolOp .And (e₂ :: rest) pos) env) Q E s₂ else Q v s₂) E s₁) E s) :
    _root_.PySem.wpAt M A c (eval (.BoolOp .And (e₁ :: e₂ :: rest) pos) env) Q E s := by
  show _root_.PySem.wpAt M A c (do
    let v ← eval e₁ env
    standAt pos
    let c ← holding [v] (truthy v)
    match BoolOp.And, c with
    | .And, false | .Or, true => pure v
    | _, _ => boolOp pos .And (eval e₂ env :: evalEach rest env)) Q E s
  refine _root_.PySem.wpAt_bind (ks_wpAt_mono h (fun v s₁ h₁ => wpAt_of_wpAny (wpAny_bind (wpAny_standAt (wpAny_bind (wpAny_holding (wpAny_mono h₁ (fun c s₂ h₂ => ?_) fun _ _ x => x)))))) fun _ _ x => x)
  cases c with
  | false => exact wpAny_pure h₂
  | true => exact h₂
theorem at_not {x : Expr} {pos : Pos} {whole : Sem Value} {Q : Bool → Shared → Prop} (h : _root_.PySem.wpAt M A c (isTrue x env (eval x env)) (fun c s' => Q (!c) s') E s) :
    _root_.PySem.wpAt M A c (isTrue (.UnaryOp .Not x pos) env whole) Q E s := by
  show _root_.PySem.wpAt M A c (do return !(← isTrue x env (eval x env))) Q E s
  exact _root_.PySem.wpAt_bind (ks_wpAt_mono h (fun c s' h' => wpAt_of_wpAny (wpAny_pure h')) fun _ _ x => x)
theorem at_or {x : Expr} {rest : List Expr} {pos : Pos} {whole : Sem Value} {Q : Bool → Shared → Prop}
    (h : _root_.PySem.wpAt M A c (isTrue x env (eval x env)) (fun c s' => if c then Q true s' else wpAny M A (isTrue (.BoolOp .Or rest pos) env whole) Q E s') E s) :
    _root_.PySem.wpAt M A c (isTrue (.BoolOp .Or (x :: rest) pos) env whole) Q E s := by
  show _root_.PySem.wpAt M A c (do
    match BoolOp.Or, ← isTrue x env (eval x env) with
    | .And, false => pure false
    | .Or, true => pure true
    | _, _ => allTrue .Or rest env) Q E s
  refine _root_.PySem.wpAt_bind (ks_wpAt_mono h (fun c s' h' => wpAt_of_wpAny ?_) fun _ _ x => x)
  cases c with
  | false => exact h'
  | true => exact wpAny_pure h'
end
section
variable {X : Cx} {body : List Stmt} {e a b : Expr} {rest : List Expr} {st : Stmt} {sts : List Stmt} {pos : Pos} {te ta tb : TE} {tA tB' : TT} {t u : TS}
structure PEa (X : Cx) (body : List Stmt) (e : Expr) (te : TE) : Prop where
  run : ∀ pins s σ H Q, Inv X pins σ H s → te σ H Q → _root_.PySem.wpAt (model X.prog X.w) X.A (.func body X.env) (eval e X.env) (EP X pins σ Q) X.xe s
structure PTa (X : Cx) (body : List Stmt) (e : Expr) (t : TT) : Prop where
  run : ∀ pins s σ H Q, Inv X pins σ H s → t σ H Q → _root_.PySem.wpAt (model X.prog X.w) X.A (.func body X.env) (isTrue e X.env (eval e X.env)) (TP X pins σ Q) X.xe s
structure PSa (X : Cx) (body : List Stmt) (st : Stmt) (t : TS) : Prop where
  run : ∀ pins s σ H D, Inv X pins σ H s → t D σ H → _root_.PySem.wpAt (model X.prog X.w) X.A (.func body X.env) (exec st X.env) (SP X pins D) X.xe s
structure PSsa (X : Cx) (body : List Stmt) (sts : List Stmt) (t : TS) : Prop where
  run : ∀ pins s σ H D, Inv X pins σ H s → t D σ H → _root_.PySem.wpAt (model X.prog X.w) X.A (.func body X.env) (execs sts X.env) (SP X pins D) X.xe s
/-- super().m(..), self the first name -/
def tSupM (C : Addr) (sp : Sp) (ta : TA) : TE := fun σ H Q => ∃ a dx fs, σ[0]? = some (some (.ref a)) ∧ H a = some (.ins C dx fs) ∧ ta σ H fun vs H2 => sp (.ref a :: vs) H2 Q E0
theorem pea_sup {self m : Str} {D C g : Addr} {k : Nat} {sp : Sp} {p0 p1 p2 : Pos} {es : List Expr} {ta : TA} {pl : Sem Bool} (S : SupF X.prog X.K X.mg X.env self D) (T : SupA X.K C D m g) (F : FnR X.prog X.w X.K X.mg X.base CX0 k g sp) (hr : Room k X.A) (hN : X.N[0]? = some self) (ha : PA X (e :: es) ta)
    (hev : eval (.Call (.Attribute (.Call (.Name "super" p0) [] [] p1) m p2) (e :: es) [] pos) X.env = (do
      let ov ← attributeBase (.Call (.Name "super" p0) [] [] p1) m X.env (eval (.Call (.Name "super" p0) [] [] p1) X.env)
      standAt p2.atName
      let (f, first) ← holding [ov] (getMethod ov m pl)
      callWith pos f first (backTo pos (starEach (e :: es) X.env)) []) := by rfl)
    (he : starEach (e :: es) X.env = (false, eval e X.env) :: starEach es X.env := by rfl) (hpl : (backTo pos (starEach es X.env)).any (·.1) = false := by rfl) :
    PEa X body (.Call (.Attribute (.Call (.Name "super" p0) [] [] p1) m p2) (e :: es) [] pos) (tSupM C sp ta) :=
  ⟨fun _ _ _ _ _ I ⟨_, _, _, h0, ea, h⟩ => sup_eval I S T F hr hN h0 ea ha h hev he hpl⟩
theorem pea_and (ha : PEa X body a ta) (hb : PE X (.BoolOp .And (b :: rest) pos) tb) : PEa X body (.BoolOp .And (a :: b :: rest) pos) (tAndV ta tb) := by
  refine ⟨fun pins s σ H Q I h => ?_⟩
  refine at_and (ks_wpAt_mono (ha.run pins s σ H _ I h) (fun v s1 ⟨x, H1, I1, r1, q1⟩ => ?_) fun _ _ z => z)
  obtain ⟨c, rfl, q1⟩ := q1
  cases r1
  refine wpAny_truthy_bool ?_
  cases c with
  | true => exact hb.run pins s1 σ H1 Q I1 q1
  | false => exact ⟨.bl false, H1, I1, rfl, q1⟩
theorem pta_val (h : PEa X body e te) (he : ∀ whole, isTrue e X.env whole = (do let v ← whole; standAt e.pos; holding [v] (truthy v)) := by intro _; rfl) : PTa X body e (tB te) := by
  refine ⟨fun pins s σ H Q I hw => ?_⟩
  rw [he]
  refine _root_.PySem.wpAt_bind (ks_wpAt_mono (h.run pins s σ H _ I hw) (fun v s1 ⟨x, H1, I1, r1, q1⟩ => wpAt_of_wpAny (wpAny_bind (wpAny_standAt (wpAny_holding ?_)))) fun _ _ z => z)
  obtain ⟨d, rfl, q⟩ := q1
  cases r1
  exact wpAny_truthy_bool ⟨H1, I1, q⟩
theorem pta_not (h : PTa X body a tA) : PTa X body (.UnaryOp .Not a pos) (tNot tA) := ⟨fun pins s σ H Q I hw => at_not (h.run pins s σ H (fun c H1 => Q (!c) H1) I hw)⟩
theorem pta_or (ha : PTa X body a tA) (hb : PW X (.BoolOp .Or (b :: rest) pos) tB') : PTa X body (.BoolOp .Or (a :: b :: rest) pos) (tOr tA tB') := by
  refine ⟨fun pins s σ H Q I h => ?_⟩
  refine at_or (ks_wpAt_mono (ha.run pins s σ H _ I h) (fun c s1 ⟨H1, I1, q1⟩ => ?_) fun _ _ z => z)
  cases c with
  | true => exact ⟨H1, I1, q1⟩
  | false => exact hb.run _ pins s1 σ H1 Q I1 q1
theorem psa_ret (h : PEa X body e te) : PSa X body (.Return (some e) pos) (tRet te) :=
  ⟨fun pins s σ H D I w => ks_wpAt_Return_some (ks_wpAt_mono (h.run pins s σ H _ I w) (fun v s1 ⟨x, H1, I1, r1, q1⟩ => ⟨x, σ, H1, I1, r1, q1⟩) fun _ _ z => z)⟩
theorem psa_if {c : Expr} {x y : List Stmt} {tc : TT} (hc : PTa X body c tc) (ha : PSs X x t) (hb : PSs X y u) : PSa X body (.If c x y pos) (tIfS tc t u) := by
  refine ⟨fun pins s σ H D I h => ?_⟩
  refine ks_wpAt_If (ks_wpAt_mono (hc.run pins s σ H _ I h) (fun d s1 ⟨H1, I1, q1⟩ => ?_) fun _ _ z => z)
  cases d with
  | true => exact wpAt_of_wpAny (ha.run pins s1 σ H1 D I1 q1)
  | false => exact wpAt_of_wpAny (hb.run pins s1 σ H1 D I1 q1)
theorem PSa.of (h : PS X st t) : PSa X body st t := ⟨fun pins s σ H D I w => wpAt_of_wpAny (h.run pins s σ H D I w)⟩
theorem PSsa.of (h : PSs X sts t) : PSsa X body sts t := ⟨fun pins s σ H D I w => wpAt_of_wpAny (h.run pins s σ H D I w)⟩
theorem pssa_cons (h : PSa X body st t) (hs : PSsa X body sts u) : PSsa X body (st :: sts) (tSeq t u) := by
  refine ⟨fun pins s σ H D I w => ?_⟩
  refine ks_wpAt_execs_cons (ks_wpAt_mono (h.run pins s σ H _ I w) (fun fl s1 hf => ?_) fun _ _ z => z)
  cases fl with
  | next =>
    obtain ⟨σ', H', J, q⟩ := hf
    exact hs.run pins s1 σ' H' D J q
  | brk => exact hf
  | cont => exact hf
  | ret u => exact hf
theorem pssa_one (h : PSa X body st t) : PSsa X body [st] t := by
  refine ⟨fun pins s σ H D I w => ?_⟩
  refine ks_wpAt_execs_cons (ks_wpAt_mono (h.run pins s σ H _ I w) (fun fl s1 hf => ?_) fun _ _ z => z)
  cases fl with
  | next => exact wpAt_of_wpAny (wpAny_execs_nil hf)
  | brk => exact hf
  | cont => exact hf
  | ret u => exact hf
end
section
variable {CX : CXT} {P : Program} {w : World} {K : PySem.W.Frag} {mg : Str → Option Value} {base : Heap} {k : Nat} {F : NF} {f cc D : Addr} {kV doc pm ct oc : Value} {an od : Option Addr} {osl : Array (Option Value)} {N ps : List Str} {sp : Sp}
/-- a def with the class's cell, whose body says super() -/
theorem fn_at (lk : K.lookup f = some ⟨oc, od, .func (PySem.W.fnX F.name F.qual F.params F.body F.scope F.cl .none kV doc pm an (.ref F.c) ct), osl⟩) (hcd : PySem.W.codeIn K (.ref F.c) F.qual = true) (hcl : F.cl = [(("__class__" : Str), cc)])
    (hcc : ∃ cl cld csl, K.lookup cc = some ⟨cl, cld, .cell (some (.ref D)), csl⟩) (S : NScope N ps ["__class__"] F.scope)
    (len : ∀ vs H Q E, sp vs H Q E → vs.length = ps.length)
    (hbody : ∀ (A : Around) (outer : List Env) (s : Shared) (H : Hp) (vs : List V) (Q : VK) (E : XK), Room k (A.deeper (envF F f s.heap.objs.size)) → sp vs H Q E →
      ∃ t : TS, PSsa (ncx CX P w K mg base N F f A outer s H E) F.body F.body t ∧ t { nx := fun _ H' => Q .non H', rt := Q } (startF N vs [none]) H) :
    FnOk P w K mg base CX (k + 1) f (PySem.W.fnX F.name F.qual F.params F.body F.scope F.cl .none kV doc pm an (.ref F.c) ct) ps sp := by
  refine ⟨len, fun A outer s H args us vs Q E hr e0 hb r hsp => ?_⟩
  have hl := len _ _ _ _ hsp
  have KX : K.In s.heap := e0.mod.kin.keeps fun b o e => (e0.bs b o e).1
  have lim : s.heap.NoLimit := e0.mod.nolimit.keeps fun b o e => (e0.bs b o e).1
  obtain ⟨cl, cld, csl, hcc⟩ := hcc
  have C : CellsAt F.cl ["__class__"] [none] s.heap H := by
    have one : ∀ {y : Str} {c : Addr}, F.cl.lookup y = some c → y = "__class__" ∧ c = cc := fun {y c} e => by
      rw [hcl] at e
      by_cases h : y = ("__class__" : Str)
      · subst h
        have e2 : some cc = some c := e
        exact ⟨rfl, (Option.some.inj e2).symm⟩
      · have h2 : (y == ("__class__" : Str)) = false := by simpa using h
        rw [List.lookup_cons, h2] at e
        cases e
    refine ⟨rfl, fun y c e => ?_, fun x y c e1 e2 => (one e1).1.trans (one e2).1.symm, fun i y hi => ?_⟩
    · rw [(one e).2]
      exact ⟨(e0.bs _ _ (e0.mod.kin _ _ hcc)).2, _, ⟨_, KX _ _ hcc, rfl⟩⟩
    · cases i with
      | zero =>
        have e : ("__class__" : Str) = y := Option.some.inj hi
        refine ⟨cc, by rw [hcl, ← e]; rfl, fun v hv => ?_⟩
        cases hv
      | succ i => cases hi
  refine ks_codeAny_call_defAt hr.depth (KX _ _ lk) rfl lim (PySem.W.codeRec_of KX hcd) rfl hb S.nocell (fun ⟨n, v⟩ hy => S.par n (List.of_mem_zip hy).1) (fun h₁ hns kp => ?_) S.co S.gen S.kind
  show _root_.PySem.wpAt (model P w) (A.deeper (envF F f s.heap.objs.size)) (.func F.body (envF F f s.heap.objs.size)) (execs F.body (envF F f s.heap.objs.size)) _ _ _
  obtain ⟨t, ps', hq⟩ := hbody A outer s H vs Q E (hr.deeper _) hsp
  have I : Inv (ncx CX P w K mg base N F f A outer s H E) [] (startF N vs [none]) H { s with heap := h₁, toks := s.toks + (ps.zip us).length } := inv_startN S hr.hd e0 hl r C hns kp
  have fin : ∀ {s' : Shared} {σ' : L2.St} {H' : Hp} {v : V} {u : Value}, Inv (ncx CX P w K mg base N F f A outer s H E) [] σ' H' s' → L2.RelV v u → Q v H' → CE outer P w H s Q u s' :=
    fun {s' σ' H' v u} J rv q => ⟨v, H', J.os, J.bare, J.base, J.hok, rv, q⟩
  refine ks_wpAt_mono (ps'.run [] _ (startF N vs [none]) H _ I hq) (fun fl s' hs => ?_) fun e s' hs => hs
  cases fl with
  | ret u =>
    obtain ⟨v, σ', H', J, rv, q⟩ := hs
    exact fin J rv q
  | next =>
    obtain ⟨σ', H', J, q⟩ := hs
    exact fin (v := V.non) (u := Value.none) J rfl q
  | brk =>
    obtain ⟨_, _, _, q⟩ := hs
    exact False.elim q
  | cont =>
    obtain ⟨_, _, _, q⟩ := hs
    exact False.elim q
end
end SupM
/-! sorted(xs), xs a list of data (alike tuples, ..), any length: the stable sort by the order of data. -/
namespace So
open PySem PySem.Spec PyProof.Rows L2 Bx TL Dx PySem.W
section
variable {X : Cx} {pins : List (Addr × Obj)} {σ : L2.St} {H : Hp} {s : Shared}
theorem each_of (I : Inv X pins σ H s) : ∀ {vs : List V} {us : List Value} {ds : List PyData}, DpAll X.K H vs ds → Vals vs us → EachIs (fun u d => (∃ v, Dp X.K H v d ∧ L2.RelV v u) ∧ ∃ as, Reads s.heap u d as) us ds
  | [], [], [], _, _ => .nil
  | v :: vs, u :: us, d :: ds, h, r => by
    cases h with
    | cons h1 h2 =>
      cases r with
      | cons r1 r2 => exact .cons ⟨⟨v, h1, r1⟩, Dp.reads I d v u h1 r1⟩ (each_of I h2 r2)
  | [], _ :: _, _, _, r => by cases r
  | _ :: _, [], _, _, r => by cases r
  | [], [], _ :: _, h, _ => by cases h
  | _ :: _, _ :: _, [], h, _ => by cases h
theorem each_back {K : Frag} : ∀ {us : List Value} {ds : List PyData}, EachIs (fun u d => ∃ v, Dp K H v d ∧ L2.RelV v u) us ds → ∃ vs, Vals vs us ∧ DpAll K H vs ds
  | _, _, .nil => ⟨[], .nil, .nil⟩
  | _, _, .cons ⟨v, h, r⟩ t => by
    obtain ⟨vs, r2, h2⟩ := each_back t
    exact ⟨v :: vs, .cons r r2, .cons h h2⟩
def dle : PyData → PyData → Bool := dataLe false id
def rSortD (K : Frag) : List V → Hp → VK → Prop := fun xs H Q => ∃ (a : Addr) (vs : List V) (ds : List PyData), xs = [V.ref a] ∧ SqL K H a vs ∧ DpAll K H vs ds ∧ AllAlike ds ∧ Sortable ds ∧ ds.length ≤ sizeLine ∧ (∀ d ∈ ds, d.depth ≤ 60) ∧
  ∀ (ys : List V) (p : Addr), H p = none → DpAll K H ys (ds.mergeSort dle) → Q (.ref p) (upd H p (.lst ys))
theorem cr_sortD (hu : X.A.units + 65 < cLine) : CallR X (.builtin "sorted") (rSortD X.K) := by
  intro pins s σ H xs us Q I r h
  obtain ⟨a, vs, ds, rfl, hs, hd, hal, hso, hz, hdp, q⟩ := h
  cases r with
  | cons r1 r2 =>
    cases r2
    cases r1
    obtain ⟨its, rv, hl, _⟩ := I.list hs
    have ea := each_of I hd rv
    refine sorted_data (bs := ds) (enc := id) (R := fun u d => ∃ v, Dp X.K H v d ∧ L2.RelV v u) hl.isList (ea.mono fun _ _ z => z.1) (ea.mono fun _ _ z => z.2) (by rw [List.map_id]; exact hal) (by rw [List.map_id]; exact hso) hz (fun d hd => ?_) fun out hlen eo => ?_
    · have := hdp d hd
      show X.A.units + 2 + d.depth < cLine
      omega
    · obtain ⟨ys, ry, dy⟩ := each_back eo
      obtain ⟨ep, he'⟩ := PyProof.Rows.sortedAll_at s.heap its out.toArray
      have hyl : ys.length = ds.length := by rw [ry.length, hlen]
      exact ⟨.ref _, upd H (s.heap.objs.size + 1) (.lst ys), I.laid (t' := s.toks) (fun _ _ => PyProof.Rows.sortedAll_old) (Nat.le_succ _) ⟨by rw [hyl]; exact hz, out, ep, ry, by simpa using he'⟩, rfl, q ys _ (I.hok.fresh (Nat.le_succ _)) dy⟩
end
end So
/-! Sets of nested tuples of ints and texts, fewer than 64 members: set(xs), sorted(..), `in`. -/
namespace Sd
open PySem PySem.Spec PyProof.Rows L2
abbrev NK := PySem.NestedKey
/-- the tuple at a is the key k -/
def Is8 (h : PySem.Heap) (k : NK) (a : Addr) : Prop := NestedIs h k (.ref a) ∧ k.depth ≤ 8
def ClsAt (P : Program) (w : World) (n : Nat) (s : Shared) (v : Value) : Prop := ∀ (A : Around) (E : Value → Shared → Prop) (Q : Bool → Shared → Prop), Q false s → wpAny (model P w) A (ofAClassStatement n v) Q E s
def HbvAt (P : Program) (w : World) (n : Nat) (s : Shared) (v : Value) : Prop := ∀ (A : Around) (E : Value → Shared → Prop) (Q : Bool → Shared → Prop), (∀ b, Q b s) → wpAny (model P w) A (hashByValue n v) Q E s
section
variable {P : Program} {w : World} {A : Around} {E : Value → Shared → Prop} {s : Shared}
theorem cls_pure {n : Nat} {v : Value} (e : ofAClassStatement n v = pure false) : ClsAt P w n s v := fun A E Q q => by
  rw [e]
  exact wpAny_pure q
theorem hbv_pure {n : Nat} {v : Value} {b : Bool} (e : hashByValue n v = pure b) : HbvAt P w n s v := fun A E Q q => by
  rw [e]
  exact wpAny_pure (q b)
theorem cls_tuple {n m : Nat} {a : Addr} {o : Obj} {vs : Array Value} (ho : s.heap.get? a = some o) (hc : o.cls = .type "tuple") (hd : o.data = .seq vs m) (all : ∀ v ∈ vs.toList, ClsAt P w n s v) : ClsAt P w (n + 1) s (.ref a) := fun A E Q q => by
  unfold ofAClassStatement
  refine wpAny_bind (wpAny_typeOf (show s.TypeIs (.ref a) "tuple" from ⟨o, ho, hc⟩) ?_)
  simp only [show (("tuple" : String) == "tuple") = true by decide, if_true, pure_bind, Bool.not_true, Bool.false_eq_true, if_false]
  refine wpAny_bind (wpAny_seqItems ho hd (wpAny_bind ?_))
  rw [← Array.forIn_toList]
  refine wpAny_forIn_list _ (fun left r s' => s' = s ∧ r.1 = none ∧ ∀ v ∈ left, ClsAt P w n s v) _ ?_ ?_ _ _ ⟨rfl, rfl, all⟩
  · rintro v left r s' ⟨rfl, e, rest⟩
    refine wpAny_bind (rest v (List.mem_cons_self ..) _ _ _ ?_)
    simp only [Bool.false_eq_true, if_false]
    exact wpAny_pure ⟨rfl, rfl, fun u hu => rest u (List.mem_cons_of_mem _ hu)⟩
  · rintro ⟨r, x⟩ s' ⟨rfl, e, _⟩
    simp only at e
    subst e
    exact wpAny_pure q
theorem hbv_tuple {n m : Nat} {a : Addr} {o : Obj} {vs : Array Value} (ho : s.heap.get? a = some o) (hc : o.cls = .type "tuple") (hd : o.data = .seq vs m) (all : ∀ v ∈ vs.toList, HbvAt P w n s v) : HbvAt P w (n + 1) s (.ref a) := fun A E Q q => by
  unfold hashByValue
  refine wpAny_bind (wpAny_specialOf (show s.TypeIs (.ref a) "tuple" from ⟨o, ho, hc⟩) F.slot_tuple_hash.lookup ?_)
  show wpAny _ _ (seqItems? (.ref a) >>= _) _ _ s
  refine wpAny_bind (wpAny_seqItems ho hd (wpAny_bind ?_))
  show wpAny _ _ (forIn vs _ _) _ _ s
  rw [← Array.forIn_toList]
  refine wpAny_forIn_list _ (fun left r s' => s' = s ∧ r.1 = none ∧ ∀ v ∈ left, HbvAt P w n s v) _ ?_ ?_ _ _ ⟨rfl, rfl, all⟩
  · rintro v left r s' ⟨rfl, e, rest⟩
    refine wpAny_bind (rest v (List.mem_cons_self ..) _ _ _ fun b => ?_)
    cases b with
    | true =>
      simp only [Bool.not_true, Bool.false_eq_true, if_false]
      exact wpAny_pure ⟨rfl, rfl, fun u hu => rest u (List.mem_cons_of_mem _ hu)⟩
    | false =>
      simp only [Bool.not_false, if_true]
      exact wpAny_pure (wpAny_pure (q false))
  · rintro ⟨r, x⟩ s' ⟨rfl, e, _⟩
    simp only at e
    subst e
    exact wpAny_pure (q true)
mutual
theorem cls_key : ∀ (k : NK) (v : Value) (n : Nat), NestedIs s.heap k v → k.depth ≤ n → ClsAt P w n s v
  | .none, _, n, x, _ => by
    cases x
    exact cls_pure (by cases n <;> rfl)
  | .num i, _, n, x, _ => by
    cases x <;> exact cls_pure (by cases n <;> rfl)
  | .text y, _, n, x, _ => by
    cases x
    exact cls_pure (by cases n <;> rfl)
  | .tup ks, _, n, x, hn => by
    cases x with
    | tup hg hc hd hk =>
      simp only [NestedKey.depth] at hn
      cases n with
      | zero => omega
      | succ n => exact cls_tuple hg hc hd (cls_keys ks _ n hk (by omega))
theorem cls_keys : ∀ (ks : List NK) (vs : List Value) (n : Nat), NestedAll s.heap ks vs → NestedKey.depthAll ks ≤ n → ∀ v ∈ vs, ClsAt P w n s v
  | [], _, n, x, _, v, hv => by
    cases x
    cases hv
  | k :: ks, _, n, x, hn, v, hv => by
    cases x with
    | cons x1 x2 =>
      simp only [NestedKey.depthAll] at hn
      rcases List.mem_cons.mp hv with e | hv
      · rw [e]
        exact cls_key k _ n x1 (by omega)
      · exact cls_keys ks _ n x2 (by omega) v hv
end
mutual
theorem hbv_key : ∀ (k : NK) (v : Value) (n : Nat), NestedIs s.heap k v → k.depth ≤ n → HbvAt P w n s v
  | .none, _, n, x, _ => by
    cases x
    exact hbv_pure (b := true) (by cases n <;> rfl)
  | .num i, _, n, x, _ => by
    cases x <;> exact hbv_pure (b := true) (by cases n <;> rfl)
  | .text y, _, n, x, _ => by
    cases x
    exact hbv_pure (b := false) (by cases n <;> rfl)
  | .tup ks, _, n, x, hn => by
    cases x with
    | tup hg hc hd hk =>
      simp only [NestedKey.depth] at hn
      cases n with
      | zero => omega
      | succ n => exact hbv_tuple hg hc hd (hbv_keys ks _ n hk (by omega))
theorem hbv_keys : ∀ (ks : List NK) (vs : List Value) (n : Nat), NestedAll s.heap ks vs → NestedKey.depthAll ks ≤ n → ∀ v ∈ vs, HbvAt P w n s v
  | [], _, n, x, _, v, hv => by
    cases x
    cases hv
  | k :: ks, _, n, x, hn, v, hv => by
    cases x with
    | cons x1 x2 =>
      simp only [NestedKey.depthAll] at hn
      rcases List.mem_cons.mp hv with e | hv
      · rw [e]
        exact hbv_key k _ n x1 (by omega)
      · exact hbv_keys ks _ n x2 (by omega) v hv
end
/-- looking such a key up shows nothing -/
theorem unseen {k : NK} {b : Addr} {Q : Bool → Shared → Prop} (hk : Is8 s.heap k b) {ys : List Value} (hy : ∀ y ∈ ys, ∃ k' c, y = Value.ref c ∧ Is8 s.heap k' c) (q : Q false s) : wpAny (model P w) A (searchCouldBeSeen (.ref b) ys) Q E s := by
  unfold searchCouldBeSeen
  refine wpAny_bind (wpAny_forIn_list _ (fun left r s' => s' = s ∧ r.1 = none ∧ ∀ y ∈ left, ∃ k' c, y = Value.ref c ∧ Is8 s.heap k' c) _ ?_ ?_ _ _ ⟨rfl, rfl, hy⟩)
  · rintro v left r s' ⟨rfl, e, all⟩
    obtain ⟨k', c, rfl, hc⟩ := all v (List.mem_cons_self ..)
    have rest : ∀ y ∈ left, ∃ k' c, y = Value.ref c ∧ Is8 s'.heap k' c := fun y hy => all y (List.mem_cons_of_mem _ hy)
    dsimp only
    by_cases hv : (b == c || (carriedByValue (.ref b) && carriedByValue (.ref c))) = true
    · refine wp_if_pos hv ?_
      exact wpAny_pure ⟨rfl, rfl, rest⟩
    · refine wp_if_neg hv ?_
      refine wpAny_bind ((nestedKind P w).quiet (show (nestedKind P w).is s'.heap k b from hk) ?_)
      simp only [Bool.not_true, Bool.false_eq_true, if_false]
      refine wpAny_bind ((nestedKind P w).quiet (show (nestedKind P w).is s'.heap k' c from hc) ?_)
      simp only [Bool.not_true, Bool.false_eq_true, if_false]
      refine wpAny_bind (cls_key k _ 8 hk.1 hk.2 _ _ _ ?_)
      simp only [Bool.false_eq_true, if_false]
      refine wpAny_bind (cls_key k' _ 8 hc.1 hc.2 _ _ _ ?_)
      simp only [Bool.false_eq_true, if_false]
      exact wpAny_pure ⟨rfl, rfl, rest⟩
  · rintro ⟨r, x⟩ s' ⟨rfl, e, _⟩
    simp only at e
    subst e
    exact wpAny_pure q
end
end Sd
namespace Sd
open PySem PySem.Spec PyProof.Rows L2
/-! ### the table -/
abbrev rowN (w : World) (p : Addr × NK) : Int × Value := (p.2.hash w, Value.ref p.1)
structure Ts (w : World) (h : PySem.Heap) (a : Addr) (L : List (Addr × NK)) (es : Array (Int × Value)) (ep : Nat) (t : SetTable) : Prop where
  obj : ∃ o, h.get? a = some o ∧ o.ExactSet ∧ o.data = .set es ep t
  row : es.toList = L.map (rowN w)
  tab : TabOk t (L.map fun p => p.2.hash w)
  one : (L.map (·.2)).Nodup
  mem : ∀ p ∈ L, Is8 h p.2 p.1
  led : w.params.followText "set-order" = true ∨ t.led = true
  free : L.length * 5 < t.mask * 3
  few : L.length < 64
/-- where the search for the hash h begins -/
abbrev beg (t : SetTable) (h : Int) : SetTable.Probe := runAt t.mask (SetTable.bits h % (t.mask + 1)) (SetTable.bits h)
section
variable {P : Program} {w : World} {A : Around} {E : Value → Shared → Prop} {s : Shared} {a : Addr} {L : List (Addr × NK)} {es : Array (Int × Value)} {ep : Nat} {t : SetTable}
theorem Ts.num (R : Ts w s.heap a L es ep t) : es.size = L.length := by
  have z := congrArg List.length R.row
  rwa [Array.length_toList, List.length_map] at z
theorem Ts.fit (R : Ts w s.heap a L es ep t) : t.fits es.size = true := by
  have z1 := R.tab.sz
  have z2 := R.num
  have z3 := R.free
  rw [List.length_map] at z1
  unfold SetTable.fits SetTable.fill
  rw [R.tab.dm, Bool.and_eq_true, beq_iff_eq, decide_eq_true_eq]
  show t.place.size = es.size ∧ t.place.size + 0 ≤ t.mask
  omega
theorem Ts.at (R : Ts w s.heap a L es ep t) {i : Nat} {p : Addr × NK} (e : L[i]? = some p) : es[i]? = some (rowN w p) := by
  rw [← Array.getElem?_toList, R.row, List.getElem?_map, e]
  rfl
theorem Ts.nogw (R : Ts w s.heap a L es ep t) : ¬ t.gaveWay = true := by
  unfold SetTable.gaveWay
  rw [mask_odd R.tab.mok]
  exact Bool.false_ne_true
theorem beg_quiet (m : Nat) : ∀ (n : Nat) (p : SetTable.Probe), p.dummy = none → (nth m p n).dummy = none
  | 0, _, h => h
  | n + 1, p, h => beg_quiet m n (adv m p) (by
    unfold adv
    split <;> exact h)
/-- from step c of the way on: found, or the first empty slot -/
theorem look_from (R : Ts w s.heap a L es ep t) {x : Addr} {k : NK} (hx : Is8 s.heap k x) (hu : A.units + 8 < cLine) {K : Nat} (K1 : K < 10 * SetTable.turns t.mask) (K2 : way t.mask (k.hash w) K ∉ t.place.toList) (K3 : ∀ c, c < K → way t.mask (k.hash w) c ∈ t.place.toList)
    {Q : SetFound → Shared → Prop} (yes : k ∈ L.map (·.2) → Q (.there none) s) (no : k ∉ L.map (·.2) → Q (.free (way t.mask (k.hash w) K) false) s) :
    ∀ (fuel c : Nat) (stand : Option SetTable.Probe), stand.getD (t.probeStart (k.hash w)) = nth t.mask (beg t (k.hash w)) c → c ≤ K → K - c < fuel →
      (∀ (i : Nat) p, L[i]? = some p → p.2 = k → ∃ d, c ≤ d ∧ d < K ∧ t.place.toList[i]? = some (way t.mask (k.hash w) d)) → wpAny (model P w) A (setSearchFrom a (.ref x) (k.hash w) true fuel stand) Q E s := by
  intro fuel
  induction fuel with
  | zero => exact fun c _ _ _ lt _ => absurd lt (Nat.not_lt_zero _)
  | succ fuel ih =>
    intro c stand est cK lt here
    obtain ⟨o, ho, hex, hd⟩ := R.obj
    have sum : ∀ q, nth t.mask (nth t.mask (beg t (k.hash w)) c) q = nth t.mask (beg t (k.hash w)) (c + q) := fun q => (nth_add t.mask c _ q).symm
    have wy : ∀ q, (nth t.mask (nth t.mask (beg t (k.hash w)) c) q).j = way t.mask (k.hash w) (c + q) := fun q => congrArg SetTable.Probe.j (sum q)
    have hsh : ∀ (i : Nat) p, L[i]? = some p → (es[i]?.map (·.1)).getD 0 = p.2.hash w := fun i p hp => by
      rw [R.at hp]
      rfl
    have met := go_spec t R.tab.ris R.tab.dm (fun i => (es[i]?.map (·.1)).getD 0) (k.hash w) (10 * SetTable.turns t.mask) (K - c) _ (beg_quiet t.mask c (beg t (k.hash w)) rfl) (by omega) (fun q hq => by rw [wy]; exact K3 _ (by omega)) (by rw [wy, show c + (K - c) = K by omega]; exact K2)
    rw [setSearchFrom_succ]
    refine wpAny_bind (wpAny_setState_of ho hd R.fit ?_)
    dsimp only
    refine wp_if_neg R.nogw ?_
    try refine wpAny_bind (wpAny_pure ?_)
    rcases met with ⟨q, i, hq, hi, hh, hno, pr⟩ | ⟨hno, pr⟩
    · have pr2 : t.probe (fun i => (es[i]?.map (·.1)).getD 0) (k.hash w) (stand.getD (t.probeStart (k.hash w))) = some (.candidate (way t.mask (k.hash w) (c + q)) i (nth t.mask (beg t (k.hash w)) (c + (q + 1)))) := by
        rw [est, ← wy, ← sum]
        exact pr
      rw [pr2]
      dsimp only
      rw [wy] at hi
      have iL : i < L.length := by
        have z1 := (List.getElem?_eq_some_iff.mp hi).1
        have z2 := R.tab.sz
        rw [List.length_map] at z2
        rw [Array.length_toList] at z1
        omega
      obtain ⟨p, hp⟩ : ∃ p, L[i]? = some p := ⟨_, List.getElem?_eq_getElem iL⟩
      have pm : p ∈ L := List.mem_of_getElem? hp
      have go : wpAny (model P w) A (searchRest a (.ref x) (k.hash w) true fuel es t (way t.mask (k.hash w) (c + q)) i (nth t.mask (beg t (k.hash w)) (c + (q + 1)))) Q E s := by
        unfold searchRest
        rw [R.at hp]
        dsimp only
        refine wpAny_bind (wpAny_holding ((nestedKind P w).eqBool (show A.units + 8 < cLine from hu) (show (nestedKind P w).is s.heap p.2 p.1 from R.mem p pm) (show (nestedKind P w).is s.heap k x from hx) ?_))
        refine wpAny_bind (wpAny_setState_of ho hd R.fit ?_)
        dsimp only
        by_cases e : p.2 = k
        · refine wp_if_pos (by simp [e]) ?_
          exact wpAny_pure (yes (List.mem_map.mpr ⟨p, pm, e⟩))
        · refine wp_if_neg (by simp [e]) ?_
          try refine wpAny_bind (wpAny_pure ?_)
          have live : t.slot (way t.mask (k.hash w) (c + q)) = .live i := slot_live R.tab.ris hi
          rw [sameMem]
          dsimp only
          simp only [if_true, live, R.at hp]
          refine wpAny_bind (wpAny_isSame_ref_self (wpAny_bind (wpAny_pure ?_)))
          simp only [if_true]
          refine wp_if_neg (by simp [e]) ?_
          refine ih (c + (q + 1)) _ rfl (by omega) (by omega) fun i' p' hp' e' => ?_
          obtain ⟨d, d1, d2, d3⟩ := here i' p' hp' e'
          refine ⟨d, Nat.not_lt.mp fun lt' => ?_, d2, d3⟩
          rcases Nat.lt_or_ge d (c + q) with z | z
          · exact hno (d - c) i' (by omega) (by rw [wy, show c + (d - c) = d by omega]; exact d3) ((hsh i' p' hp').trans (by rw [e']))
          · have ed : d = c + q := by omega
            rw [ed] at d3
            have live2 := slot_live R.tab.ris d3
            rw [live] at live2
            injection live2 with ei
            rw [← ei, hp] at hp'
            exact e (by rw [Option.some.inj hp']; exact e')
      by_cases hl : t.led = true
      · refine wp_if_neg (by simp [hl]) ?_
        try refine wpAny_bind (wpAny_pure ?_)
        exact go
      · refine wp_if_pos (by simp [hl]) ?_
        refine wpAny_bind (unseen hx (fun y hy => ?_) ?_)
        · obtain ⟨e, he, rfl⟩ := List.mem_map.mp hy
          have e1 : e ∈ es ∧ e.1 = k.hash w := by simpa using he
          have e2 : e ∈ es.toList := by simpa using e1.1
          rw [R.row] at e2
          obtain ⟨p', hp', rfl⟩ := List.mem_map.mp e2
          exact ⟨p'.2, p'.1, rfl, R.mem p' hp'⟩
        · refine wp_if_neg Bool.false_ne_true ?_
          try refine wpAny_bind (wpAny_pure ?_)
          exact go
    · have pr2 : t.probe (fun i => (es[i]?.map (·.1)).getD 0) (k.hash w) (stand.getD (t.probeStart (k.hash w))) = some (.empty (way t.mask (k.hash w) K) none) := by
        have z := wy (K - c)
        rw [show c + (K - c) = K by omega] at z
        rw [est, ← z]
        exact pr
      rw [pr2]
      dsimp only
      refine wpAny_pure (no fun hm => ?_)
      obtain ⟨p, pm, e⟩ := List.mem_map.mp hm
      obtain ⟨i, hp⟩ := List.mem_iff_getElem?.mp pm
      obtain ⟨d, d1, d2, d3⟩ := here i p hp e
      exact hno (d - c) i (by omega) (by rw [wy, show c + (d - c) = d by omega]; exact d3) ((hsh i p hp).trans (by rw [e]))
theorem look (R : Ts w s.heap a L es ep t) {x : Addr} {k : NK} (hx : Is8 s.heap k x) (hu : A.units + 8 < cLine) {Q : SetFound → Shared → Prop} (yes : k ∈ L.map (·.2) → Q (.there none) s)
    (no : ∀ K, k ∉ L.map (·.2) → way t.mask (k.hash w) K ∉ t.place.toList → (∀ c, c < K → way t.mask (k.hash w) c ∈ t.place.toList) → Q (.free (way t.mask (k.hash w) K) false) s) : wpAny (model P w) A (setSearch a (.ref x) (k.hash w) true) Q E s := by
  have z := R.free
  obtain ⟨K, K1, K2, K3⟩ := R.tab.first (by rw [List.length_map]; omega) (k.hash w)
  have small : 10 * SetTable.turns t.mask ≤ 1500 := by
    unfold SetTable.turns
    rcases R.tab.mok with e | e | e <;> omega
  unfold setSearch
  refine look_from R hx hu K1 K2 K3 yes (fun n => no K n K2 K3) 100000 0 none rfl (Nat.zero_le _) (by omega) fun i p hp e => ?_
  have hi : (L.map fun p => p.2.hash w)[i]? = some (k.hash w) := by
    rw [List.getElem?_map, hp, ← e]
    rfl
  have il : i < t.place.toList.length := by
    have z1 := (List.getElem?_eq_some_iff.mp hp).1
    have z2 := R.tab.sz
    rw [List.length_map] at z2
    rw [Array.length_toList]
    omega
  obtain ⟨j, hj⟩ : ∃ j, t.place.toList[i]? = some j := ⟨_, List.getElem?_eq_getElem il⟩
  obtain ⟨d, d1, d2⟩ := R.tab.before K2 hi hj
  exact ⟨d, Nat.zero_le _, d1, by rw [hj, d2]⟩
end
end Sd
namespace Sd
open PySem PySem.Spec PyProof.Rows L2
/-! ### the table laid anew; one key more -/
theorem range_get {α : Type} (L : List α) : ∀ n, n ≤ L.length → (List.range n).filterMap (fun i => L[i]?) = L.take n
  | 0, _ => rfl
  | n + 1, hn => by
    obtain ⟨x, e⟩ : ∃ x, L[n]? = some x := ⟨_, List.getElem?_eq_getElem hn⟩
    rw [List.range_succ, List.filterMap_append, range_get L n (Nat.le_of_succ_le hn), List.take_add_one, e]
    congr 1
    rw [List.filterMap_cons_some e]
    rfl
section
variable {P : Program} {w : World} {A : Around} {E : Value → Shared → Prop} {s : Shared} {a : Addr} {L : List (Addr × NK)} {es : Array (Int × Value)} {ep : Nat} {t : SetTable}
theorem ordered {order : Array Nat} (row : es.toList = L.map (rowN w)) (pm : order.toList.Perm (List.range L.length)) :
    ∃ M : List (Addr × NK), (order.filterMap (es[·]?)).toList = M.map (rowN w) ∧ M.Perm L ∧ (M.map fun p => p.2.hash w) = order.toList.map fun i => (es.map (·.1)).getD i 0 := by
  have ent : ∀ i : Nat, es[i]? = (L[i]?).map (rowN w) := fun i => by rw [← Array.getElem?_toList, row, List.getElem?_map]
  refine ⟨order.toList.filterMap (fun i => L[i]?), ?_, ?_, ?_⟩
  · rw [List.map_filterMap]
    have z : (order.filterMap (es[·]?)).toList = order.toList.filterMap (fun i => es[i]?) := by simp
    rw [z]
    congr 1
    funext i
    exact ent i
  · have z := pm.filterMap (fun i => L[i]?)
    rwa [range_get L L.length (Nat.le_refl _), List.take_length] at z
  · have all : ∀ i ∈ order.toList, i < L.length := fun i hi => List.mem_range.mp (pm.mem_iff.mp hi)
    revert all
    generalize order.toList = l
    intro all
    induction l with
    | nil => rfl
    | cons i l ih =>
      obtain ⟨p, hp⟩ : ∃ p, L[i]? = some p := ⟨_, List.getElem?_eq_getElem (all i (List.mem_cons_self ..))⟩
      have e1 : (es.map (·.1)).getD i 0 = p.2.hash w := by
        have z : (es.map (·.1))[i]? = some (p.2.hash w) := by
          rw [Array.getElem?_map, ent i, hp]
          rfl
        simp [Array.getD_eq_getD_getElem?, z]
      rw [List.filterMap_cons_some hp, List.map_cons, List.map_cons, ih fun j hj => all j (List.mem_cons_of_mem _ hj), e1]
theorem is8_but {h h' : PySem.Heap} {k : NK} {b : Addr} {o : Obj} (x : Is8 h k b) (ho : h.get? a = some o) (hd : o.data = .set es ep t) (sb : Heap.SameBut a h h') : Is8 h' k b :=
  ⟨NestedIs.at (fun c oc vs n hc hv => by
    refine (sb.2 c fun e => ?_).trans hc
    rw [e, ho] at hc
    cases hc
    rw [hd] at hv
    cases hv) k _ x.1, x.2⟩
theorem is8_keep {h h' : PySem.Heap} {k : NK} {b : Addr} (x : Is8 h k b) (kp : ∀ c o, h.get? c = some o → h'.get? c = some o) : Is8 h' k b := ⟨NestedIs.at (fun c o _ _ hc _ => kp c o hc) k _ x.1, x.2⟩
theorem relay {o : Obj} (ho : s.heap.get? a = some o) (hex : o.ExactSet) (hd : o.data = .set es ep t) (row : es.toList = L.map (rowN w)) (hsz : t.place.size = es.size) (hdm : t.dummies = #[]) (hfl : es.size ≤ t.mask) (one : (L.map (·.2)).Nodup) (mem : ∀ p ∈ L, Is8 s.heap p.2 p.1)
    (led : w.params.followText "set-order" = true ∨ t.led = true) (few : L.length < 64) {want M : Nat} (hw : SetTable.sizeAbove want - 1 = M) (hM : MaskOk M) (h128 : SetTable.sizeAbove want ≤ 128) (hn : L.length * 5 < M * 3) {Q : Unit → Shared → Prop}
    (q : ∀ h' L' es' ep' t', Heap.SameBut a s.heap h' → Ts w h' a L' es' ep' t' → L'.Perm L → Q () { s with heap := h' }) : wpAny (model P w) A (setRelay a want) Q E s := by
  have num : es.size = L.length := by
    have z := congrArg List.length row
    rwa [Array.length_toList, List.length_map] at z
  have fit : t.fits es.size = true := by
    unfold SetTable.fits SetTable.fill
    rw [hdm, Bool.and_eq_true, beq_iff_eq, decide_eq_true_eq]
    exact ⟨hsz, by show t.place.size + 0 ≤ t.mask; omega⟩
  obtain ⟨t', order, er, pm, T, em, el, _, _⟩ := relaid_ok t (hs := es.map (·.1)) (wanted := want) hw hM (by rw [Array.size_map, num]; omega)
  rw [Array.size_map, num] at pm
  obtain ⟨M', r1, r2, r3⟩ := ordered row pm
  have num2 : (order.filterMap (es[·]?)).size = es.size := by
    have z := congrArg List.length r1
    rw [Array.length_toList, List.length_map, r2.length_eq] at z
    rw [z, num]
  rw [← r3] at T
  rw [setRelay_eq]
  refine wpAny_bind (wpAny_setState_of ho hd fit ?_)
  dsimp only
  refine wp_if_neg (by rw [sizeLine_eq]; omega) ?_
  try refine wpAny_bind (wpAny_pure ?_)
  rw [er]
  dsimp only
  refine wpAny_bind (wp_if_neg (by rw [num2]; simp) ?_)
  try refine wpAny_bind (wpAny_pure ?_)
  refine wpAny_pure ?_
  dsimp only
  refine wpAny_storeSet_of ho hd ?_ (by rw [num2, num, sizeLine_eq]; omega)
  have sb : Heap.SameBut a s.heap (s.heap.update a (Obj.putSet (order.filterMap (es[·]?)) t')) := Heap.SameBut.update ..
  refine q _ M' _ (ep + 1) t' sb ⟨⟨_, store_at ho hd, ⟨hex.1, hex.2.1, hex.2.2⟩, rfl⟩, r1, T, (r2.map (·.2)).nodup_iff.mpr one, fun p hp => is8_but (mem p (r2.mem_iff.mp hp)) ho hd sb, by rw [el]; exact led, by rw [r2.length_eq, em]; exact hn, by rw [r2.length_eq]; exact few⟩ r2
theorem add1 (R : Ts w s.heap a L es ep t) {x : Addr} {k : NK} (hx : Is8 s.heap k x) (hu : A.units + 8 < cLine) (few : L.length + 1 < 64) {Q : Bool → Shared → Prop}
    (q : ∀ b h' L' es' ep' t', Heap.SameBut a s.heap h' → Ts w h' a L' es' ep' t' → (k ∈ L.map (·.2) → L' = L) → (k ∉ L.map (·.2) → L'.Perm ((x, k) :: L)) → Q b { s with heap := h' }) : wpAny (model P w) A (setAddHashed a (.ref x) (k.hash w)) Q E s := by
  obtain ⟨o, ho, hex, hd⟩ := R.obj
  have num := R.num
  have free := R.free
  unfold setAddHashed
  rw [show (100000 : Nat) = 99999 + 1 from rfl, setAddHashedIn_succ]
  refine wpAny_holding (wpAny_bind (wpAny_setState_of ho hd R.fit ?_))
  dsimp only
  refine wp_if_neg (by simp [byScan, Value.scannable]) ?_
  try refine wpAny_bind (wpAny_pure ?_)
  refine wpAny_bind (look R hx hu (fun hm => ?_) fun K hm K2 K3 => ?_)
  · dsimp only
    exact wpAny_pure (q false s.heap L es ep t (Heap.SameBut.refl a s.heap) R (fun _ => rfl) fun n => absurd hm n)
  dsimp only
  refine wpAny_bind (wpAny_setState_of ho hd R.fit ?_)
  dsimp only
  obtain ⟨p1, p2, p3, p4, p5, p6, p7, p8, p9⟩ := R.tab.put K2 K3
  generalize epp : t.put (way t.mask (k.hash w) K) = pp at p1 p3 p4 p5 p6 p7 p8 p9 ⊢
  obtain ⟨t1, j⟩ := pp
  dsimp only at p1 p3 p4 p5 p6 p7 p8 p9 ⊢
  subst p1
  -- what follows does not depend on `plain`
  have rest : ∀ t2 : SetTable, TabOk t2 ((L.map fun p => p.2.hash w).take (SetTable.below t.place (way t.mask (k.hash w) K)) ++ k.hash w :: (L.map fun p => p.2.hash w).drop (SetTable.below t.place (way t.mask (k.hash w) K))) → t2.mask = t.mask → t2.led = t.led → t2.fill = (L.map fun p => p.2.hash w).length + 1 →
      wpAny (model P w) A (do
        storeSet a (SetTable.insertAt es (SetTable.below t.place (way t.mask (k.hash w) K)) (k.hash w, Value.ref x)) t2
        if !false && t2.tooFull then setRelay a (SetTable.grown (es.size + 1))
        return true : Sem Bool) Q E s := by
    intro t2 T2 m2 l2 f2
    have ins : (SetTable.insertAt es (SetTable.below t.place (way t.mask (k.hash w) K)) (k.hash w, Value.ref x)).toList = (L.take (SetTable.below t.place (way t.mask (k.hash w) K)) ++ (x, k) :: L.drop (SetTable.below t.place (way t.mask (k.hash w) K))).map (rowN w) := by
      rw [SetTable.toList_insertAt, R.row, List.map_append, List.map_cons, List.map_take, List.map_drop]
    have hh : (L.take (SetTable.below t.place (way t.mask (k.hash w) K)) ++ (x, k) :: L.drop (SetTable.below t.place (way t.mask (k.hash w) K))).map (fun p => p.2.hash w) = (L.map fun p => p.2.hash w).take (SetTable.below t.place (way t.mask (k.hash w) K)) ++ k.hash w :: (L.map fun p => p.2.hash w).drop (SetTable.below t.place (way t.mask (k.hash w) K)) := by
      rw [List.map_append, List.map_cons, List.map_take, List.map_drop]
    rw [← hh] at T2
    have pm := put_perm L (SetTable.below t.place (way t.mask (k.hash w) K)) (x, k)
    generalize L.take (SetTable.below t.place (way t.mask (k.hash w) K)) ++ (x, k) :: L.drop (SetTable.below t.place (way t.mask (k.hash w) K)) = L1 at ins T2 pm
    have len1 : L1.length = L.length + 1 := pm.length_eq
    have num1 : (SetTable.insertAt es (SetTable.below t.place (way t.mask (k.hash w) K)) (k.hash w, Value.ref x)).size = L.length + 1 := by
      have z := congrArg List.length ins
      rwa [Array.length_toList, List.length_map, len1] at z
    generalize SetTable.insertAt es (SetTable.below t.place (way t.mask (k.hash w) K)) (k.hash w, Value.ref x) = es1 at ins num1 ⊢
    have one1 : (L1.map (·.2)).Nodup := (pm.map (·.2)).nodup_iff.mpr (by
      rw [List.map_cons]
      exact List.nodup_cons.mpr ⟨hm, R.one⟩)
    refine wpAny_bind (wpAny_storeSet_of ho hd ?_ (by rw [num1, sizeLine_eq]; omega))
    have sb : Heap.SameBut a s.heap (s.heap.update a (Obj.putSet es1 t2)) := Heap.SameBut.update ..
    have ho1 := store_at (es' := es1) (t' := t2) ho hd
    generalize s.heap.update a (Obj.putSet es1 t2) = h1 at sb ho1 ⊢
    have mem1 : ∀ p ∈ L1, Is8 h1 p.2 p.1 := fun p hp => by
      rcases List.mem_cons.mp (pm.mem_iff.mp hp) with e | hp
      · rw [e]
        exact is8_but hx ho hd sb
      · exact is8_but (R.mem p hp) ho hd sb
    have led1 : w.params.followText "set-order" = true ∨ t2.led = true := by
      rw [l2]
      exact R.led
    have full : t2.tooFull = true ↔ (L.length + 1) * 5 ≥ t2.mask * 3 := by
      unfold SetTable.tooFull
      rw [decide_eq_true_eq, f2, List.length_map]
    by_cases hf : t2.tooFull = true
    · have z := full.mp hf
      have two : (t.mask = 7 ∧ L.length = 4) ∨ (t.mask = 31 ∧ L.length = 18) := by
        rcases R.tab.mok with e | e | e <;> rw [m2, e] at z <;> rw [e] at free <;> omega
      have sz1 : t2.place.size = es1.size := by
        have z := T2.sz
        rw [List.length_map, len1] at z
        rw [z, num1]
      rw [num]
      have go : ∀ M, SetTable.sizeAbove (SetTable.grown (L.length + 1)) - 1 = M → MaskOk M → SetTable.sizeAbove (SetTable.grown (L.length + 1)) ≤ 128 → (L.length + 1) * 5 < M * 3 →
          wpAny (model P w) A (setRelay a (SetTable.grown (L.length + 1))) (fun _ s' => wpAny (model P w) A (pure true) Q E s') E { s with heap := h1 } := fun M g1 g2 g3 g4 =>
        relay (s := { s with heap := h1 }) ho1 ⟨hex.1, hex.2.1, hex.2.2⟩ rfl ins sz1 T2.dm (by rw [num1, m2]; rcases two with ⟨e, e2⟩ | ⟨e, e2⟩ <;> omega) one1 mem1 led1 (by rw [len1]; exact few) g1 g2 g3 (by rw [len1]; exact g4) fun h2 L2 es2 ep2 t3 sb2 R2 pm2 =>
          wpAny_pure (q true h2 L2 es2 ep2 t3 (sb.trans sb2) R2 (fun y => absurd y hm) fun _ => pm2.trans pm)
      have goal : wpAny (model P w) A (setRelay a (SetTable.grown (L.length + 1))) (fun _ s' => wpAny (model P w) A (pure true) Q E s') E { s with heap := h1 } := by
        rcases two with ⟨_, e⟩ | ⟨_, e⟩
        · exact go 31 (by rw [e, size_20]) (.inr (.inl rfl)) (by rw [e, size_20]; decide) (by omega)
        · exact go 127 (by rw [e, size_76]) (.inr (.inr rfl)) (by rw [e, size_76]; decide) (by omega)
      first
        | exact wp_if_pos (by simp [hf]) (wpAny_bind goal)
        | exact wpAny_bind (wp_if_pos (by simp [hf]) goal)
    · have fin := q true h1 L1 es1 (ep + 1) t2 sb ⟨⟨_, ho1, ⟨hex.1, hex.2.1, hex.2.2⟩, rfl⟩, ins, T2, one1, mem1, led1, by rw [len1]; have := mt full.mpr hf; omega, by rw [len1]; exact few⟩ (fun y => absurd y hm) fun _ => pm
      first
        | exact wp_if_neg (by simp [hf]) (wpAny_pure fin)
        | exact wpAny_bind (wp_if_neg (by simp [hf]) (wpAny_pure (wpAny_pure fin)))
  have hb : HbvAt P w 8 s (.ref x) := hbv_key k _ 8 hx.1 hx.2
  have off : TabOk { t1 with plain := false } ((L.map fun p => p.2.hash w).take (SetTable.below t.place (way t.mask (k.hash w) K)) ++ k.hash w :: (L.map fun p => p.2.hash w).drop (SetTable.below t.place (way t.mask (k.hash w) K))) := ⟨p3.ris, p3.dm, p3.sz, p3.mok, p3.bd, p3.reach⟩
  have both : ∀ b : Bool, wpAny (model P w) A (do
        storeSet a (SetTable.insertAt es (SetTable.below t.place (way t.mask (k.hash w) K)) (k.hash w, Value.ref x)) (if b then t1 else { t1 with plain := false })
        if !false && (if b then t1 else { t1 with plain := false }).tooFull then setRelay a (SetTable.grown (es.size + 1))
        return true : Sem Bool) Q E s := fun b => by
    cases b with
    | true => exact rest t1 p3 p4 p5 p9
    | false => exact rest { t1 with plain := false } off p4 p5 p9
  by_cases pl : t1.plain = true
  · first
      | exact wpAny_bind (wp_if_pos pl (hb _ _ _ both))
      | exact wp_if_pos pl (wpAny_bind (hb _ _ _ both))
  · first
      | exact wpAny_bind (wp_if_neg pl (wpAny_pure (both true)))
      | exact wp_if_neg pl (wpAny_bind (wpAny_pure (both true)))
      | exact wp_if_neg pl (both true)
end
end Sd
namespace Sd
open PySem PySem.Spec PyProof.Rows L2
/-! ### set(xs): the loop -/
/-- what the first i keys leave -/
structure Some1 (ks : List (Addr × NK)) (i : Nat) (L : List (Addr × NK)) : Prop where
  sub : ∀ p ∈ L, p ∈ ks.take i
  all : ∀ p ∈ ks.take i, p.2 ∈ L.map (·.2)
  len : L.length ≤ i
theorem some_zero (ks : List (Addr × NK)) : Some1 ks 0 [] := ⟨fun p hp => (by cases hp), fun p hp => (by simp at hp), Nat.le_refl _⟩
theorem some_next {ks L L' : List (Addr × NK)} {i : Nat} {x : Addr × NK} (g : Some1 ks i L) (e : ks[i]? = some x) (same : x.2 ∈ L.map (·.2) → L' = L) (more : x.2 ∉ L.map (·.2) → L'.Perm (x :: L)) : Some1 ks (i + 1) L' := by
  have et : ks.take (i + 1) = ks.take i ++ [x] := by
    rw [List.take_add_one, e]
    rfl
  by_cases c : x.2 ∈ L.map (·.2)
  · rw [same c]
    refine ⟨fun p hp => by rw [et]; exact List.mem_append_left _ (g.sub p hp), fun p hp => ?_, Nat.le_succ_of_le g.len⟩
    rw [et] at hp
    rcases List.mem_append.mp hp with z | z
    · exact g.all p z
    · rw [List.mem_singleton.mp z]
      exact c
  · have pm := more c
    refine ⟨fun p hp => ?_, fun p hp => ?_, by rw [pm.length_eq]; exact Nat.succ_le_succ g.len⟩
    · rw [et]
      rcases List.mem_cons.mp (pm.mem_iff.mp hp) with z | z
      · rw [z]
        exact List.mem_append_right _ (List.mem_singleton.mpr rfl)
      · exact List.mem_append_left _ (g.sub p z)
    · rw [(pm.map (·.2)).mem_iff, List.map_cons]
      rw [et] at hp
      rcases List.mem_append.mp hp with z | z
      · exact List.mem_cons_of_mem _ (g.all p z)
      · rw [List.mem_singleton.mp z]
        exact List.mem_cons_self ..
section
variable {P : Program} {w : World} {A : Around} {E : Value → Shared → Prop} {s : Shared}
theorem Ts.keep {h h' : PySem.Heap} {a : Addr} {L : List (Addr × NK)} {es : Array (Int × Value)} {ep : Nat} {t : SetTable} (R : Ts w h a L es ep t) (ka : ∀ o, h.get? a = some o → h'.get? a = some o) (km : ∀ p ∈ L, Is8 h' p.2 p.1) : Ts w h' a L es ep t := by
  obtain ⟨o, ho, r⟩ := R.obj
  exact ⟨⟨o, ka o ho, r⟩, R.row, R.tab, R.one, km, R.led, R.free, R.few⟩
theorem ts_new {h : PySem.Heap} {a : Addr} (ho : h.get? a = some (Sx.emptyObj w)) : Ts w h a [] #[] 0 (.fresh 0 0 (!w.params.followText "set-order")) where
  obj := ⟨_, ho, ⟨rfl, rfl, rfl⟩, rfl⟩
  row := rfl
  tab := ⟨List.Pairwise.nil, rfl, rfl, .inl rfl, (fun x hx => by cases hx), fun i h j hi => by simp at hi⟩
  one := List.nodup_nil
  mem := fun p hp => nomatch hp
  led := by
    show _ ∨ (!w.params.followText "set-order") = true
    cases w.params.followText "set-order"
    · exact .inr rfl
    · exact .inl rfl
  free := by
    show 0 * 5 < 7 * 3
    decide
  few := by
    show 0 < 64
    decide
theorem fill {I : Addr} {fp wr : List Addr} {G : Array GenState → Array GenState → Prop} {n : Nat} {Pv : Nat → Value → Prop} {St : Nat → Shared → Prop} {R : Result → Shared → Prop} (W : WalksS P w A.in1 I fp wr G n Pv St) (S : Addr) (nS : S ∉ fp) (ks : List (Addr × NK)) (hn : n = ks.length) (few : ks.length < 64)
    (val : ∀ i v, Pv i v → ∃ p, ks[i]? = some p ∧ v = .ref p.1) (h0 : PySem.Heap) (hk : ∀ p ∈ ks, Is8 h0 p.2 p.1) (hS : h0.get? S = none) (hw : ∀ b ∈ wr, h0.get? b = none) (hu : A.in1.units + 8 < cLine) :
    ∀ (r i : Nat) (s : Shared), n - i = r → i ≤ n → St i s → (∀ b o, h0.get? b = some o → s.heap.get? b = some o) → (∃ L es ep t, Ts w s.heap S L es ep t ∧ Some1 ks i L) →
      (∀ s' L es ep t, Moved (S :: wr) G s s' → Ts w s'.heap S L es ep t → Some1 ks n L → (∀ b o, h0.get? b = some o → s'.heap.get? b = some o) → R (.ok (.ret .none)) s') →
      codeAny (model P w) A (.builtin "set.update.loop" ⟨[.ref S, .ref I], []⟩) R s := by
  have nW : S ∉ wr := fun z => nS (W.sub _ z)
  have up : ∀ b ∈ wr, b ∈ S :: wr := fun b hb => List.mem_cons_of_mem _ hb
  have old : ∀ {s s' : Shared}, Moved wr G s s' → (∀ b o, h0.get? b = some o → s.heap.get? b = some o) → ∀ b o, h0.get? b = some o → s'.heap.get? b = some o := fun mv kp b o e => mv.heap b o (fun hb => by rw [hw b hb] at e; cases e) (kp b o e)
  intro r
  induction r with
  | zero =>
    intro i s er hi hst kp ⟨L, es, ep, t, hT, g⟩ fin
    have ei : i = n := by omega
    subst ei
    refine codeAny_builtin F.entry_set_update_loop ?_
    rw [Around.under_plainId F.plain_set_update_loop _]
    show wpAny _ A.in1 (pyNext (.ref I) >>= _) _ _ s
    refine wpAny_bind (W.done s _ _ hst fun s' mv => ?_)
    have kp' := old mv kp
    show wpAny _ A.in1 (ret Value.none) _ _ s'
    exact wpAny_pure (fin s' L es ep t (mv.mono up) (hT.keep (fun o e => mv.heap S o nW e) fun p hp => is8_keep (hk p (List.mem_of_mem_take (g.sub p hp))) kp') g kp')
  | succ r ih =>
    intro i s er hi hst kp ⟨L, es, ep, t, hT, g⟩ fin
    have lt : i < n := by omega
    refine codeAny_builtin F.entry_set_update_loop ?_
    rw [Around.under_plainId F.plain_set_update_loop _]
    show wpAny _ A.in1 (pyNext (.ref I) >>= _) _ _ s
    refine wpAny_bind (W.item i s _ _ lt hst fun v s' hv hst' mv => ?_)
    obtain ⟨p, hp, rfl⟩ := val i v hv
    have kp' := old mv kp
    have hT' : Ts w s'.heap S L es ep t := hT.keep (fun o e => mv.heap S o nW e) fun p hp => is8_keep (hk p (List.mem_of_mem_take (g.sub p hp))) kp'
    have hx : Is8 s'.heap p.2 p.1 := is8_keep (hk p (List.mem_of_getElem? hp)) kp'
    show wpAny _ A.in1 (holding [Value.ref p.1] (setAdd S (.ref p.1)) >>= _) _ _ s'
    unfold setAdd
    refine wpAny_bind (wpAny_holding (wpAny_holding (wpAny_bind ((nestedKind P w).pyHash (show A.in1.units + 8 < cLine from hu) (show (nestedKind P w).is s'.heap p.2 p.1 from hx) ?_))))
    refine add1 (s := { s' with toks := s'.toks + p.2.draws }) hT' hx hu (by have := g.len; omega) fun b h' L' es' ep' t' sb hT2 c1 c2 => ?_
    have g' := some_next g hp c1 c2
    have kp2 : ∀ b o, h0.get? b = some o → h'.get? b = some o := fun b o e => (sb.2 b (fun z => by rw [z, hS] at e; cases e)).trans (kp' b o e)
    refine wpAny_pure ⟨plainId_quiet F.plain_set_update_loop _, ih (i + 1) _ (by omega) lt (W.frame _ s' _ _ hst' (Nat.le_add_right _ _) fun b hb o e => ?_) kp2 ⟨L', es', ep', t', hT2, g'⟩ fun s2 L2 es2 ep2 t2 mv2 hT3 g2 kp3 => ?_⟩
    · rw [sb.2 b (fun z : b = S => nS (by rw [← z]; exact hb))]
      exact e
    · refine fin s2 L2 es2 ep2 t2 (Moved.trans W.gtrans ((mv.mono up).then_heap (Nat.le_add_right _ _) fun b o hb e => ?_) mv2) hT3 g2 kp3
      rw [sb.2 b (fun z : b = S => hb (by rw [z]; exact List.mem_cons_self ..))]
      exact e
end
end Sd
namespace Sd
open PySem PySem.Spec PyProof.Rows L2
section
variable {P : Program} {w : World} {A : Around} {E : Value → Shared → Prop} {s : Shared}
set_option maxRecDepth 100000 in
set_option maxHeartbeats 4000000 in
/-- set(xs), xs a list or a tuple of keys -/
theorem call_setN {l : Addr} {items : Array Value} (ks : List (Addr × NK)) {Q : Value → Shared → Prop} (hh : A.handled = none) (hl : s.heap.IsList l items ∨ s.heap.IsTuple l items) (hit : items.toList = ks.map fun p => Value.ref p.1) (hk : ∀ p ∈ ks, Is8 s.heap p.2 p.1) (few : ks.length < 64) (hu : A.units + 12 < cLine)
    (h : ∀ (h' : PySem.Heap) (tk : Nat) L es ep t, Ts w h' s.heap.objs.size L es ep t → Some1 ks ks.length L → (∀ b o, s.heap.get? b = some o → h'.get? b = some o) → Q (.ref s.heap.objs.size) { s with heap := h', toks := tk }) :
    wpAny (model P w) A (call (.type "set") [.ref l]) Q E s := by
  have hisz : items.size = ks.length := by
    have z := congrArg List.length hit
    rwa [Array.length_toList, List.length_map] at z
  have hval : ∀ (i : Nat) (v : Value), items[i]? = some v → ∃ p, ks[i]? = some p ∧ v = .ref p.1 := fun i v hv => by
    rw [← Array.getElem?_toList, hit, List.getElem?_map] at hv
    cases e : ks[i]? with
    | none =>
      rw [e] at hv
      cases hv
    | some p =>
      rw [e] at hv
      exact ⟨p, rfl, (Option.some.inj hv).symm⟩
  obtain ⟨c, tl, hmro⟩ := PySem.F.called_set.mro
  have hmade := PySem.F.called_set.made
  have hsub := PySem.F.called_set.sub
  refine wpAny_call (codeAny_of_tree ?_)
  show wpAny _ _ (callAny (.type "set") _) _ _ _
  refine wpAny_pure ⟨Code.quiet_builtin _ (by decide +kernel), codeAny_builtin PySem.F.entry_type_call ?_⟩
  rw [Around.under_plain (weight_type_call_type "set" [.ref l] []) rfl]
  have h1 := PySem.F.called_set.notType
  have h2 := PySem.F.called_set.canCreate
  have hct := PySem.F.typeCall_set_1 (.ref l)
  repeat (any_goals (first | assumption | wp_step))
  refine codeAny_mono (code_set_led1 (.ref l) (E := E) (Q₁ := fun obj s₁ => obj = .ref s.heap.objs.size ∧ s₁ = { s with heap := s.heap.push (Sx.emptyObj w) }) ⟨rfl, rfl⟩) fun r s₁ hr => ?_
  cases r with
  | error e => exact hr
  | ok fl =>
    cases fl with
    | ret obj =>
      obtain ⟨rfl, rfl⟩ := hr
      have hS : (s.heap.push (Sx.emptyObj w)).get? s.heap.objs.size = some (Sx.emptyObj w) := Heap.get?_push_size _ rfl
      have hT : Shared.TypeIs { s with heap := s.heap.push (Sx.emptyObj w) } (.ref s.heap.objs.size) "set" := ⟨_, hS, rfl⟩
      have hli := PySem.F.called_set.init.lookup
      have hbi := PySem.F.called_set.init.bind (.ref s.heap.objs.size)
      repeat (any_goals (first | assumption | wp_step))
      refine codeAny_mono (codeAny_call_builtin (R := wants (fun r s₂ => r = .none ∧ ∃ h' tk L es ep t, s₂ = { s with heap := h', toks := tk } ∧ Ts w h' s.heap.objs.size L es ep t ∧ Some1 ks ks.length L ∧
          (∀ b o, s.heap.get? b = some o → h'.get? b = some o)) E) PySem.F.called_set.init.plain PySem.F.entry_set_init (check_set_init_1 hT ?_)) fun r₂ s₂ hr₂ => ?_
      · have hh3 : A.in1.in1.in1.handled = none := by simp [hh]
        have hz1 : (s.heap.push (Sx.emptyObj w)).objs.size = s.heap.objs.size + 1 := Heap.size_push ..
        rcases hl with hl | hl
        · obtain ⟨ol, hol, hcl, nl, hdl⟩ := hl
          obtain ⟨ocls, odict, odata, oslots⟩ := ol
          simp only at hcl hdl
          subst hcl; subst hdl
          have hol' : (s.heap.push (Sx.emptyObj w)).get? l = some { cls := .type "list", dict := odict, data := .seq items nl, slots := oslots } := Heap.get?_push_of_some _ hol
          have hsls := PySem.F.sub_list_set
          have hslf := PySem.F.sub_list_frozenset
          have hne : (Value.type "list" == Value.type "dict") = false := by decide
          have hl1 : (s.heap.push (Sx.emptyObj w)).IsList l items := ⟨_, hol', rfl, nl, rfl⟩
          unfold Builtin.«set.__init__» noKeywords Builtin.Frozenset.updateFrom
          generalize hPI : pyIter = PI
          wp_walk
          subst hPI
          refine wpAny_pyIter_list hl1 ?_
          refine wpAny_bind (wpAny_runValue ?_)
          have hlS : l < s.heap.objs.size := Heap.lt_size hol
          have hneI : l ≠ (s.heap.push (Sx.emptyObj w)).objs.size := by
            rw [hz1]
            exact Nat.ne_of_lt (Nat.lt_succ_of_lt hlS)
          have hSf : s.heap.objs.size ∉ [(s.heap.push (Sx.emptyObj w)).objs.size, l] := by
            simp only [List.mem_cons, List.mem_singleton, List.not_mem_nil, or_false, not_or]
            rw [hz1]
            exact ⟨Nat.ne_of_lt (Nat.lt_succ_self _), Nat.ne_of_gt hlS⟩
          have hget : ((s.heap.push (Sx.emptyObj w)).push { cls := .type "list_iterator", data := .fields #[.ref l, .int 0 0] }).get? s.heap.objs.size = some (Sx.emptyObj w) := Heap.get?_push_of_some _ hS
          refine fill ((Walks.list hh3 _ l hneI items).toS) s.heap.objs.size hSf ks hisz few hval s.heap hk (Heap.get?_none_of_le (Nat.le_refl _)) (fun b hb => ?hw1) (by simp only [Around.in1_units]; omega) (items.size - 0) 0 _ (by omega) (Nat.zero_le _)
            ⟨⟨_, Heap.get?_push_size _ rfl, rfl, rfl⟩, (hl1.push _)⟩ (fun b o e => Heap.get?_push_of_some _ (Heap.get?_push_of_some _ e)) ⟨[], _, _, _, ts_new hget, some_zero ks⟩ ?hR1
          case hw1 =>
            rw [List.mem_singleton.mp hb, hz1]
            exact Heap.get?_none_of_le (Nat.le_succ _)
          case hR1 =>
            intro s' L es ep t hm hS' hmm hkk
            obtain ⟨h', g', d', tk', os'⟩ := s'
            have eg : g' = s.gens := hm.gens
            have ed : d' = s.drawn := hm.drawn
            have eo : os' = s.os := hm.os
            subst eg; subst ed; subst eo
            show wpAny _ _ _ _ _ _
            refine wpAny_pure ?_
            show wpAny _ _ (ret Value.none) _ _ _
            exact wpAny_pure ⟨rfl, h', tk', L, es, ep, t, rfl, hS', hisz ▸ hmm, hkk⟩
        · obtain ⟨ol, hol, hcl, nl, hdl⟩ := hl
          obtain ⟨ocls, odict, odata, oslots⟩ := ol
          simp only at hcl hdl
          subst hcl; subst hdl
          have hol' : (s.heap.push (Sx.emptyObj w)).get? l = some { cls := .type "tuple", dict := odict, data := .seq items nl, slots := oslots } := Heap.get?_push_of_some _ hol
          have hsls := PySem.F.sub_tuple_set
          have hslf := PySem.F.sub_tuple_frozenset
          have hne : (Value.type "tuple" == Value.type "dict") = false := by decide
          have hl1 : (s.heap.push (Sx.emptyObj w)).IsTuple l items := ⟨_, hol', rfl, nl, rfl⟩
          unfold Builtin.«set.__init__» noKeywords Builtin.Frozenset.updateFrom
          generalize hPI : pyIter = PI
          wp_walk
          subst hPI
          refine wpAny_pyIter_tuple hl1 ?_
          refine wpAny_bind (wpAny_runValue ?_)
          have hlS : l < s.heap.objs.size := Heap.lt_size hol
          have hneI : l ≠ (s.heap.push (Sx.emptyObj w)).objs.size := by
            rw [hz1]
            exact Nat.ne_of_lt (Nat.lt_succ_of_lt hlS)
          have hSf : s.heap.objs.size ∉ [(s.heap.push (Sx.emptyObj w)).objs.size, l] := by
            simp only [List.mem_cons, List.mem_singleton, List.not_mem_nil, or_false, not_or]
            rw [hz1]
            exact ⟨Nat.ne_of_lt (Nat.lt_succ_self _), Nat.ne_of_gt hlS⟩
          have hget : ((s.heap.push (Sx.emptyObj w)).push { cls := .type "tuple_iterator", data := .fields #[.ref l, .int 0 0] }).get? s.heap.objs.size = some (Sx.emptyObj w) := Heap.get?_push_of_some _ hS
          refine fill ((Walks.tuple hh3 _ l hneI items).toS) s.heap.objs.size hSf ks hisz few hval s.heap hk (Heap.get?_none_of_le (Nat.le_refl _)) (fun b hb => ?hw2) (by simp only [Around.in1_units]; omega) (items.size - 0) 0 _ (by omega) (Nat.zero_le _)
            ⟨⟨_, Heap.get?_push_size _ rfl, rfl, rfl⟩, (hl1.push _)⟩ (fun b o e => Heap.get?_push_of_some _ (Heap.get?_push_of_some _ e)) ⟨[], _, _, _, ts_new hget, some_zero ks⟩ ?hR2
          case hw2 =>
            rw [List.mem_singleton.mp hb, hz1]
            exact Heap.get?_none_of_le (Nat.le_succ _)
          case hR2 =>
            intro s' L es ep t hm hS' hmm hkk
            obtain ⟨h', g', d', tk', os'⟩ := s'
            have eg : g' = s.gens := hm.gens
            have ed : d' = s.drawn := hm.drawn
            have eo : os' = s.os := hm.os
            subst eg; subst ed; subst eo
            show wpAny _ _ _ _ _ _
            refine wpAny_pure ?_
            show wpAny _ _ (ret Value.none) _ _ _
            exact wpAny_pure ⟨rfl, h', tk', L, es, ep, t, rfl, hS', hisz ▸ hmm, hkk⟩
      · cases r₂ with
        | error e => exact hr₂
        | ok fl₂ =>
          cases fl₂ with
          | ret r =>
            obtain ⟨rfl, h', tk, L, es, ep, t, rfl, hS', hmm, hk'⟩ := hr₂
            repeat (any_goals (first | assumption | wp_step))
            exact h _ _ _ _ _ _ hS' hmm hk'
          | _ => exact hr₂.elim
    | _ => exact hr.elim
end
end Sd
/-! Sorting tuples of alike data, the empty tuple among them. -/
namespace Sd
open PySem PySem.Spec PyProof.Rows L2 PySem.W PySem.Calls
open PySem.SeqAt
def more : PyData → Bool
  | .tuple (_ :: _) => true
  | _ => false
section
variable {P : Program} {w : World} {A : Around} {E : Value → Shared → Prop} {s : Shared}
theorem call_tuple_lt {Q : Value → Shared → Prop} {l b : Addr} {items items2 : Array Value} {e r : Nat → Bool} (hl : s.heap.IsTuple l items) (hb : s.heap.IsTuple b items2)
    (he : ∀ j (h1 : j < items.size) (h2 : j < items2.size), EqAt A.in1 s items[j] items2[j] (e j)) (hr : ∀ j (h1 : j < items.size) (h2 : j < items2.size), e j = false → RcLt A.in1 s items[j] items2[j] (r j))
    (h : Q (.bool (firstLt e r (decide (items.size < items2.size)) (List.range (min items.size items2.size)))) s) : wpAny (model P w) A (call (.builtin "tuple.__lt__") [.ref l, .ref b]) Q E s := by
  obtain ⟨⟨cls, dd, data, sl⟩, ho, hc, n, hd⟩ := id hl
  obtain ⟨⟨cls2, dd2, data2, sl2⟩, ho2, hc2, n2, hd2⟩ := id hb
  simp only at hc hd hc2 hd2
  subst hc hd hc2 hd2
  exact call_meets F.slot_tuple_lt ⟨_, ho, rfl⟩ F.entry_tuple_lt (F.args_tuple_lt_2 _ _) (tuple_ltAt l b items items2 n n2 dd dd2 sl sl2 e r) ⟨ho, ho2, he, hr, h⟩
theorem oneLt_tup {xs ys : List PyData} {a b : Value} {as bs : List Addr} {Q : Bool → Shared → Prop} (ra : PySem.Reads s.heap a (.tuple xs) as) (rb : PySem.Reads s.heap b (.tuple ys) bs) (h : alike (.tuple xs) (.tuple ys) = true)
    (hu : A.units + min (PyData.tuple xs).depth (PyData.tuple ys).depth < cLine) (hq : Q (dataLt (.tuple xs) (.tuple ys)) s) : wpAny (model P w) A (oneLt' true a b) Q E s := by
  have hal : alikeAll xs ys = true := by simpa [alike] using h
  cases ra with
  | @tuple l o vs n _ as₁ h1 h2 h3 h4 =>
    cases rb with
    | @tuple l' o' vs' n' _ bs₁ k1 k2 k3 k4 =>
      have n1 : vs.size = xs.length := by simpa using SeqAt.ReadsAll.length _ _ _ h4
      have n2 : vs'.size = ys.length := by simpa using SeqAt.ReadsAll.length _ _ _ k4
      rw [dataLt_tuple, ← firstLt_toks xs ys hal, ← n1, ← n2] at hq
      rw [oneLt'_eq]
      simp only [if_true]
      refine wpAny_bind (wpAny_cRoomFor (room_here hu) ?_)
      refine wpAny_bind (wpAny_callSpecialIfBound?_slot (T := "tuple") ⟨_, h1, h2⟩ F.slot_tuple_lt (call_tuple_lt (e := pairEq xs ys) (r := fun j => dataLt (xs.getD j .none) (ys.getD j .none)) ⟨_, h1, h2, _, h3⟩ ⟨_, k1, k2, _, k3⟩ (fun j j1 j2 => ?_) (fun j j1 j2 hj => ?_) ?_))
      · have := eqAt_alikeAll xs ys A.in1 s vs.toList vs'.toList _ _ h4 k4 hal (room_in hu) j (by simpa using j1) (by simpa using j2)
        simpa using this
      · have := rcLt_alikeAll xs ys A.in1 s vs.toList vs'.toList _ _ h4 k4 hal (room_in hu) j (by simpa using j1) (by simpa using j2) hj
        simpa using this
      · exact wpAny_truthy_bool hq
theorem firsts {M : Model} {A : Around} {E : Value → Shared → Prop} {s : Shared} : ∀ {vs : List Value} {ds : List PyData}, EachIs (fun v d => ∃ as, PySem.Reads s.heap v d as) vs ds → (∀ d ∈ ds, ∃ xs, d = .tuple xs) → ∀ {Q : List (Option Value) → Shared → Prop}, (∀ os : List (Option Value), os.map (·.isSome) = ds.map more → Q os s) → wpAny M A (vs.mapM firstOfTuple') Q E s
  | _, _, .nil, _, _, h => by
    rw [List.mapM_nil]
    exact wpAny_pure (h [] rfl)
  | _, _, .cons (a := v) (b := d) (as := vs) (bs := ds) ⟨as, r⟩ t, ht, Q, h => by
    obtain ⟨xs, rfl⟩ := ht d (List.mem_cons_self ..)
    cases r with
    | @tuple a o us n _ _ ho hc hd hr =>
      rw [List.mapM_cons]
      refine wpAny_bind ?_
      rw [kas_first_eq]
      refine wpAny_bind (Looks.here (show Looks M s.heap (typeOf (.ref a)) o.cls from (Looks.ld ho).andThen .now) ?_)
      rw [hc, if_neg (by first | decide | simp)]
      refine wpAny_bind (listItems_at ho hd (wpAny_pure ?_))
      refine wpAny_bind (firsts t (fun d hd => ht d (List.mem_cons_of_mem _ hd)) fun os eos => wpAny_pure (h _ ?_))
      have hn : us.size = xs.length := by simpa using SeqAt.ReadsAll.length _ _ _ hr
      have e1 : (us[0]?).isSome = more (.tuple xs) := by
        cases xs with
        | nil =>
          have z : us.size = 0 := hn
          rw [Array.getElem?_eq_none (by omega)]
          rfl
        | cons x xs =>
          have z : 0 < us.size := by
            rw [hn]
            exact Nat.succ_pos _
          rw [Array.getElem?_eq_getElem z]
          rfl
      rw [List.map_cons, List.map_cons, eos, e1]
theorem kind_of {M : Model} {A : Around} {E : Value → Shared → Prop} {s : Shared} {vs : List Value} {ds : List PyData} (e : EachIs (fun v d => ∃ as, PySem.Reads s.heap v d as) vs ds) (ht : ∀ d ∈ ds, ∃ xs, d = .tuple xs) (hne : ds.all more = false) {Q : SortKind → Shared → Prop}
    (h : Q (if (ds.map more).head? = some true then general' else oneType') s) : wpAny M A (keyKind' vs.toArray) Q E s := by
  rw [kat_kind_eq, List.mapM_toArray, map_eq_pure_bind]
  refine wpAny_bind (wpAny_bind (firsts e ht fun os eos => wpAny_pure ?_))
  have h1 : (os.toArray.all fun x => x.isSome) = false := by
    rw [List.all_toArray]
    have z : os.all (fun x => x.isSome) = (os.map (·.isSome)).all id := by
      rw [List.all_map]
      rfl
    rw [z, eos, List.all_map]
    exact hne
  rw [if_neg (by rw [h1]; exact Bool.false_ne_true)]
  have h2 : ((os.toArray[0]?).bind id).isSome = true ↔ (ds.map more).head? = some true := by
    rw [← eos]
    cases os with
    | nil => simp
    | cons o os =>
      cases o <;> simp
  by_cases c : (ds.map more).head? = some true
  · rw [if_pos c] at h
    rw [if_pos (h2.mpr c)]
    exact wpAny_pure h
  · rw [if_neg c] at h
    rw [if_neg (fun z => c (h2.mp z))]
    have hT : ∀ v ∈ vs, Looks M s.heap (typeOf v) (Value.type "tuple") := fun v hv => by
      obtain ⟨d, hd, as, r⟩ := e.left v hv
      obtain ⟨xs, rfl⟩ := ht d hd
      exact looks_reads r
    have hv : vs ≠ [] := by
      rintro rfl
      cases e
      exact absurd hne (by decide)
    rw [oneTypeOnly'_eq, List.mapM_toArray, map_eq_pure_bind]
    refine wpAny_bind (wpAny_bind (wpAny_bind (kas_mapM (r := Value.type "tuple") _ (fun v hv Q' hq => (hT v hv).here hq) (wpAny_pure ?_))))
    have hall2 : ((List.map (fun _ => Value.type "tuple") vs).toArray.all fun x => x == Value.type "tuple") = true := by
      simp only [List.all_toArray, List.all_map, List.all_eq_true]
      intro _ _
      rfl
    have h0 : (List.map (fun _ => Value.type "tuple") vs).toArray[0]? = some (Value.type "tuple") := by
      cases vs with
      | nil => exact absurd rfl hv
      | cons v vs => simp
    rw [h0]
    simp only [hall2, if_true]
    exact wpAny_pure (wpAny_pure h)
theorem sorts_tups {vs : List Value} {ds : List PyData} (e : EachIs (fun v d => ∃ as, PySem.Reads s.heap v d as) vs ds) (hal : AllAlike ds) (ht : ∀ d ∈ ds, ∃ xs, d = .tuple xs) (hu : ∀ d, d ∈ ds → A.units + d.depth < cLine) : SortsAt P w A s (dataKind s.heap ds) vs := by
  have room : ∀ {d d' : PyData}, d ∈ ds → A.units + min d.depth d'.depth < cLine := fun {d d'} hd => Nat.lt_of_le_of_lt (Nat.add_le_add_left (Nat.min_le_left _ _) _) (hu d hd)
  by_cases hne : ds.all more = true
  · refine SortsAt.data e hal (.inl fun d hd => ?_) hu
    have z := List.all_eq_true.mp hne d hd
    obtain ⟨xs, rfl⟩ := ht d hd
    cases xs with
    | nil => exact absurd z (by decide)
    | cons x xs => exact ⟨x, xs, rfl⟩
  · refine ⟨fun v hv => ?_, if (ds.map more).head? = some true then general' else oneType', ?_, fun _ E Q hq => kind_of e ht (by simpa using hne) hq⟩
    · obtain ⟨d, hd, as, r⟩ := e.left v hv
      exact ⟨_, dataKind_some hal hd r⟩
    · intro E x y a b Q ha hb hq
      obtain ⟨d, as, hd, ra, rfl⟩ := dataKind_inv ha
      obtain ⟨d', as', hd', rb, rfl⟩ := dataKind_inv hb
      have hdd := hal d hd d' hd'
      have hroom := room (d' := d') hd
      obtain ⟨xs, rfl⟩ := ht d hd
      obtain ⟨ys, rfl⟩ := ht d' hd'
      by_cases c : (ds.map more).head? = some true
      · rw [if_pos c]
        show wpAny (model P w) A (oneLt' false x y) Q E s
        exact oneLt_alike (fun z => nomatch z) ra rb hdd (fun z => nomatch z) hroom hq
      · rw [if_neg c, keyLt'_oneType]
        exact oneLt_tup ra rb hdd hroom hq
variable {β : Type} {vs : List Value} {bs : List β} {enc : β → PyData} {R : Value → β → Prop}
/-- xs.sort() -/
theorem list_sort_tups {a : Addr} {n : Nat} {Q : Value → Shared → Prop} (ho : s.heap.get? a = some (seqObj "list" vs.toArray n)) (e : EachIs R vs bs) (er : EachIs (fun v b => ∃ as, PySem.Reads s.heap v (enc b) as ∧ a ∉ as) vs bs) (hal : AllAlike (bs.map enc)) (ht : ∀ b ∈ bs, ∃ xs, enc b = .tuple xs) (hL : bs.length ≤ sizeLine)
    (hu : ∀ b, b ∈ bs → A.units + 1 + (enc b).depth < cLine) (h : ∀ out, out.length = bs.length → EachIs R out (bs.mergeSort (dataLe false enc)) → Q .none { s with heap := sortedHeap s.heap a vs (List.toArray out) }) :
    wpAny (model P w) A (call (.builtin "list.sort") [.ref a]) Q E s := by
  have er' : EachIs (fun v b => ∃ as, PySem.Reads (sortingHeap s.heap a vs) v (enc b) as) vs bs := each_keepBut (h' := sortingHeap s.heap a vs) (fun _ _ hb q => sortingHeap_old hb q) (fun o q => by rw [ho] at q; rw [← Option.some.inj q]) hal er
  refine wpAny_call_entry slot_list_sort ⟨_, ho, rfl⟩ entry_list_sort (list_sort_vals (κ := dataKind (sortingHeap s.heap a vs) (bs.map enc)) ho (sorts_tups (s := { s with heap := sortingHeap s.heap a vs }) (each_map (R := fun v d => ∃ as, PySem.Reads (sortingHeap s.heap a vs) v d as) enc er') hal (fun d hd => ?_) (bound_map hu)) (by rw [e.length]; exact hL) ⟨.none, rfl, ?_⟩) (args_list_sort _)
  · obtain ⟨b, hb, rfl⟩ := List.mem_map.mp hd
    exact ht b hb
  · exact h _ (by rw [sortVals_length false rfl]; exact e.length) (sortVals_data false e er' hal)
end
end Sd
/-! Sets of nested tuples over the layer: set(xs), sorted(set). -/
namespace Sd
open PySem PySem.Spec PyProof.Rows L2 Bx TL Dx PySem.W PySem.Calls
mutual
/-- the key that a datum is -/
def nk : PyData → NK
  | .int i => .num i
  | .str x => .text x
  | .tuple xs => .tup (nks xs)
  | _ => .none
def nks : List PyData → List NK
  | [] => []
  | d :: ds => nk d :: nks ds
end
mutual
/-- made of whole numbers, texts and tuples -/
def plain : PyData → Bool
  | .int _ => true
  | .str _ => true
  | .tuple xs => plains xs
  | _ => false
def plains : List PyData → Bool
  | [] => true
  | d :: ds => plain d && plains ds
end
mutual
theorem nk_inj : ∀ (d e : PyData), plain d = true → plain e = true → nk d = nk e → d = e
  | .int i, e, _, he, h => by
    cases e <;> first | (simp only [nk] at h; cases h; rfl) | (simp only [nk] at h; cases h; done) | (simp only [plain] at he; cases he; done)
  | .str i, e, _, he, h => by
    cases e <;> first | (simp only [nk] at h; cases h; rfl) | (simp only [nk] at h; cases h; done) | (simp only [plain] at he; cases he; done)
  | .tuple xs, e, hd, he, h => by
    cases e with
    | tuple ys =>
      simp only [nk, NestedKey.tup.injEq] at h
      simp only [plain] at hd he
      rw [nks_inj xs ys hd he h]
    | _ => first | (simp only [nk] at h; cases h; done) | (simp only [plain] at he; cases he; done)
  | .none, _, hd, _, _ => by simp [plain] at hd
  | .bool _, _, hd, _, _ => by simp [plain] at hd
  | .list _, _, hd, _, _ => by simp [plain] at hd
  | .dict _, _, hd, _, _ => by simp [plain] at hd
theorem nks_inj : ∀ (ds es : List PyData), plains ds = true → plains es = true → nks ds = nks es → ds = es
  | [], [], _, _, _ => rfl
  | [], _ :: _, _, _, h => by simp [nks] at h
  | _ :: _, [], _, _, h => by simp [nks] at h
  | d :: ds, e :: es, hd, he, h => by
    simp only [nks, List.cons.injEq] at h
    simp only [plains, Bool.and_eq_true] at hd he
    rw [nk_inj d e hd.1 he.1 h.1, nks_inj ds es hd.2 he.2 h.2]
end
mutual
theorem is_nk {h : PySem.Heap} : ∀ (d : PyData) (v : Value) (as : List Addr), plain d = true → PySem.Reads h v d as → NestedIs h (nk d) v ∧ as = []
  | .int _, _, _, _, r => by
    cases r
    exact ⟨.int _ _, rfl⟩
  | .str _, _, _, _, r => by
    cases r
    exact ⟨.text _ _, rfl⟩
  | .tuple xs, _, _, hd, r => by
    simp only [plain] at hd
    cases r with
    | tuple h1 h2 h3 h4 =>
      obtain ⟨q1, q2⟩ := is_nks xs _ _ hd h4
      exact ⟨.tup h1 h2 h3 q1, q2⟩
  | .none, _, _, hd, _ => by simp [plain] at hd
  | .bool _, _, _, hd, _ => by simp [plain] at hd
  | .list _, _, _, hd, _ => by simp [plain] at hd
  | .dict _, _, _, hd, _ => by simp [plain] at hd
theorem is_nks {h : PySem.Heap} : ∀ (ds : List PyData) (vs : List Value) (as : List Addr), plains ds = true → PySem.ReadsAll h vs ds as → NestedAll h (nks ds) vs ∧ as = []
  | [], _, _, _, r => by
    cases r
    exact ⟨.nil, rfl⟩
  | d :: ds, _, _, hd, r => by
    simp only [plains, Bool.and_eq_true] at hd
    cases r with
    | cons r1 r2 =>
      obtain ⟨q1, q2⟩ := is_nk d _ _ hd.1 r1
      obtain ⟨q3, q4⟩ := is_nks ds _ _ hd.2 r2
      exact ⟨.cons q1 q3, by rw [q2, q4]; rfl⟩
end
/-- a tuple made of such data, not deep -/
def K8 (d : PyData) : Prop := (∃ xs, d = .tuple xs) ∧ plain d = true ∧ (nk d).depth ≤ 8 ∧ d.depth ≤ 60
theorem perm_each {α β : Type} {R : α → β → Prop} {out its : List α} (pm : out.Perm its) : ∀ {ds : List β}, EachIs R its ds → ∃ es : List β, es.Perm ds ∧ EachIs R out es := by
  induction pm with
  | nil => exact fun e => ⟨_, List.Perm.refl _, e⟩
  | cons x p ih =>
    intro ds e
    cases e with
    | cons h t =>
      obtain ⟨es, q1, q2⟩ := ih t
      exact ⟨_ :: es, q1.cons _, .cons h q2⟩
  | swap x y l =>
    intro ds e
    cases e with
    | cons h t =>
      cases t with
      | cons h2 t2 => exact ⟨_ :: _ :: _, List.Perm.swap _ _ _, .cons h2 (.cons h t2)⟩
  | trans p q ih1 ih2 =>
    intro ds e
    obtain ⟨es, a1, a2⟩ := ih2 e
    obtain ⟨fs, b1, b2⟩ := ih1 a2
    exact ⟨fs, b1.trans a1, b2⟩
section
variable {P : Program} {w : World} {A : Around} {E : Value → Shared → Prop} {s : Shared} {a : Addr} {L : List (Addr × NK)} {es : Array (Int × Value)} {ep : Nat} {t : SetTable}
theorem sorted_setN {Rl : Value → PyData → Prop} {ds : List PyData} {Q : Value → Shared → Prop} (T : Ts w s.heap a L es ep t) (hh : A.handled = none) (hu : A.units + 65 < cLine)
    (e : EachIs Rl (L.map fun p => Value.ref p.1) ds) (er : EachIs (fun u d => ∃ as, PySem.Reads s.heap u d as) (L.map fun p => Value.ref p.1) ds) (hal : AllAlike ds) (hk : ∀ d ∈ ds, K8 d)
    (hQ : ∀ s' p (out : List Value) (c : Nat) (fs : List PyData), (∀ b o, s.heap.get? b = some o → s'.heap.get? b = some o) → s'.gens = s.gens → s'.os = s.os → s.heap.objs.size ≤ p →
      s'.heap.get? p = some (seqObj "list" out.toArray c) → fs.Perm ds → EachIs Rl out (fs.mergeSort (dataLe false id)) → Q (.ref p) s') :
    wpAny (model P w) A (call (.builtin "sorted") [.ref a]) Q E s := by
  obtain ⟨o, ho, hex, hd⟩ := T.obj
  have hn := T.num
  have hfew := T.few
  have hsb : scanBound = 4096 := rfl
  have hva : es.toList.map (·.2) = L.map fun p => Value.ref p.1 := by
    rw [T.row, List.map_map]
    rfl
  refine Calls.call_function_entry kind_sorted plain_sorted entry_sorted (args_sorted1 _) ?_
  unfold Builtin.«sorted»
  refine wpAny_bind (m := checkCount "sorted" 1 1 _) (wpAny_pure ?_)
  refine wpAny_bind (collect_set (A := A.in1) hh ⟨_, ho, hex.1, hd⟩ T.fit (by rw [hn]; omega) T.tab.ris T.led fun s1 vs k1 hz g1 o1 pm => ?_)
  rw [hva] at pm
  have both : EachIs (fun u d => Rl u d ∧ ∃ as, PySem.Reads s.heap u d as) (L.map fun p => Value.ref p.1) ds := by
    clear hQ hal hk hva
    revert e er
    generalize (L.map fun p => Value.ref p.1) = us
    intro e er
    clear pm
    induction e with
    | nil => exact .nil
    | cons h t ih =>
      cases er with
      | cons r1 r2 => exact .cons ⟨h, r1⟩ (ih r2)
  obtain ⟨fs, pf, ef⟩ := perm_each pm both
  have hfl : fs.length = L.length := by rw [pf.length_eq, ← e.length, List.length_map]
  have hvl : vs.length = L.length := by rw [pm.length_eq, List.length_map]
  have hline : vs.length ≤ sizeLine := by
    rw [hvl, sizeLine_eq]
    omega
  refine wpAny_bind (wpAny_newList ?_ hline)
  have hoL : (s1.heap.push (seqObj "list" vs.toArray 0)).get? s1.heap.objs.size = some (seqObj "list" vs.toArray 0) := Heap.get?_push_size _ rfl
  have mfs : ∀ d ∈ fs, d ∈ ds := fun d hd => pf.mem_iff.mp hd
  have kp : ∀ b u, s.heap.get? b = some u → (s1.heap.push (seqObj "list" vs.toArray 0)).get? b = some u := fun b u q => Heap.get?_push_of_some _ (k1 b u q)
  refine wpAny_bind (wpAny_holding (list_sort_tups (R := Rl) (enc := id) (bs := fs) hoL (ef.mono fun _ _ z => z.1) ?reads (by rw [List.map_id]; exact fun d hd d' hd' => hal d (mfs d hd) d' (mfs d' hd')) (fun d hd => (hk d (mfs d hd)).1) (by rw [hfl, sizeLine_eq]; omega) (fun d hd => ?room) fun out hout eo => ?done))
  case reads =>
    refine (each_mem ef).mono fun u d z => ?_
    obtain ⟨as, r⟩ := z.1.2
    have z0 := (is_nk d u as (hk d (mfs d z.2)).2.1 r).2
    exact ⟨as, PyProof.Rows.Reads.keeps kp r, by rw [z0]; exact List.not_mem_nil⟩
  case room =>
    have z := (hk d (mfs d hd)).2.2.2
    show A.in1.units + 1 + d.depth < cLine
    simp only [Around.in1_units]
    omega
  case done =>
    obtain ⟨c, hc⟩ := sortedHeap_at (vs := vs) (out := out.toArray) hoL
    refine wpAny_pure ⟨_, rfl, hQ _ s1.heap.objs.size out c fs (fun b u q0 => ?_) g1 o1 hz hc pf eo⟩
    have q := k1 b u q0
    have hlt := Heap.lt_size q
    show (sortedHeap (s1.heap.push (seqObj "list" vs.toArray 0)) s1.heap.objs.size vs _).get? b = some u
    rw [sortedHeap_old (Nat.ne_of_lt hlt) (by rw [size_push']; exact Nat.lt_succ_of_lt hlt)]
    exact Heap.get?_push_of_some _ q
end
/-! ### over the layer -/
def SetN (w : World) (a : Addr) (L : List (Addr × NK)) : HO := .ext fun h => ∃ h0 es ep t, Ts w h0 a L es ep t ∧ ∀ o, h0.get? a = some o → h.get? a = some o
section
variable {X : Cx} {pins : List (Addr × Obj)} {σ : L2.St} {H : Hp} {s : Shared}
theorem setN_ok {P : Program} {w : World} {h : PySem.Heap} {a : Addr} {L : List (Addr × NK)} {es : Array (Int × Value)} {ep : Nat} {t : SetTable} (R : Ts w h a L es ep t) : ObjOk P w H h a (SetN w a L) := by
  obtain ⟨o, ho, _⟩ := R.obj
  exact ⟨⟨h, es, ep, t, R, fun _ z => z⟩, ⟨_, ho⟩, fun h1 h2 ⟨h0, es, ep, t, p, k⟩ k2 => ⟨h0, es, ep, t, p, fun o z => k2 o (k o z)⟩⟩
theorem keys_of (I : Inv X pins σ H s) : ∀ {xs : List V} {us : List Value} {ds : List PyData}, DpAll X.K H xs ds → Vals xs us → (∀ d ∈ ds, K8 d) →
    ∃ ks : List (Addr × NK), us = ks.map (fun p => Value.ref p.1) ∧ ks.map (·.2) = ds.map nk ∧ (∀ p ∈ ks, Is8 s.heap p.2 p.1) ∧ ∀ p ∈ ks, ∃ d ∈ ds, p.2 = nk d ∧ Dp X.K H (V.ref p.1) d
  | [], [], [], _, _, _ => ⟨[], rfl, rfl, fun p hp => (by cases hp), fun p hp => (by cases hp)⟩
  | x :: xs, u :: us, d :: ds, h, r, hk => by
    cases h with
    | cons h1 h2 =>
      cases r with
      | cons r1 r2 =>
        obtain ⟨ks, q1, q2, q3, q4⟩ := keys_of I h2 r2 fun d hd => hk d (List.mem_cons_of_mem _ hd)
        obtain ⟨⟨ys, rfl⟩, k1, k2, k3⟩ := hk d (List.mem_cons_self ..)
        obtain ⟨as, rd⟩ := Dp.reads I _ _ _ h1 r1
        obtain ⟨b, zs, rfl, _⟩ := dp_tup h1
        have eu : u = Value.ref b := by
          cases r1
          rfl
        subst eu
        refine ⟨(b, nk (.tuple ys)) :: ks, by rw [q1]; rfl, by rw [List.map_cons, List.map_cons, q2], fun p hp => ?_, fun p hp => ?_⟩
        · rcases List.mem_cons.mp hp with z | z
          · rw [z]
            exact ⟨(is_nk _ _ _ k1 rd).1, k2⟩
          · exact q3 p z
        · rcases List.mem_cons.mp hp with z | z
          · rw [z]
            exact ⟨_, List.mem_cons_self .., rfl, h1⟩
          · obtain ⟨e, e1, e2⟩ := q4 p z
            exact ⟨e, List.mem_cons_of_mem _ e1, e2⟩
  | [], _ :: _, _, _, r, _ => by cases r
  | _ :: _, [], _, _, r, _ => by cases r
  | [], [], _ :: _, h, _, _ => by cases h
  | _ :: _, _ :: _, [], h, _, _ => by cases h
theorem nodup_of {α β : Type} (f : α → β) : ∀ {l : List α}, (l.map f).Nodup → l.Nodup
  | [], _ => List.nodup_nil
  | x :: l, h => by
    rw [List.map_cons, List.nodup_cons] at h
    exact List.nodup_cons.mpr ⟨fun z => h.1 (List.mem_map.mpr ⟨x, z, rfl⟩), nodup_of f h.2⟩
theorem pairs_same {α β : Type} : ∀ {l m : List (α × β)}, l.map (·.1) = m.map (·.1) → l.map (·.2) = m.map (·.2) → l = m
  | [], [], _, _ => rfl
  | [], _ :: _, h, _ => by simp at h
  | _ :: _, [], h, _ => by simp at h
  | (a, b) :: l, (c, d) :: m, h, g => by
    simp only [List.map_cons, List.cons.injEq] at h g
    rw [h.1, g.1, pairs_same h.2 g.2]
theorem pick {K : PySem.W.Frag} {ds : List PyData} : ∀ (L : List (Addr × NK)), (∀ p ∈ L, ∃ d ∈ ds, p.2 = nk d ∧ Dp K H (V.ref p.1) d) → ∃ es : List PyData, DpAll K H (L.map fun p => V.ref p.1) es ∧ L.map (·.2) = es.map nk ∧ ∀ d ∈ es, d ∈ ds
  | [], _ => ⟨[], .nil, rfl, fun d hd => (by cases hd)⟩
  | p :: L, h => by
    obtain ⟨es, q1, q2, q3⟩ := pick L fun p hp => h p (List.mem_cons_of_mem _ hp)
    obtain ⟨d, d1, d2, d3⟩ := h p (List.mem_cons_self ..)
    refine ⟨d :: es, .cons d3 q1, by rw [List.map_cons, List.map_cons, q2, d2], fun e he => ?_⟩
    rcases List.mem_cons.mp he with z | z
    · rw [z]
      exact d1
    · exact q3 e z
/-- set(xs), xs a list or a tuple of such tuples -/
def rSetN (K : PySem.W.Frag) (w : World) : List V → Hp → VK → Prop := fun vs H Q => ∃ (a : Addr) (xs : List V) (ds : List PyData), vs = [V.ref a] ∧ (SqL K H a xs ∨ SqT K H a xs) ∧ DpAll K H xs ds ∧ (∀ d ∈ ds, K8 d) ∧ ds.length < 64 ∧
  ∀ p L es, H p = none → DpAll K H (L.map fun q => V.ref q.1) es → L.map (·.2) = es.map nk → es.Nodup → (∀ d, d ∈ es ↔ d ∈ ds) → es.length ≤ ds.length → Q (.ref p) (upd H p (SetN w p L))
theorem cr_setN {w : World} (hc : X.calm = true) (hw : X.w = w) (hu : X.A.units + 65 < cLine) : CallR X (.type "set") (rSetN X.K w) := by
  subst hw
  intro pins s σ H vs us Q I r h
  obtain ⟨a, xs, ds, rfl, hs, hd, hk, hlen, q⟩ := h
  rw [Vals.ref1 r]
  have hn : H s.heap.objs.size = none := I.hok.fresh (Nat.le_refl _)
  obtain ⟨its, rv, pl⟩ : ∃ its : List Value, Vals xs its ∧ (s.heap.IsList a its.toArray ∨ s.heap.IsTuple a its.toArray) := by
    rcases hs with hs | hs
    · obtain ⟨its, rv, pl, _⟩ := I.list hs
      exact ⟨its, rv, .inl pl.isList⟩
    · obtain ⟨its, rv, pl, _⟩ := I.tuple hs
      exact ⟨its, rv, .inr pl⟩
  obtain ⟨ks, e1, e2, e3, e4⟩ := keys_of I hd rv hk
  have hkl : ks.length = ds.length := by
    have z := congrArg List.length e2
    rwa [List.length_map, List.length_map] at z
  refine call_setN (P := X.prog) (w := X.w) ks (I.ok.hd hc) pl (by simpa using e1) e3 (by omega) (by omega) fun h' tk L es ep t T sm k => ?_
  obtain ⟨fs, f1, f2, f3⟩ := pick L fun p hp => e4 p (List.mem_of_mem_take (sm.sub p hp))
  have inj : ∀ d ∈ ds, ∀ d' ∈ ds, nk d = nk d' → d = d' := fun d hd d' hd' e => nk_inj d d' (hk d hd).2.1 (hk d' hd').2.1 e
  refine ⟨.ref s.heap.objs.size, upd H s.heap.objs.size (SetN X.w s.heap.objs.size L), I.laid (t' := tk) k (Nat.le_refl _) (setN_ok T), rfl, q _ L fs hn f1 f2 ?_ (fun d => ⟨f3 d, fun hd => ?_⟩) ?_⟩
  · have z := T.one
    rw [f2] at z
    exact nodup_of nk z
  · have z : nk d ∈ ks.map (·.2) := by
      rw [e2]
      exact List.mem_map.mpr ⟨d, hd, rfl⟩
    obtain ⟨p, hp, ep⟩ := List.mem_map.mp z
    have z2 := sm.all p (by rw [List.take_length]; exact hp)
    rw [f2, ep] at z2
    obtain ⟨d', hd', e'⟩ := List.mem_map.mp z2
    rw [← inj d' (f3 d' hd') d hd e']
    exact hd'
  · have z := sm.len
    have z2 := congrArg List.length f2
    rw [List.length_map, List.length_map] at z2
    omega
theorem refs_vals : ∀ (L : List (Addr × NK)), Vals (L.map fun q => V.ref q.1) (L.map fun q => Value.ref q.1)
  | [] => .nil
  | _ :: L => .cons rfl (refs_vals L)
/-- sorted(a set of such tuples) -/
def rSortN (K : PySem.W.Frag) (w : World) : List V → Hp → VK → Prop := fun vs H Q => ∃ (a : Addr) (L : List (Addr × NK)) (ds : List PyData), vs = [V.ref a] ∧ H a = some (SetN w a L) ∧ DpAll K H (L.map fun q => V.ref q.1) ds ∧ L.map (·.2) = ds.map nk ∧ AllAlike ds ∧ (∀ d ∈ ds, K8 d) ∧ ds.length < 64 ∧
  ∀ (ys : List V) (fs : List PyData) (p : Addr), H p = none → fs.Perm ds → DpAll K H ys (fs.mergeSort So.dle) → Q (.ref p) (upd H p (.lst ys))
theorem cr_sortN {w : World} (hc : X.calm = true) (hw : X.w = w) (hu : X.A.units + 65 < cLine) : CallR X (.builtin "sorted") (rSortN X.K w) := by
  subst hw
  intro pins s σ H vs us Q I r h
  obtain ⟨a, L, ds, rfl, ha, hd, hn2, hal, hk, hlen, q⟩ := h
  obtain ⟨h0, es, ep, t, T0, k0⟩ := (I.hok a _ ha).1
  rw [Vals.ref1 r]
  have rl := refs_vals L
  have ea := So.each_of I hd rl
  have T : Ts X.w s.heap a L es ep t := T0.keep k0 fun p hp => by
    obtain ⟨ks, e1, e2, e3, e4⟩ := keys_of I hd rl hk
    have es1 : ks.map (·.1) = L.map (·.1) := by
      have z := congrArg (List.map fun v => match v with | Value.ref b => b | _ => 0) e1
      rw [List.map_map, List.map_map] at z
      exact z.symm
    have el : ks = L := pairs_same es1 (by rw [e2, hn2])
    rw [← el] at hp
    exact e3 p hp
  refine sorted_setN (P := X.prog) T (I.ok.hd hc) hu (ea.mono fun _ _ z => z.1) (ea.mono fun _ _ z => z.2) hal hk fun s' p out c fs k g o hp hg pf eo => ?_
  obtain ⟨ys, ry, dy⟩ := So.each_back eo
  have hl2 : ys.length ≤ sizeLine := by
    have z := eo.length
    rw [List.length_mergeSort, pf.length_eq] at z
    rw [ry.length, z, sizeLine_eq]
    omega
  have hn : H p = none := I.hok.fresh hp
  have J : Inv X pins σ (upd H p (.lst ys)) { s with heap := s'.heap, gens := s'.gens, drawn := s'.drawn, toks := s'.toks } :=
    I.call (ch := []) (Un.laid k hp hn) (I.hok.laid k hp ⟨hl2, out, c, ry, hg⟩) (by rw [g]; exact I.bare) (fun _ z => nomatch z)
  have e : s' = { s with heap := s'.heap, gens := s'.gens, drawn := s'.drawn, toks := s'.toks } := by
    cases s'
    cases s
    cases o
    rfl
  rw [e]
  exact ⟨.ref p, _, J, rfl, q ys fs p hn pf dy⟩
end
end Sd
/-! len(set of texts); data in a tuple of data; == and != of data within a block. -/
namespace Sl
open PySem PySem.Spec PyProof.Rows L2 Bx TL Dx
section
variable {X : Cx}
def rLenX (P : Program) (w : World) : List V → Hp → VK → Prop := fun vs H Q => ∃ (a : Addr) (l : List Str), vs = [V.ref a] ∧ H a = some (Sx.SetV P w a l) ∧ l.length < 4000 ∧ Q (.int l.length) H
theorem call_lenX : CallR X (.builtin "len") (rLenX X.prog X.w) := by
  intro pins s σ H vs us Q I r h
  obtain ⟨a, l, rfl, ha, hlen, q⟩ := h
  have R : Sx.SetX X.prog X.w s.heap a l := (I.hok a _ ha).1
  obtain ⟨⟨es, ep, t⟩, ho, F, nd, ri, hl⟩ := R
  rw [Vals.ref1 r]
  have hsz : es.size = l.length := F.sz
  exact call_len_set ho ⟨rfl, rfl, rfl⟩ rfl F.fit (by rw [hsz]; omega) ⟨.int l.length, H, I.tok _, ⟨s.toks + 1, by rw [hsz]⟩, q⟩
def rInT (K : PySem.W.Frag) : R2 := fun x y H Q => ∃ d ds, Dp K H x d ∧ Dp K H y (.tuple ds) ∧ SeqAt.shaped d = true ∧ SeqAt.shaped (.tuple ds) = true ∧ Q (.bl (ds.any fun z => PyData.eqv z d)) H
theorem op_inT {K : PySem.W.Frag} (hK : X.K = K) (hu : X.A.units + 65 < cLine) : OpR X (compareOp .In) (rInT K) := by
  subst hK
  intro pins s σ H x y v u Q I rx ry h
  obtain ⟨d, ds, hd, he, sd, se, q⟩ := h
  obtain ⟨as, r1⟩ := Dp.reads I d x v hd rx
  obtain ⟨bs, r2⟩ := Dp.reads I (.tuple ds) y u he ry
  exact SeqAt.in_tuple_reads r2 r1 (SeqAt.canLay_of_shaped se) (SeqAt.canLay_of_shaped sd) (room_in_shaped sd hu) ⟨.bl _, H, I, rfl, q⟩
theorem op_eqDK {K : PySem.W.Frag} (hK : X.K = K) (hu : X.A.units + 64 < cLine) : OpR X (compareOp .Eq) (rEqD K) := by
  subst hK
  exact op_eqD hu
theorem op_neDK {K : PySem.W.Frag} (hK : X.K = K) (hu : X.A.units + 64 < cLine) : OpR X (compareOp .NotEq) (rNeD K) := by
  subst hK
  exact op_neD hu
end
end Sl
/-! data not in a tuple of data. -/
namespace Sl
open PySem PySem.Spec PyProof.Rows L2 Bx TL Dx
section
variable {X : Cx}
def rNotInT (K : PySem.W.Frag) : R2 := fun x y H Q => ∃ d ds, Dp K H x d ∧ Dp K H y (.tuple ds) ∧ SeqAt.shaped d = true ∧ SeqAt.shaped (.tuple ds) = true ∧ Q (.bl (!ds.any fun z => PyData.eqv z d)) H
theorem op_notInT {K : PySem.W.Frag} (hK : X.K = K) (hu : X.A.units + 65 < cLine) : OpR X (compareOp .NotIn) (rNotInT K) := by
  subst hK
  intro pins s σ H x y v u Q I rx ry h
  obtain ⟨d, ds, hd, he, sd, se, q⟩ := h
  obtain ⟨as, one⟩ := Dp.reads I d x v hd rx
  obtain ⟨bs, two⟩ := Dp.reads I (.tuple ds) y u he ry
  exact SeqAt.notIn_tuple_reads two one (SeqAt.canLay_of_shaped se) (SeqAt.canLay_of_shaped sd) (room_in_shaped sd hu) ⟨.bl _, H, I, rfl, q⟩
end
end Sl
/-! sorted(a list of tuples of alike data), the empty tuple among them. -/
namespace Sd
open PySem PySem.Spec PyProof.Rows L2 Bx TL Dx PySem.W PySem.Calls
section
variable {P : Program} {w : World} {A : Around} {E : Value → Shared → Prop} {s : Shared} {vs : List Value} {bs : List PyData} {R : Value → PyData → Prop}
theorem sorted_tups {l : Addr} {Q : Value → Shared → Prop} (hl : s.heap.IsList l vs.toArray) (e : EachIs R vs bs) (er : EachIs (fun v b => ∃ as, PySem.Reads s.heap v b as) vs bs) (hal : AllAlike bs) (ht : ∀ b ∈ bs, ∃ xs, b = .tuple xs) (hL : bs.length ≤ sizeLine)
    (hu : ∀ b, b ∈ bs → A.units + 2 + b.depth < cLine) (h : ∀ out, out.length = bs.length → EachIs R out (bs.mergeSort (dataLe false id)) → Q (.ref (s.heap.objs.size + 1)) { s with heap := sortedAll s.heap vs (List.toArray out) }) :
    wpAny (model P w) A (call (.builtin "sorted") [.ref l]) Q E s := by
  have em : bs.map id = bs := List.map_id bs
  have kept : EachIs (fun v b => ∃ as, PySem.Reads (sortingHeap (copyHeap s.heap vs) (s.heap.objs.size + 1) vs) v (id b) as) vs bs := er.mono fun _ _ ⟨as, r⟩ => ⟨as, PyProof.Rows.Reads.keeps (fun _ _ => sorting_copy_old) r⟩
  have here : SortsAt P w A.in1.in1 { s with heap := sortingHeap (copyHeap s.heap vs) (s.heap.objs.size + 1) vs } (dataKind (sortingHeap (copyHeap s.heap vs) (s.heap.objs.size + 1) vs) (bs.map id)) vs := by
    rw [em]
    exact sorts_tups (s := { s with heap := sortingHeap (copyHeap s.heap vs) (s.heap.objs.size + 1) vs }) kept hal ht fun d hd => hu d hd
  exact sorted_vals hl here (by rw [e.length]; exact hL) (h _ (by rw [sortVals_length false rfl]; exact e.length) (sortVals_data (enc := id) false e kept (by rw [em]; exact hal)))
end
section
variable {X : Cx}
def rSortT (K : PySem.W.Frag) : List V → Hp → VK → Prop := fun xs H Q => ∃ (a : Addr) (vs : List V) (ds : List PyData), xs = [V.ref a] ∧ SqL K H a vs ∧ DpAll K H vs ds ∧ AllAlike ds ∧ (∀ d ∈ ds, ∃ xs, d = .tuple xs) ∧ ds.length ≤ sizeLine ∧ (∀ d ∈ ds, d.depth ≤ 60) ∧
  ∀ (ys : List V) (p : Addr), H p = none → DpAll K H ys (ds.mergeSort So.dle) → Q (.ref p) (upd H p (.lst ys))
theorem cr_sortT (hu : X.A.units + 65 < cLine) : CallR X (.builtin "sorted") (rSortT X.K) := by
  intro pins s σ H xs us Q I r h
  obtain ⟨a, vs, ds, rfl, hs, hd, hal, hso, hz, hdp, q⟩ := h
  cases r with
  | cons ra rb =>
    cases rb
    cases ra
    obtain ⟨its, rv, hl, _⟩ := I.list hs
    have ea := So.each_of I hd rv
    refine sorted_tups (bs := ds) (R := fun u d => ∃ v, Dp X.K H v d ∧ L2.RelV v u) hl.isList (ea.mono fun _ _ z => z.1) (ea.mono fun _ _ z => z.2) hal hso hz (fun d hd => ?_) fun out hlen eo => ?_
    · have := hdp d hd
      omega
    · obtain ⟨ys, ry, dy⟩ := So.each_back eo
      obtain ⟨ep, he'⟩ := PyProof.Rows.sortedAll_at s.heap its out.toArray
      have hyl : ys.length = ds.length := by rw [ry.length, hlen]
      exact ⟨.ref _, upd H (s.heap.objs.size + 1) (.lst ys), I.laid (t' := s.toks) (fun _ _ => PyProof.Rows.sortedAll_old) (Nat.le_succ _) ⟨by rw [hyl]; exact hz, out, ep, ry, by simpa using he'⟩, rfl, q ys _ (I.hok.fresh (Nat.le_succ _)) dy⟩
end
end Sd
/-! sorted(a tuple of tuples of alike data), the empty tuple among them. -/
namespace Sd
open PySem PySem.Spec PyProof.Rows L2 Bx TL Dx PySem.W PySem.Calls
section
variable {P : Program} {w : World} {A : Around} {E : Value → Shared → Prop} {s : Shared} {vs : List Value} {bs : List PyData} {R : Value → PyData → Prop}
theorem sorted_seqT {a : Addr} {Q : Value → Shared → Prop} (ht : s.heap.IsTuple a vs.toArray) (e : EachIs R vs bs) (er : EachIs (fun v b => ∃ as, PySem.Reads s.heap v b as) vs bs) (hal : AllAlike bs) (hp : ∀ b ∈ bs, (∃ xs, b = .tuple xs) ∧ plain b = true) (hL : bs.length ≤ sizeLine)
    (hu : ∀ b, b ∈ bs → A.units + 2 + b.depth < cLine)
    (hQ : ∀ (h' : PySem.Heap) (p : Addr) (out : List Value) (c : Nat), (∀ b o, s.heap.get? b = some o → h'.get? b = some o) → s.heap.get? p = none → h'.get? p = some (seqObj "list" out.toArray c) → EachIs R out (bs.mergeSort (dataLe false id)) → Q (.ref p) { s with heap := h' }) :
    wpAny (model P w) A (call (.builtin "sorted") [.ref a]) Q E s := by
  obtain ⟨o, ho, hc, n, hd⟩ := ht
  have hvl : vs.length = bs.length := e.length
  refine Calls.call_function_entry kind_sorted plain_sorted entry_sorted (args_sorted1 _) ?_
  unfold Builtin.«sorted»
  refine wpAny_bind (m := checkCount "sorted" 1 1 _) (wpAny_pure ?_)
  refine wpAny_bind (wpAny_collect_seq a (.inr rfl) ho hc hd (fun h1 k1 => ?_) (by rw [List.size_toArray]; omega))
  have ez : vs.toArray.toList = vs := by simp
  rw [ez]
  have hline : vs.length ≤ sizeLine := by omega
  refine wpAny_bind (wpAny_newList ?_ hline)
  have hoL : (h1.push (seqObj "list" vs.toArray 0)).get? h1.objs.size = some (seqObj "list" vs.toArray 0) := Heap.get?_push_size _ rfl
  have kp : ∀ b u, s.heap.get? b = some u → (h1.push (seqObj "list" vs.toArray 0)).get? b = some u := fun b u q => Heap.get?_push_of_some _ (k1 b u q)
  refine wpAny_bind (wpAny_holding (list_sort_tups (R := R) (enc := id) (bs := bs) hoL e ?reads (by rw [List.map_id]; exact hal) (fun d hd => (hp d hd).1) hL (fun d hd => ?room) fun out hout eo => ?done))
  case reads =>
    have both : EachIs (fun u d => (∃ as, PySem.Reads s.heap u d as)) vs bs := er
    refine (each_mem both).mono fun u d z => ?_
    obtain ⟨as, r⟩ := z.1
    have z0 := (is_nk d u as (hp d z.2).2 r).2
    exact ⟨as, PyProof.Rows.Reads.keeps kp r, by rw [z0]; exact List.not_mem_nil⟩
  case room =>
    have z := hu d hd
    show A.in1.units + 1 + d.depth < cLine
    simp only [Around.in1_units]
    omega
  case done =>
    obtain ⟨c, hc⟩ := sortedHeap_at (vs := vs) (out := out.toArray) hoL
    have hnone : s.heap.get? h1.objs.size = none := by
      cases q : s.heap.get? h1.objs.size with
      | none => rfl
      | some u => exact absurd (Heap.lt_size (k1 _ _ q)) (Nat.lt_irrefl _)
    refine wpAny_pure ⟨_, rfl, hQ _ h1.objs.size out c (fun b u q0 => ?_) hnone hc eo⟩
    have q := k1 b u q0
    have hlt := Heap.lt_size q
    show (sortedHeap (h1.push (seqObj "list" vs.toArray 0)) h1.objs.size vs _).get? b = some u
    rw [sortedHeap_old (Nat.ne_of_lt hlt) (by rw [size_push']; exact Nat.lt_succ_of_lt hlt)]
    exact Heap.get?_push_of_some _ q
end
section
variable {X : Cx}
def rSortTT (K : PySem.W.Frag) : List V → Hp → VK → Prop := fun xs H Q => ∃ (a : Addr) (vs : List V) (ds : List PyData), xs = [V.ref a] ∧ SqT K H a vs ∧ DpAll K H vs ds ∧ AllAlike ds ∧ (∀ d ∈ ds, (∃ xs, d = .tuple xs) ∧ plain d = true) ∧ ds.length ≤ sizeLine ∧ (∀ d ∈ ds, d.depth ≤ 60) ∧
  ∀ (ys : List V) (p : Addr), H p = none → DpAll K H ys (ds.mergeSort So.dle) → Q (.ref p) (upd H p (.lst ys))
theorem cr_sortTT (hu : X.A.units + 65 < cLine) : CallR X (.builtin "sorted") (rSortTT X.K) := by
  intro pins s σ H xs us Q I r h
  obtain ⟨a, vs, ds, rfl, hs, hd, hal, hso, hz, hdp, q⟩ := h
  rw [Vals.ref1 r]
  obtain ⟨its, rv, pl, _⟩ := I.tuple hs
  have ea := So.each_of I hd rv
  refine sorted_seqT (bs := ds) (R := fun u d => ∃ v, Dp X.K H v d ∧ L2.RelV v u) pl (ea.mono fun _ _ z => z.1) (ea.mono fun _ _ z => z.2) hal hso hz (fun d hd => ?_) fun h' p out c k hp hg eo => ?_
  · have := hdp d hd
    omega
  · obtain ⟨ys, ry, dy⟩ := So.each_back eo
    have hl2 : ys.length ≤ sizeLine := by
      have z := eo.length
      rw [List.length_mergeSort] at z
      rw [ry.length, z]
      exact hz
    have hn : H p = none := I.hok.gone hp
    exact ⟨.ref p, _, I.laidN (t' := s.toks) (o := .lst ys) k hp hn ⟨hl2, out, c, ry, hg⟩, rfl, q ys p hn dy⟩
end
end Sd
/-! {**d, k: v}, and min(xs, default=v). -/
namespace Dd
open PySem PySem.Spec PyProof.Rows L2 Bx TL
open Sem (wp)
section
variable {prog : Program} {w : World} {κ : Type} [DecidableEq κ] {knd : PySem.KeyKind prog w κ} {A : Around} {E : Value → Shared → Prop} {s : Shared}
theorem put_pairs {d : Addr} {kvs : List (κ × Value)} {k : κ} {key v : Value} {Q : Unit → Shared → Prop} (hkey : knd.is k key = true) (hm : s.heap.DictOf knd d kvs)
    (hQ : ∀ h', h'.DictOf knd d (PySem.stored kvs k v) → Heap.SameBut d s.heap h' → Q () { s with heap := h' }) (hsz : kvs.length ≤ sizeLine) :
    wpAny (model prog w) A (dictPut d (knd.hash k) key v) Q E s := by
  obtain ⟨o, es, ep, ho, hc, hd, hk, hp, hn⟩ := hm
  have hes : es.size ≤ sizeLine := by
    have e1 := hp.length
    have e2 : es.toList.length = es.size := by simp
    omega
  unfold dictPut
  refine wpAny_bind (PySem.wpAny_dictFind_of hkey ho hd hk ?_)
  have hidx : (es.findIdx? fun e => knd.is k e.key) = kvs.findIdx? fun kv => decide (kv.1 = k) := by
    rw [← hp.findIdx k]; obtain ⟨l⟩ := es; simp
  cases hi : es.findIdx? fun e => knd.is k e.key with
  | some i =>
    refine wpAny_updateDict ho hd (hQ _ ⟨_, _, ep, Heap.get?_update_self _ ho (Obj.isFreed_of_dict (Obj.data_mapDict hd _)), hc.mapDict _, Obj.data_mapDict hd _, hk.modify _ _, ?_, ?_⟩ (Heap.SameBut.update ..))
    · rw [PySem.stored, if_pos (PySem.any_of_findIdx_some (hidx ▸ hi))]
      have hl : (es.toList.findIdx? fun e => knd.is k e.key) = some i := by rw [← hi]; obtain ⟨l⟩ := es; simp
      have := hp.modify hn hl v
      obtain ⟨l⟩ := es
      simpa using this
    · rw [PySem.stored, if_pos (PySem.any_of_findIdx_some (hidx ▸ hi)), PySem.keys_map_store]; exact hn
  | none =>
    have hnot : k ∉ kvs.map (·.1) := PySem.not_mem_of_findIdx_none (hidx ▸ hi)
    have hany : ¬ (kvs.any fun kv => decide (kv.1 = k)) = true := by
      rw [List.any_eq_true]; rintro ⟨kv, hkv, he⟩
      exact hnot (List.mem_map.mpr ⟨kv, hkv, of_decide_eq_true he⟩)
    refine wpAny_updateDictKeys (hz := hes) ho hd (hQ _ ⟨_, _, ep + 1, Heap.get?_update_self _ ho (Obj.isFreed_of_dict (Obj.data_mapDictKeys hd _)), hc.mapDictKeys _, Obj.data_mapDictKeys hd _, hk.push hkey _, ?_, ?_⟩ (Heap.SameBut.update ..))
    · rw [PySem.stored, if_neg hany]
      have := hp.append hkey (knd.hash k) v
      obtain ⟨l⟩ := es
      simpa using this
    · rw [PySem.stored, if_neg hany, List.map_append, List.nodup_append]
      refine ⟨hn, by simp, ?_⟩
      intro a ha b hb
      simp only [List.map_cons, List.map_nil, List.mem_singleton] at hb
      subst hb
      exact fun e => hnot (e ▸ ha)
theorem merge_map {d o : Addr} {kvs more : List (κ × Value)} {Q : Unit → Shared → Prop} (hdo : d ≠ o) (hoS : (o == sysModules) = false)
    (hd : s.heap.DictOf knd d kvs) (ho : s.heap.DictOf knd o more)
    (hQ : ∀ h', h'.DictOf knd d (PySem.merged kvs more) → Heap.SameBut d s.heap h' → Q () { s with heap := h' })
    (hsz : kvs.length + more.length ≤ sizeLine) :
    wpAny (model prog w) A (mergeMapping d (.ref o) false) Q E s := by
  obtain ⟨od, esd, epd, hod, hcd, hdd, hkd, hpd, hnd⟩ := id hd
  obtain ⟨oo, eso, epo, hoo, hco, hdo', hko, hpo, hno⟩ := id ho
  have hlen : more.length = eso.size := by rw [← hpo.length]; simp
  unfold mergeMapping
  refine wpAny_bind (wpAny_isInstance ho.typeIs isSubtype_dict_dict ?_)
  simp only [if_true]
  refine wpAny_bind (wpAny_specialOf ho.typeIs F.slot_dict_iter.lookup (wpAny_bind (wpAny_pure ?_)))
  show wpAny _ _ (if (o == sysModules) = true then _ else _) _ _ _
  rw [if_neg (by rw [hoS]; exact Bool.false_ne_true)]
  have fin : wpAny (model prog w) A (do
      let size := (← dictEntries o).size
      let epoch ← dictEpoch o
      for i in List.range size do
        let some e := (← dictEntries o)[i]? | unsupported "dict.changed-during-merge"
        holding [e.key, e.val] do
          dictPut d e.hash e.key e.val
        if (← dictEpoch o) != epoch then unsupported "dict.changed-during-merge") Q E s := by
    refine wpAny_bind (wpAny_dictEntries hoo hdo' ?_)
    refine wpAny_bind (wpAny_dictEpoch hoo hdo' ?_)
    refine wpAny_bind (wpAny_forIn_list _
      (fun rest _ s' => ∃ h' i, s' = { s with heap := h' } ∧ rest = List.range' i (eso.size - i) ∧ i ≤ eso.size ∧ h'.DictOf knd d (PySem.merged kvs (more.take i)) ∧ h'.get? o = some oo ∧ Heap.SameBut d s.heap h')
      (fun _ s' => wpAny (model prog w) A (pure ()) Q E s') ?_ ?_ (List.range eso.size) _ ⟨s.heap, 0, rfl, by rw [Nat.sub_zero, List.range_eq_range'], Nat.zero_le _, by simpa [PySem.merged] using hd, hoo, Heap.SameBut.refl _ _⟩)
    · rintro x rest b s' ⟨h', i, rfl, hr, hi, hd', hoo', hs'⟩
      have hlt : i < eso.size := by
        rcases Nat.lt_or_ge i eso.size with h | h
        · exact h
        · rw [Nat.sub_eq_zero_of_le h] at hr; simp at hr
      obtain ⟨rfl, hrest⟩ : x = i ∧ rest = List.range' (i + 1) (eso.size - (i + 1)) := by
        have e : eso.size - i = (eso.size - (i + 1)) + 1 := by omega
        rw [e, List.range'_succ] at hr
        injection hr with h1 h2
        exact ⟨h1, h2⟩
      refine wpAny_bind (wpAny_dictEntries hoo' hdo' ?_)
      rw [Array.getElem?_eq_getElem hlt]
      obtain ⟨kv, hkv⟩ : ∃ kv, more[x]? = some kv := ⟨more[x]'(by rw [hlen]; exact hlt), List.getElem?_eq_getElem _⟩
      obtain ⟨k, v⟩ := kv
      obtain ⟨hkey, hval⟩ := hpo.get? (e := eso[x]) (by simp [hlt]) hkv
      obtain ⟨k', hkey', hhash⟩ := hko eso[x] (Array.getElem_mem hlt)
      obtain rfl : k' = k := knd.inj _ _ _ hkey' hkey
      show wpAny _ _ (holding [eso[x].key, eso[x].val] (dictPut d eso[x].hash eso[x].key eso[x].val) >>= _) _ _ _
      rw [hhash, hval]
      have hmx : (PySem.merged kvs (more.take x)).length ≤ sizeLine := by
        have e1 := PySem.merged_length_le kvs (more.take x)
        have e2 : (more.take x).length ≤ more.length := by rw [List.length_take]; omega
        omega
      refine wpAny_bind (wpAny_holding (put_pairs (hsz := hmx) hkey hd' fun h'' hd'' hs'' => ?_))
      have hoo'' : h''.get? o = some oo := (hs''.2 o (Ne.symm hdo)).trans hoo'
      refine wpAny_bind (wpAny_dictEpoch hoo'' hdo' ?_)
      rw [if_neg (by simp)]
      exact wpAny_pure ⟨h'', x + 1, rfl, hrest, hlt, by rw [PySem.merged_take_succ kvs more x (k', v) hkv]; exact hd'', hoo'', hs'.trans hs''⟩
    · rintro b s' ⟨h', i, rfl, hr, hi, hd', hoo', hs'⟩
      have hin : i = eso.size := by
        rcases Nat.lt_or_ge i eso.size with h | h
        · have e : eso.size - i = (eso.size - (i + 1)) + 1 := by omega
          rw [e, List.range'_succ] at hr; exact nomatch hr
        · exact Nat.le_antisymm hi h
      rw [hin, ← hlen, List.take_length] at hd'
      exact wpAny_pure (hQ h' hd' hs')
  refine wpAny_bind (wpAny_dictEntries hod hdd ?_)
  have noref : ∀ e ∈ eso, ∀ a, e.key ≠ .ref a := fun e he a ea => by
    obtain ⟨k, hk, _⟩ := hko e he
    have := knd.byValue k _ hk
    rw [ea] at this
    cases this
  by_cases hemp : esd.isEmpty = true
  · rw [if_pos hemp]
    refine wpAny_bind (wpAny_dictEntries hoo hdo' ?_)
    refine wpAny_bind ?_
    rw [← Array.forIn_toList]
    refine wpAny_forIn_list _ (fun rest _ s' => s' = s ∧ ∀ e ∈ rest, e ∈ eso) _ ?_ ?_ _ _ ⟨rfl, fun e he => Array.mem_toList_iff.mp he⟩
    · rintro e rest b s' ⟨rfl, hin⟩
      have he := hin e (List.mem_cons_self ..)
      have hno' := noref e he
      cases ek : e.key with
      | ref a => exact absurd ek (hno' a)
      | _ => exact wpAny_pure ⟨rfl, fun e' h' => hin e' (List.mem_cons_of_mem _ h')⟩
    · rintro b s' ⟨rfl, _⟩
      exact fin
  · rw [if_neg hemp]
    exact fin
end
end Dd
namespace Dd
open PySem PySem.Spec PyProof.Rows L2 Bx TL
/-- {**e, k: v} -/
def tDStar (te tk tv : TE) : TE := fun σ H Q => ∀ p, H p = none → te σ (upd H p (.dK [])) fun x H1 => ∃ a kvs, x = .ref a ∧ H1 a = some (.dK kvs) ∧ a ≠ p ∧ H1 p = some (.dK []) ∧ kvs.length + 1 ≤ sizeLine ∧
  ∀ p2, (upd H1 p (.dK kvs)) p2 = none → tPairs [(tk, tv)] σ (upd (upd H1 p (.dK kvs)) p2 (.dK [])) fun ps H3 => ∃ k z, ps = [(kV k, z)] ∧ H3 p = some (.dK kvs) ∧ H3 p2 = some (.dK []) ∧ Q (.ref p) (upd (upd H3 p2 (.dK [(k, z)])) p (.dK (putK kvs k z)))
theorem pe_dstar {X : Cx} {e k v : Expr} {te tk tv : TE} {pos : Pos} (he : PE X e te) (hk : PE X k tk) (hv : PE X v tv) : PE X (.Dict [none, some k] [e, v] pos) (tDStar te tk tv) := by
  refine ⟨fun pins s σ H Q I q => ?_⟩
  rw [arm_eval_Dict]
  refine wpAny_bind (wpAny_standAt ?_)
  show wpAny _ _ (dictDisplay [(none, do let x ← eval e X.env; standAt pos; pure x), (some (eval k X.env), do let x ← eval v X.env; standAt pos; pure x)]) _ _ _
  unfold dictDisplay
  simp only [List.forIn_cons, List.forIn_nil, List.isEmpty_nil, if_true, pure_bind, List.nil_append, List.length_cons, List.length_nil]
  have hp0 := I.hok.fresh (Nat.le_refl s.heap.objs.size)
  have I1 := I.laid (a := s.heap.objs.size) (o := .dK []) (h' := s.heap.push { cls := .type "dict", data := .dict #[] }) (t' := s.toks) (fun _ _ z => Heap.get?_push_of_some _ z) (Nat.le_refl _) (dk_empty s.heap I.big)
  refine wpAny_bind (wpAny_bind (wpAny_bind (wpAny_alloc (wpAny_bind (wpAny_holding (wpAny_bind (thn (he.run pins _ σ _ _ I1 (q _ hp0)) fun u s1 ⟨x, H1, I2, r1, a, kvs, ex, ea, nap, ep, hz, q1⟩ => ?_)))))))
  refine wpAny_bind (wpAny_standAt (wpAny_pure ?_))
  subst ex
  obtain rfl : u = Value.ref a := r1
  obtain ⟨z0, hd0, vs0, r0, dd0⟩ := dk_of I2.hok ep
  cases r0
  obtain ⟨za, hda, vsa, ra, dda⟩ := dk_of I2.hok ea
  have len : kvs.length = vsa.length := ra.length
  have nd : (vsa.map (·.1)).Nodup := by
    obtain ⟨_, _, _, _, _, _, _, _, hn⟩ := dda
    exact hn
  refine wpAny_bind (wpAny_onRaise (wpAny_tryCatch (wpAny_onRaise (wpAny_holding (merge_map (Ne.symm nap) hda dd0 dda (fun h1 m1 sb1 => ?_) (by rw [List.length_nil]; omega))))))
  rw [PySem.merged_nil_of_nodup _ nd] at m1
  have hp1 : ∃ z, h1.get? s.heap.objs.size = some z := let ⟨z, _, _, hq, _⟩ := m1; ⟨z, hq⟩
  have I3 : L2.Inv X pins σ (upd H1 s.heap.objs.size (.dK kvs)) { s1 with heap := h1 } := d_write (t' := s1.toks) I2 (by rw [ep]; exact True.intro) sb1 hp1 (dk_new (by omega) hd0 ra m1)
  refine wpAny_pure (wpAny_pure (wpAny_bind ?_))
  show wpAny _ _ (holding [.ref s.heap.objs.size] (subDict (pairTrees [some k] [v] X.env pos)) >>= _) _ _ _
  have hp2 := I3.hok.fresh (Nat.le_refl h1.objs.size)
  have np12 : s.heap.objs.size ≠ h1.objs.size := fun z => by
    obtain ⟨o, ho⟩ := hp1
    exact Nat.ne_of_lt (PySem.Heap.lt_size ho) z
  have I4 := I3.laid (a := h1.objs.size) (o := .dK []) (h' := h1.push { cls := .type "dict", data := .dict #[] }) (t' := s1.toks) (fun _ _ z => Heap.get?_push_of_some _ z) (Nat.le_refl _) (dk_empty h1 I3.big)
  refine wpAny_bind (wpAny_holding (wpAny_subDict (knd := mixKind X.prog X.w) (by show 1 ≤ 15; decide) (thn ((pps_cons (pos := pos) hk hv pps_nil).run pins _ σ _ _ I4 (q1 _ hp2)) fun ws s2 ⟨ps, H3, I5, rel, kk, z, eps, e1, e2, q2⟩ => ?_)))
  subst eps
  obtain ⟨rs, cr, rk⟩ := carries_of (P := X.prog) (w := X.w) (kvs := [(kk, z)]) rel
  obtain ⟨z2, hd2, vs2, r2, dd2⟩ := dk_of I5.hok e2
  cases r2
  refine ⟨rs, cr, dd2, fun h2 m2 sb2 => ?_⟩
  have n2 : (rs.map (·.1)).Nodup := by
    have ek := rk.keys
    rw [← ek]
    exact List.nodup_cons.mpr ⟨List.not_mem_nil, List.nodup_nil⟩
  rw [PySem.merged_nil_of_nodup _ n2] at m2
  have hp3 : ∃ z, h2.get? h1.objs.size = some z := let ⟨z, _, _, hq, _⟩ := m2; ⟨z, hq⟩
  have I6 : L2.Inv X pins σ (upd H3 h1.objs.size (.dK [(kk, z)])) { s2 with heap := h2, toks := s2.toks + ws.length } := d_write I5 (by rw [e2]; exact True.intro) sb2 hp3 (dk_new (by rw [sizeLine_eq]; show 1 ≤ 16777216; decide) hd2 rk m2)
  have e3 : (upd H3 h1.objs.size (.dK [(kk, z)])) s.heap.objs.size = some (.dK kvs) := by rw [upd_ne np12]; exact e1
  obtain ⟨z3, hd3, vs3, r3, dd3⟩ := dk_of I6.hok e3
  refine wpAny_bind (wpAny_onRaise (wpAny_holding (merge_map np12 hd2 dd3 m2 (fun h3 m3 sb3 => ?_) ?_)))
  · obtain ⟨rv, rs2⟩ : ∃ rv, rs = [(kk, rv)] ∧ RelV z rv := by
      cases rk with
      | cons h t =>
        cases t
        obtain ⟨h1, h2⟩ := h
        exact ⟨_, congrArg (fun z => [z]) (Prod.ext h1.symm rfl), h2⟩
    obtain ⟨rfl, rzv⟩ := rs2
    have hp4 : ∃ z, h3.get? s.heap.objs.size = some z := let ⟨z, _, _, hq, _⟩ := m3; ⟨z, hq⟩
    refine wpAny_pure (wpAny_pure ⟨.ref s.heap.objs.size, _, d_write (t' := s2.toks + ws.length) I6 (by rw [e3]; exact True.intro) sb3 hp4 (dk_new ?_ hd3 (r3.put kk rzv) m3), rfl, q2⟩)
    have := length_putK kvs kk z
    omega
  · have l3 : kvs.length = vs3.length := r3.length
    have l4 : [(kk, z)].length = rs.length := rk.length
    have l5 : [(kk, z)].length = 1 := rfl
    omega
end Dd
/-! t[::-1] of a tuple. -/
namespace Rt
open PySem PySem.Spec PyProof.Rows L2 HT
section
variable {prog : Program} {w : World} {A : Around} {E : Value → Shared → Prop} {s : Shared}
theorem sliceApplied_rev {sl : Addr} {vs : Value} {n : Nat} {Q : Int × Int × Nat → Shared → Prop} (hs : s.heap.IsSliceOf sl .none .none vs) (ps : IsPart vs (some (-1))) (h : Q ((n : Int) - 1, -1, n) s) :
    wpAny (model prog w) A (Builtin.Slice.sliceApplied (.ref sl) (pure (n : Int))) Q E s := by
  obtain ⟨os, hos, hcs, hds⟩ := id hs
  unfold Builtin.Slice.sliceApplied Builtin.Slice.sliceFields
  refine wpAny_bind (wpAny_bind (wpAny_field hos hds (x := .none) rfl (wpAny_bind (wpAny_field hos hds (x := .none) rfl (wpAny_bind (wpAny_field hos hds (x := vs) rfl (wpAny_pure ?_)))))))
  refine wpAny_bind (slicePart_ ps ?_)
  show wpAny _ _ (if ((-1 : Int) == 0) = true then _ else _) _ _ s
  rw [if_neg (by decide)]
  refine wpAny_bind (slicePart_none (wpAny_bind (slicePart_none (wpAny_bind (wpAny_pure ?_)))))
  show wpAny _ _ (pure ((n : Int) - 1, (-1 : Int), Builtin.Slice.slicePlaces ((n : Int) - 1) (-1) (-1))) _ _ s
  have e : Builtin.Slice.slicePlaces ((n : Int) - 1) (-1) (-1) = n := by
    unfold Builtin.Slice.slicePlaces
    rw [if_neg (by decide)]
    split
    · have e2 : ((n : Int) - 1 - -1 - 1) / (- -1) = (n : Int) - 1 := by
        rw [show (- -1 : Int) = 1 by decide, Int.ediv_one]
        omega
      rw [e2]
      omega
    · show (0 : Int).toNat = n
      omega
  rw [e]
  exact wpAny_pure h
theorem pick_rev (xs : Array Value) : ((List.range xs.size).filterMap fun (k : Nat) => xs[(((xs.size : Int) - 1) + (k : Int) * -1).toNat]?).toArray = xs.toList.reverse.toArray := by
  have e : (fun (k : Nat) => xs[(((xs.size : Int) - 1) + (k : Int) * -1).toNat]?) = (xs[·]?) ∘ fun k => xs.size - 1 - k := by
    funext k
    have : (((xs.size : Int) - 1) + (k : Int) * -1).toNat = xs.size - 1 - k := by omega
    show xs[(((xs.size : Int) - 1) + (k : Int) * -1).toNat]? = xs[xs.size - 1 - k]?
    rw [this]
  rw [e, ← List.filterMap_map, PySem.W.krv_range, List.filterMap_reverse, PySem.W.krv_all]
theorem getItem_tuple_rev {t sl : Addr} {items : Array Value} {vs : Value} {Q : Value → Shared → Prop} (ht : IsTup s.heap t items) (hs : s.heap.IsSliceOf sl .none .none vs) (ps : IsPart vs (some (-1)))
    (h : Q (.ref s.heap.objs.size) { s with heap := s.heap.push { cls := .type "tuple", data := .seq items.toList.reverse.toArray } })
    (hsz : items.size ≤ sizeLine) : wpAny (model prog w) A (getItem (.ref t) (.ref sl)) Q E s := by
  have htake : sizeOk (.seq items.toList.reverse.toArray) := by
    show items.toList.reverse.toArray.size ≤ sizeLine
    rw [List.size_toArray, List.length_reverse, Array.length_toList]
    exact hsz
  obtain ⟨os, hos, hcs, hds⟩ := id hs
  have hTs : s.TypeIs (.ref sl) "slice" := ⟨os, hos, hcs⟩
  unfold getItem
  try with_reducible refine wpAny_holding ?_
  first | refine wpAny_bind (wpAny_pure ?_) | skip
  refine wpAny_bind (wpAny_sequenceKey ht.typeIs (by decide) ?_)
  refine wpAny_bind (wpAny_callSpecial?_slot (name := Str.ofString "__getitem__") ht.typeIs PyProof.Rows.slot_tuple_getitem
    (wpAny_call_entry PyProof.Rows.slot_tuple_getitem ht.typeIs entry_tuple_getitem ?_ (args_tuple_getitem _ _)))
  show wpAny _ _ (Builtin.Tuple.tupleItemsOf (.ref t) >>= _) _ _ s
  refine wpAny_bind (tupleItemsOf_ ht ?_)
  refine wpAny_bind (wpAny_typeOf hTs ?_)
  rw [if_pos (by decide)]
  refine wpAny_bind (sliceApplied_rev hs ps ?_)
  have hno : ¬ (((((items.size : Int) - 1) == 0 && (-1 : Int) == 1) && items.size == items.size) = true) := by
    rw [show ((-1 : Int) == 1) = false by decide, Bool.and_false, Bool.false_and]
    exact Bool.false_ne_true
  show wpAny _ _ (if ((((items.size : Int) - 1) == 0 && (-1 : Int) == 1) && items.size == items.size) = true then _ else _) _ _ s
  rw [if_neg hno, pick_rev]
  first
    | exact wpAny_bind (m := Builtin.Tuple.tupleExact _) (wpAny_newObj_type (wpAny_pure ⟨_, rfl, wpAny_pure h⟩) htake)
    | exact wpAny_bind (m := Builtin.Tuple.tupleExact _) (wpAny_newObj_type (wpAny_bind (wpAny_pure (wpAny_pure ⟨_, rfl, wpAny_pure h⟩))) htake)
    | exact wpAny_bind (wpAny_bind (m := Builtin.Tuple.tupleExact _) (wpAny_newObj_type (wpAny_pure (wpAny_pure ⟨_, rfl, wpAny_pure h⟩)) htake))
    | exact wpAny_bind (wpAny_bind (m := Builtin.Tuple.tupleExact _) (wpAny_newObj_type (wpAny_pure ⟨_, rfl, wpAny_pure h⟩) htake))
end
section
variable {X : Cx}
def tRevT (K : PySem.W.Frag) (te : TE) : TE := fun σ H Q => te σ H fun x H1 => ∃ a xs, x = .ref a ∧ SqT K H1 a xs ∧ ∀ p, H1 p = none → Q (.ref p) (upd H1 p (.tup xs.reverse))
theorem pe_revT {e : Expr} {te : TE} {k : Nat} {p1 p2 p3 pos : Pos} (he : PE X e te) : PE X (.Subscript e (.Slice none none (some (.UnaryOp .USub (.Constant (.int 1) k p1) p2)) p3) pos) (tRevT X.K te) := by
  refine ⟨fun pins s σ H Q I h => ?_⟩
  refine Subscript_ (thn (he.run pins s σ H _ I h) fun v s1 ⟨x, H1, I1, r1, q1⟩ => ?_)
  obtain ⟨a, xs, ex, hx, q⟩ := q1
  subst ex
  cases r1
  have hst : PO X (some (.UnaryOp .USub (.Constant (.int 1) k p1) p2)) (tPart (tUn (rU fun i => .int (-i)) (tC (.int 1)))) := po_some (pe_un un_neg pe_int)
  refine wpAny_Slice (thn (po_none.run pins s1 σ H1 (fun o H2 => o = none ∧ H2 = H1) I1 ⟨rfl, rfl⟩) fun vl s2 ⟨l, H2, I2, pl, el, e2⟩ => ?_)
  subst el e2
  refine thn (po_none.run pins s2 σ H2 (fun o H3 => o = none ∧ H3 = H2) I2 ⟨rfl, rfl⟩) fun vu s3 ⟨u, H3, I3, pu, eu, e3⟩ => ?_
  subst eu e3
  refine thn (hst.run pins s3 σ H3 (fun o H4 => o = some (-1) ∧ H4 = H3) I3 ⟨1, rfl, -1, rfl, rfl, rfl⟩) fun vs s4 ⟨o, H4, I4, ps, eo, e4⟩ => ?_
  subst eo e4
  cases pl
  cases pu
  have I5 : Inv X pins σ H4 { s4 with heap := s4.heap.push { cls := .type "slice", data := .fields #[.none, .none, vs] } } := I4.kept (t' := s4.toks) fun b ob q => Heap.get?_push_of_some _ q
  obtain ⟨its, r, ht, hz⟩ := I5.tuple hx
  have hlen := r.length
  show wpAny (model X.prog X.w) X.A (subscriptTail e (.Slice none none (some (.UnaryOp .USub (.Constant (.int 1) k p1) p2)) p3) (.ref a) (.ref s4.heap.objs.size)) (EP X pins σ Q) X.xe { s4 with heap := s4.heap.push { cls := .type "slice", data := .fields #[.none, .none, vs] } }
  refine tail_any (ops := [.ref a, .ref s4.heap.objs.size]) ht.typeIs (PyProof.Rows.slot_tuple_getitem.lookup) ?_ (by with_unfolding_all rfl)
  refine getItem_tuple_rev ht (Heap.IsSliceOf.new _ .none .none vs) ps ?_ (by rw [List.size_toArray]; omega)
  refine ⟨.ref _, _, I5.laid (t' := s4.toks) (o := .tup xs.reverse) (fun b ob q => Heap.get?_push_of_some _ q) (Nat.le_refl _) ?_, rfl, q _ (I5.hok.fresh (Nat.le_refl _))⟩
  exact ⟨by rw [List.length_reverse]; exact hz, _, r.reverse, IsTup.new _ _⟩
end
end Rt
namespace K31
local macro_rules | `(tactic| walk_at "rd") => `(tactic| repeat (first | refine ⟨rfl, ?_⟩ | refine ⟨_, rfl, ?_⟩ | refine ⟨_, _, rfl, rfl, ?_⟩ | refine ⟨⟨_, rfl⟩, ?_⟩))
open PySem PySem.Spec PyProof.Rows L2 Bx TL Dx Zx Ow Sup NdefX Px T31
def topS (i : Nat) : Stmt := PySem.Challenge.pw_shadowlinks_k31_methods_of_wholes.main.body.getD i (.Pass ⟨0, 0, 0, 0⟩)
abbrev s_Kind_is_valid : Stmt := inClass (topS 5) 2
abbrev n_Kind_is_valid : List Str := ["self", "names", "constraint", "name"]
theorem sc_Kind_is_valid : FnScope n_Kind_is_valid ["self", "names", "constraint"] (defScope s_Kind_is_valid) := ⟨rfl, rfl, rfl, by decide +kernel, rfl, by decide +kernel, by decide +kernel⟩
abbrev s_progression : Stmt := topS 7
abbrev n_progression : List Str := ["modulus", "rest"]
theorem sc_progression : FnScope n_progression ["modulus", "rest"] (defScope s_progression) := ⟨rfl, rfl, rfl, by decide +kernel, rfl, by decide +kernel, by decide +kernel⟩
abbrev s_solve_one : Stmt := topS 8
abbrev n_solve_one : List Str := ["coefficient", "modulus", "rest", "common", "inverse", "_"]
theorem sc_solve_one : FnScope n_solve_one ["coefficient", "modulus", "rest"] (defScope s_solve_one) := ⟨rfl, rfl, rfl, by decide +kernel, rfl, by decide +kernel, by decide +kernel⟩
abbrev s_meet : Stmt := topS 9
abbrev n_meet : List Str := ["progressions", "modulus", "rest", "own_modulus", "own_rest", "found"]
theorem sc_meet : FnScope n_meet ["progressions"] (defScope s_meet) := ⟨rfl, rfl, rfl, by decide +kernel, rfl, by decide +kernel, by decide +kernel⟩
abbrev s_bezout : Stmt := topS 10
abbrev n_bezout : List Str := ["first", "second", "row", "other", "many", "number", "its", "own"]
theorem sc_bezout : FnScope n_bezout ["first", "second"] (defScope s_bezout) := ⟨rfl, rfl, rfl, by decide +kernel, rfl, by decide +kernel, by decide +kernel⟩
abbrev s_is_ascending : Stmt := topS 12
abbrev n_is_ascending : List Str := ["values"]
theorem sc_is_ascending : FnScope n_is_ascending ["values"] (defScope s_is_ascending) := ⟨rfl, rfl, rfl, by decide +kernel, rfl, by decide +kernel, by decide +kernel⟩
abbrev s_merge_names : Stmt := topS 13
abbrev n_merge_names : List Str := ["lists", "names", "name"]
theorem sc_merge_names : FnScope n_merge_names ["lists"] (defScope s_merge_names) := ⟨rfl, rfl, rfl, by decide +kernel, rfl, by decide +kernel, by decide +kernel⟩
abbrev s_replace_names : Stmt := topS 14
abbrev n_replace_names : List Str := ["names", "table", "name"]
theorem sc_replace_names : FnScope n_replace_names ["names", "table"] (defScope s_replace_names) := ⟨rfl, rfl, rfl, by decide +kernel, rfl, by decide +kernel, by decide +kernel⟩
abbrev s_is_terms : Stmt := topS 16
abbrev n_is_terms : List Str := ["terms", "name", "_", "number"]
theorem sc_is_terms : FnScope n_is_terms ["terms"] (defScope s_is_terms) := ⟨rfl, rfl, rfl, by decide +kernel, rfl, by decide +kernel, by decide +kernel⟩
abbrev s_Sum___init__ : Stmt := inClass (topS 17) 0
abbrev n_Sum___init__ : List Str := ["self", "terms"]
theorem sc_Sum___init__ : FnScope n_Sum___init__ ["self", "terms"] (defScope s_Sum___init__) := ⟨rfl, rfl, rfl, by decide +kernel, rfl, by decide +kernel, by decide +kernel⟩
abbrev s_Sum___getitem__ : Stmt := inClass (topS 17) 4
abbrev n_Sum___getitem__ : List Str := ["self", "at"]
theorem sc_Sum___getitem__ : FnScope n_Sum___getitem__ ["self", "at"] (defScope s_Sum___getitem__) := ⟨rfl, rfl, rfl, by decide +kernel, rfl, by decide +kernel, by decide +kernel⟩
abbrev s_Sum_at : Stmt := inClass (topS 17) 10
abbrev n_Sum_at : List Str := ["self", "assignment", "name", "number"]
theorem sc_Sum_at : FnScope n_Sum_at ["self", "assignment"] (defScope s_Sum_at) := ⟨rfl, rfl, rfl, by decide +kernel, rfl, by decide +kernel, by decide +kernel⟩
abbrev s_Sum_renamed : Stmt := inClass (topS 17) 11
abbrev n_Sum_renamed : List Str := ["self", "table", "name", "number"]
theorem sc_Sum_renamed : FnScope n_Sum_renamed ["self", "table"] (defScope s_Sum_renamed) := ⟨rfl, rfl, rfl, by decide +kernel, rfl, by decide +kernel, by decide +kernel⟩
abbrev s__added : Stmt := topS 18
abbrev n__added : List Str := ["terms", "found", "name", "number"]
theorem sc__added : FnScope n__added ["terms"] (defScope s__added) := ⟨rfl, rfl, rfl, by decide +kernel, rfl, by decide +kernel, by decide +kernel⟩
abbrev s_satisfies : Stmt := topS 20
abbrev n_satisfies : List Str := ["kind", "theory", "assignment", "constraint"]
theorem sc_satisfies : FnScope n_satisfies ["kind", "theory", "assignment"] (defScope s_satisfies) := ⟨rfl, rfl, rfl, by decide +kernel, rfl, by decide +kernel, by decide +kernel⟩
abbrev s_Wholes_names_in : Stmt := inClass (topS 22) 1
abbrev n_Wholes_names_in : List Str := ["self", "constraint", "name", "_"]
theorem sc_Wholes_names_in : FnScope n_Wholes_names_in ["self", "constraint"] (defScope s_Wholes_names_in) := ⟨rfl, rfl, rfl, by decide +kernel, rfl, by decide +kernel, by decide +kernel⟩
abbrev s_Wholes_is_valid : Stmt := inClass (topS 22) 2
abbrev n_Wholes_is_valid : List Str := ["self", "names", "constraint", "__class__", "terms", "modulus", "_"]
theorem ns_Wholes_is_valid : NScope n_Wholes_is_valid ["self", "names", "constraint"] [("__class__" : Str)] (defScope s_Wholes_is_valid) := nscope_by (by decide +kernel)
abbrev s_Wholes_holds : Stmt := inClass (topS 22) 3
abbrev n_Wholes_holds : List Str := ["self", "constraint", "assignment", "terms", "modulus", "rest"]
theorem sc_Wholes_holds : FnScope n_Wholes_holds ["self", "constraint", "assignment"] (defScope s_Wholes_holds) := ⟨rfl, rfl, rfl, by decide +kernel, rfl, by decide +kernel, by decide +kernel⟩
abbrev s_Wholes_contradiction : Stmt := inClass (topS 22) 4
abbrev n_Wholes_contradiction : List Str := ["self"]
theorem sc_Wholes_contradiction : FnScope n_Wholes_contradiction ["self"] (defScope s_Wholes_contradiction) := ⟨rfl, rfl, rfl, by decide +kernel, rfl, by decide +kernel, by decide +kernel⟩
abbrev s_Wholes_rename : Stmt := inClass (topS 22) 5
abbrev n_Wholes_rename : List Str := ["self", "theory", "table", "renamed", "names", "constraints", "terms", "modulus", "rest"]
theorem sc_Wholes_rename : FnScope n_Wholes_rename ["self", "theory", "table"] (defScope s_Wholes_rename) := ⟨rfl, rfl, rfl, by decide +kernel, rfl, by decide +kernel, by decide +kernel⟩
abbrev s_Wholes_lift : Stmt := inClass (topS 22) 7
abbrev n_Wholes_lift : List Str := ["self", "theory", "name", "assignment", "found"]
theorem sc_Wholes_lift : FnScope n_Wholes_lift ["self", "theory", "name", "assignment"] (defScope s_Wholes_lift) := ⟨rfl, rfl, rfl, by decide +kernel, rfl, by decide +kernel, by decide +kernel⟩
abbrev s_Wholes_ground : Stmt := inClass (topS 22) 8
abbrev n_Wholes_ground : List Str := ["self", "theory"]
theorem sc_Wholes_ground : FnScope n_Wholes_ground ["self", "theory"] (defScope s_Wholes_ground) := ⟨rfl, rfl, rfl, by decide +kernel, rfl, by decide +kernel, by decide +kernel⟩
abbrev s_Wholes_pin : Stmt := inClass (topS 22) 13
abbrev n_Wholes_pin : List Str := ["self", "names", "assignment", "name"]
theorem sc_Wholes_pin : FnScope n_Wholes_pin ["self", "names", "assignment"] (defScope s_Wholes_pin) := ⟨rfl, rfl, rfl, by decide +kernel, rfl, by decide +kernel, by decide +kernel⟩
abbrev s_fitting : Stmt := topS 23
abbrev n_fitting : List Str := ["constraints", "name", "assignment", "found", "terms", "modulus", "rest", "others", "one", "term"]
theorem sc_fitting : FnScope n_fitting ["constraints", "name", "assignment"] (defScope s_fitting) := ⟨rfl, rfl, rfl, by decide +kernel, rfl, by decide +kernel, by decide +kernel⟩
abbrev s__is_multiple : Stmt := topS 24
abbrev n__is_multiple : List Str := ["number", "modulus"]
theorem sc__is_multiple : FnScope n__is_multiple ["number", "modulus"] (defScope s__is_multiple) := ⟨rfl, rfl, rfl, by decide +kernel, rfl, by decide +kernel, by decide +kernel⟩
abbrev s__law_source : Stmt := topS 26
abbrev n__law_source : List Str := ["_law_script", "_law_k", "_law_number"]
theorem sc__law_source : FnScope n__law_source ["_law_script", "_law_k"] (defScope s__law_source) := ⟨rfl, rfl, rfl, by decide +kernel, rfl, by decide +kernel, by decide +kernel⟩
abbrev s__law_draw : Stmt := topS 27
abbrev n__law_draw : List Str := ["_law_source_here", "_law_limit", "_law_number", "_law_mixed"]
theorem sc__law_draw : FnScope n__law_draw ["_law_source_here", "_law_limit"] (defScope s__law_draw) := ⟨rfl, rfl, rfl, by decide +kernel, rfl, by decide +kernel, by decide +kernel⟩
abbrev s__law_is_int : Stmt := topS 28
abbrev n__law_is_int : List Str := ["_law_value"]
theorem sc__law_is_int : FnScope n__law_is_int ["_law_value"] (defScope s__law_is_int) := ⟨rfl, rfl, rfl, by decide +kernel, rfl, by decide +kernel, by decide +kernel⟩
abbrev s__law_equal : Stmt := topS 29
abbrev n__law_equal : List Str := ["_law_actual", "_law_due", "_law_k"]
theorem sc__law_equal : FnScope n__law_equal ["_law_actual", "_law_due"] (defScope s__law_equal) := ⟨rfl, rfl, rfl, by decide +kernel, rfl, by decide +kernel, by decide +kernel⟩
abbrev s__law_says : Stmt := topS 30
abbrev n__law_says : List Str := ["_law_actual", "_law_due"]
theorem sc__law_says : FnScope n__law_says ["_law_actual", "_law_due"] (defScope s__law_says) := ⟨rfl, rfl, rfl, by decide +kernel, rfl, by decide +kernel, by decide +kernel⟩
abbrev s__law_shared : Stmt := topS 31
abbrev n__law_shared : List Str := ["_law_first_here", "_law_second", "_law_a", "_law_b", "_law_k", "_law_rest"]
theorem sc__law_shared : FnScope n__law_shared ["_law_first_here", "_law_second"] (defScope s__law_shared) := ⟨rfl, rfl, rfl, by decide +kernel, rfl, by decide +kernel, by decide +kernel⟩
abbrev s__law_factor : Stmt := topS 32
abbrev n__law_factor : List Str := ["_law_terms_here", "_law_name", "_law_pair"]
theorem sc__law_factor : FnScope n__law_factor ["_law_terms_here", "_law_name"] (defScope s__law_factor) := ⟨rfl, rfl, rfl, by decide +kernel, rfl, by decide +kernel, by decide +kernel⟩
abbrev s__law_names : Stmt := topS 33
abbrev n__law_names : List Str := ["_law_source_here", "_law_count", "_law_pool", "_law_names_here", "_law_k", "_law_left"]
theorem sc__law_names : FnScope n__law_names ["_law_source_here", "_law_count"] (defScope s__law_names) := ⟨rfl, rfl, rfl, by decide +kernel, rfl, by decide +kernel, by decide +kernel⟩
abbrev s__law_terms : Stmt := topS 34
abbrev n__law_terms : List Str := ["_law_source_here", "_law_names_here", "_law_reach", "_law_terms_here", "_law_name", "_law_factor_here"]
theorem sc__law_terms : FnScope n__law_terms ["_law_source_here", "_law_names_here"] (defScope s__law_terms) := ⟨rfl, rfl, rfl, by decide +kernel, rfl, by decide +kernel, by decide +kernel⟩
abbrev s__law_modulus : Stmt := topS 35
abbrev n__law_modulus : List Str := ["_law_source_here"]
theorem sc__law_modulus : FnScope n__law_modulus ["_law_source_here"] (defScope s__law_modulus) := ⟨rfl, rfl, rfl, by decide +kernel, rfl, by decide +kernel, by decide +kernel⟩
abbrev s__law_sum : Stmt := topS 36
abbrev n__law_sum : List Str := ["_law_terms_here", "_law_values_here", "_law_pair"]
theorem sc__law_sum : FnScope n__law_sum ["_law_terms_here", "_law_values_here"] (defScope s__law_sum) := ⟨rfl, rfl, rfl, by decide +kernel, rfl, by decide +kernel, by decide +kernel⟩
abbrev s__law_constraint : Stmt := topS 37
abbrev n__law_constraint : List Str := ["_law_source_here", "_law_names_here", "_law_values_here", "_law_terms_here", "_law_modulus_here", "_law_rest"]
theorem sc__law_constraint : FnScope n__law_constraint ["_law_source_here", "_law_names_here", "_law_values_here"] (defScope s__law_constraint) := ⟨rfl, rfl, rfl, by decide +kernel, rfl, by decide +kernel, by decide +kernel⟩
abbrev s__law_values : Stmt := topS 38
abbrev n__law_values : List Str := ["_law_source_here", "_law_names_here", "_law_values_here", "_law_name"]
theorem sc__law_values : FnScope n__law_values ["_law_source_here", "_law_names_here"] (defScope s__law_values) := ⟨rfl, rfl, rfl, by decide +kernel, rfl, by decide +kernel, by decide +kernel⟩
abbrev s__law_holds : Stmt := topS 39
abbrev n__law_holds : List Str := ["_law_constraint_here", "_law_values_here", "_law_gap"]
theorem sc__law_holds : FnScope n__law_holds ["_law_constraint_here", "_law_values_here"] (defScope s__law_holds) := ⟨rfl, rfl, rfl, by decide +kernel, rfl, by decide +kernel, by decide +kernel⟩
abbrev s__law_valid : Stmt := topS 40
abbrev n__law_valid : List Str := ["_law_names_here", "_law_constraint_here", "_law_k", "_law_pair"]
theorem sc__law_valid : FnScope n__law_valid ["_law_names_here", "_law_constraint_here"] (defScope s__law_valid) := ⟨rfl, rfl, rfl, by decide +kernel, rfl, by decide +kernel, by decide +kernel⟩
abbrev s__law_told_apart : Stmt := topS 41
abbrev n__law_told_apart : List Str := ["_law_source_here", "_law_names_here", "_law_constraint_here", "_law_choice", "_law_kind", "_law_terms_here", "_law_modulus_here", "_law_left", "_law_at", "_law_spoilt", "_law_name"]
theorem sc__law_told_apart : FnScope n__law_told_apart ["_law_source_here", "_law_names_here", "_law_constraint_here", "_law_choice"] (defScope s__law_told_apart) := ⟨rfl, rfl, rfl, by decide +kernel, rfl, by decide +kernel, by decide +kernel⟩
abbrev s__law_judged_right : Stmt := topS 42
abbrev n__law_judged_right : List Str := ["_law_source_here", "_law_names_here", "_law_constraint_here", "_law_kind", "_law_choice", "_law_pair"]
theorem sc__law_judged_right : FnScope n__law_judged_right ["_law_source_here", "_law_names_here", "_law_constraint_here"] (defScope s__law_judged_right) := ⟨rfl, rfl, rfl, by decide +kernel, rfl, by decide +kernel, by decide +kernel⟩
abbrev s__law_holds_right : Stmt := topS 43
abbrev n__law_holds_right : List Str := ["_law_source_here", "_law_names_here", "_law_constraint_here", "_law_values_here", "_law_kind", "_law_passed", "_law_kept", "_law_name"]
theorem sc__law_holds_right : FnScope n__law_holds_right ["_law_source_here", "_law_names_here", "_law_constraint_here", "_law_values_here"] (defScope s__law_holds_right) := ⟨rfl, rfl, rfl, by decide +kernel, rfl, by decide +kernel, by decide +kernel⟩
abbrev s__law_table : Stmt := topS 44
abbrev n__law_table : List Str := ["_law_source_here", "_law_names_here", "_law_turn", "_law_targets", "_law_fresh", "_law_table_here", "_law_k", "_law_target"]
theorem sc__law_table : FnScope n__law_table ["_law_source_here", "_law_names_here"] (defScope s__law_table) := ⟨rfl, rfl, rfl, by decide +kernel, rfl, by decide +kernel, by decide +kernel⟩
abbrev s__law_renamed_right : Stmt := topS 45
abbrev n__law_renamed_right : List Str := ["_law_source_here", "_law_theory", "_law_table_here", "_law_passed", "_law_names_here", "_law_constraints", "_law_constraint_here", "_law_actual", "_law_terms_here", "_law_name", "_law_pair"]
theorem sc__law_renamed_right : FnScope n__law_renamed_right ["_law_source_here", "_law_theory"] (defScope s__law_renamed_right) := ⟨rfl, rfl, rfl, by decide +kernel, rfl, by decide +kernel, by decide +kernel⟩
abbrev s__law_first : Stmt := topS 46
abbrev n__law_first : List Str := ["_law_theory", "_law_name", "_law_values_here", "_law_only", "_law_value", "_law_step", "_law_constraint_here", "_law_number", "_law_factor_here", "_law_others", "_law_left", "_law_fits", "_law_pair", "_law_t"]
theorem sc__law_first : FnScope n__law_first ["_law_theory", "_law_name", "_law_values_here"] (defScope s__law_first) := ⟨rfl, rfl, rfl, by decide +kernel, rfl, by decide +kernel, by decide +kernel⟩
abbrev s__law_lifted : Stmt := topS 47
abbrev n__law_lifted : List Str := ["_law_theory", "_law_name", "_law_values_here"]
theorem sc__law_lifted : FnScope n__law_lifted ["_law_theory", "_law_name", "_law_values_here"] (defScope s__law_lifted) := ⟨rfl, rfl, rfl, by decide +kernel, rfl, by decide +kernel, by decide +kernel⟩
abbrev s__law_lift_right : Stmt := topS 48
abbrev n__law_lift_right : List Str := ["_law_theory", "_law_name", "_law_values_here", "_law_others", "_law_other", "_law_passed", "_law_due", "_law_actual"]
theorem sc__law_lift_right : FnScope n__law_lift_right ["_law_theory", "_law_name", "_law_values_here"] (defScope s__law_lift_right) := ⟨rfl, rfl, rfl, by decide +kernel, rfl, by decide +kernel, by decide +kernel⟩
abbrev s__law_ground_right : Stmt := topS 49
abbrev n__law_ground_right : List Str := ["_law_theory", "_law_free", "_law_failing", "_law_actual", "_law_constraint_here"]
theorem sc__law_ground_right : FnScope n__law_ground_right ["_law_theory"] (defScope s__law_ground_right) := ⟨rfl, rfl, rfl, by decide +kernel, rfl, by decide +kernel, by decide +kernel⟩
abbrev s_law : Stmt := topS 50
abbrev n_law : List Str := ["_law_script", "_law_source_here", "_law_names_here", "_law_values_here", "_law_constraints", "_law_theory", "_law_single", "_law_constraint_here", "_law_kind", "_law_passed", "_law_pinned", "_law_name", "_law_k"]
theorem sc_law : FnScope n_law ["_law_script"] (defScope s_law) := ⟨rfl, rfl, rfl, by decide +kernel, rfl, by decide +kernel, by decide +kernel⟩
section
variable {P : Program} {w : World} {K : PySem.W.Frag} {mg : Str → Option Value} {base : Heap}
theorem hu_of {k : Nat} {A : Around} (r : Room k A) : A.units + 1 < cLine := by
  have := r.un
  omega
/-! ### terms as data -/
def tmD (x : Tr5) : PyData := .tuple [.str x.1, .int x.2]
theorem tm_dp {H : Hp} {a : Addr} {x : Tr5} (h : SqT K H a [.str x.1, .int x.2]) : Dp K H (.ref a) (tmD x) := .tup h (.cons (.str _) (da_one (.int _)))
theorem tm_inv {H : Hp} {v : V} {x : Tr5} (h : Dp K H v (tmD x)) : ∃ a, v = .ref a ∧ SqT K H a [.str x.1, .int x.2] := by
  obtain ⟨a, xs, rfl, s, t⟩ := dp_tup h
  cases t with
  | cons h1 t =>
    cases t with
    | cons h2 t =>
      cases t
      rw [dp_str h1, dp_int h2] at s
      exact ⟨a, rfl, s⟩
theorem tm_at {H : Hp} {xs : List V} {ps : List Tr5} (hd : DpAll K H xs (ps.map tmD)) {i : Nat} {v : V} (hx : xs[i]? = some v) : ∃ x, ps[i]? = some x ∧ ∃ a, v = .ref a ∧ SqT K H a [.str x.1, .int x.2] := by
  obtain ⟨d, hd2, hxd⟩ := da_at hd hx
  rw [List.getElem?_map] at hd2
  cases e : ps[i]? with
  | none =>
    rw [e] at hd2
    cases hd2
  | some p =>
    rw [e] at hd2
    cases hd2
    exact ⟨p, rfl, tm_inv hxd⟩
/-! ### an instance changes, data do not -/
theorem sqt_ins {H : Hp} {p C dx a : Addr} {fs : List (Str × V)} {o : HO} {xs : List V} (hp : H p = some (.ins C dx fs)) (h : SqT K H a xs) : SqT K (upd H p o) a xs := by
  have ne : ∀ u, H a = some u → (∀ fs, u ≠ .ins C dx fs) → a ≠ p := fun u e n z => by
    rw [z, hp] at e
    exact n _ (Option.some.inj e).symm
  rcases h with (h | ⟨u, h⟩) | h
  · exact .inl (.inl (by rw [upd_ne (ne _ h fun _ z => by cases z)]; exact h))
  · exact .inl (.inr ⟨u, by rw [upd_ne (ne _ h fun _ z => by cases z)]; exact h⟩)
  · exact .inr h
theorem sql_ins {H : Hp} {p C dx a : Addr} {fs : List (Str × V)} {o : HO} {xs : List V} (hp : H p = some (.ins C dx fs)) (h : SqL K H a xs) : SqL K (upd H p o) a xs := by
  have ne : ∀ u, H a = some u → (∀ fs, u ≠ .ins C dx fs) → a ≠ p := fun u e n z => by
    rw [z, hp] at e
    exact n _ (Option.some.inj e).symm
  rcases h with (h | ⟨u, h⟩) | h
  · exact .inl (.inl (by rw [upd_ne (ne _ h fun _ z => by cases z)]; exact h))
  · exact .inl (.inr ⟨u, by rw [upd_ne (ne _ h fun _ z => by cases z)]; exact h⟩)
  · exact .inr h
theorem plt_ins {H : Hp} {p C dx a : Addr} {fs : List (Str × V)} {o : HO} {xs : List V} (hp : H p = some (.ins C dx fs)) (h : PlT H a xs) : PlT (upd H p o) a xs := by
  obtain ⟨u, h, n⟩ := h
  refine ⟨u, ?_, n⟩
  rw [upd_ne fun z => by rw [z, hp] at h; cases h]
  exact h
mutual
theorem dp_ins {H : Hp} {p C dx : Addr} {fs : List (Str × V)} {o : HO} (hp : H p = some (.ins C dx fs)) : ∀ {v : V} {d : PyData}, Dp K H v d → Dp K (upd H p o) v d
  | _, _, .non => .non
  | _, _, .bl b => .bl b
  | _, _, .int i => .int i
  | _, _, .str x => .str x
  | _, _, .lst h a => .lst (sql_ins hp h) (da_ins hp a)
  | _, _, .tup h a => .tup (sqt_ins hp h) (da_ins hp a)
theorem da_ins {H : Hp} {p C dx : Addr} {fs : List (Str × V)} {o : HO} (hp : H p = some (.ins C dx fs)) : ∀ {vs : List V} {ds : List PyData}, DpAll K H vs ds → DpAll K (upd H p o) vs ds
  | _, _, .nil => .nil
  | _, _, .cons h a => .cons (dp_ins hp h) (da_ins hp a)
end
/-! ### the sum's dict -/
structure DInv (ps : List Tr5) (kvs : List (Key × V)) : Prop where
  v : ∀ n, valV kvs (Sum.inr n) = if n ∈ ps.map (·.1) then some (V.int (coef ps n)) else none
  k : ∃ ks : List Str, kvs.map (·.1) = ks.map Sum.inr ∧ ks.Nodup ∧ ∀ n, n ∈ ks ↔ n ∈ ps.map (·.1)
  l : kvs.length ≤ ps.length
theorem dinv_nil : DInv [] [] := ⟨fun n => rfl, ⟨[], rfl, List.nodup_nil, fun n => Iff.rfl⟩, Nat.le_refl _⟩
theorem keys_put (kvs : List (Key × V)) (k : Key) (v : V) : (putK kvs k v).map (·.1) = if (valV kvs k).isSome = true then kvs.map (·.1) else kvs.map (·.1) ++ [k] := by
  rw [← valV_any]
  unfold putK
  split
  · rw [List.map_map]
    refine List.map_congr_left fun p _ => ?_
    show (if p.1 = k then (p.1, v) else p).1 = p.1
    split <;> rfl
  · rw [List.map_append]
    rfl
theorem dinv_put {ps : List Tr5} {kvs : List (Key × V)} (h : DInv ps kvs) (x : Tr5) : DInv (ps ++ [x]) (putK kvs (Sum.inr x.1) (.int (coef ps x.1 + x.2))) := by
  obtain ⟨hv, ⟨ks, hk, hn, hm⟩, hl⟩ := h
  refine ⟨fun n => ?_, ?_, ?_⟩
  · rw [valV_put, hv, coef_app, coef_one]
    by_cases e : n = x.1
    · subst e
      rw [if_pos rfl, if_pos rfl, if_pos (by rw [List.map_append]; exact List.mem_append_right _ List.mem_cons_self)]
    · have e1 : ¬ (Sum.inr n : Key) = Sum.inr x.1 := fun z => e (Sum.inr.inj z)
      have e2 : (n ∈ (ps ++ [x]).map (·.1)) ↔ n ∈ ps.map (·.1) := by simp [e]
      have e3 : ¬ x.1 = n := fun z => e z.symm
      rw [if_neg e1, if_neg e3, Int.add_zero]
      simp only [e2]
  · rw [keys_put, hv]
    by_cases e : x.1 ∈ ps.map (·.1)
    · rw [if_pos e]
      show ∃ ks : List Str, (if true = true then _ else _) = _ ∧ _
      rw [if_pos rfl]
      refine ⟨ks, hk, hn, fun n => ?_⟩
      rw [hm]
      constructor
      · intro z
        rw [List.map_append]
        exact List.mem_append_left _ z
      · intro z
        rw [List.map_append] at z
        rcases List.mem_append.mp z with z | z
        · exact z
        · rw [List.mem_singleton.mp z]
          exact e
    · rw [if_neg e]
      show ∃ ks : List Str, (if false = true then _ else _) = _ ∧ _
      rw [if_neg (by decide)]
      refine ⟨ks ++ [x.1], by rw [hk, List.map_append]; rfl, ?_, fun n => ?_⟩
      · refine List.nodup_append.mpr ⟨hn, by simp, fun a ha b hb z => ?_⟩
        rw [List.mem_singleton.mp hb] at z
        exact e ((hm _).mp (z ▸ ha))
      · rw [List.map_append, List.mem_append, List.mem_append, hm]
        exact Iff.rfl
  · rw [List.length_append]
    exact Nat.le_trans (length_putK _ _ _) (Nat.succ_le_succ hl)
theorem coef_none {ps : List Tr5} {n : Str} (hn : n ∉ ps.map (·.1)) : coef ps n = 0 := by
  unfold coef
  have : (ps.filter fun x => decide (x.1 = n)) = [] := List.filter_eq_nil_iff.mpr fun x hx hd => hn (List.mem_map.mpr ⟨x, hx, of_decide_eq_true hd⟩)
  rw [this]
  rfl
theorem dinv_get {ps : List Tr5} {kvs : List (Key × V)} (h : DInv ps kvs) (n : Str) : (valV kvs (Sum.inr n)).getD (.int 0) = .int (coef ps n) := by
  rw [h.v]
  split
  · rfl
  · rename_i e
    rw [coef_none e]
    rfl
theorem asc_perm {ys ks : List Str} (p : ys.Perm ks) (s : sortedS ys = true) (nd : ks.Nodup) : Asc ys := asc_of s (p.nodup_iff.mpr nd)
/-- a walk over a list or a tuple, told once; what changes does not touch it -/
theorem seq_case2 {H : Hp} {a : Addr} {xs : List V} {R : It → Hp → Prop} (h : SqL K H a xs ∨ SqT K H a xs) (k : ∀ (J : It) (G : Hp → Prop), Walk J xs.length G (YAt xs) → (∀ H', (SqL K H a xs → SqL K H' a xs) → (SqT K H a xs → SqT K H' a xs) → G H') → R J H) : SeqCase K a H R := by
  rcases h with h | h
  · exact .inl ⟨⟨_, h⟩, k _ _ walk_list fun H' s _ => s h⟩
  · exact .inr ⟨⟨_, h⟩, k _ _ walk_tup fun H' _ s => s h⟩
theorem sql_dk {H : Hp} {p a : Addr} {kvs : List (Key × V)} {o : HO} {xs : List V} (hp : H p = some (.dK kvs)) (h : SqL K H a xs) : SqL K (upd H p o) a xs := by
  rcases h with (h | ⟨u, h⟩) | h
  · exact .inl (.inl (by rw [upd_ne fun z => by rw [z, hp] at h; cases h]; exact h))
  · exact .inl (.inr ⟨u, by rw [upd_ne fun z => by rw [z, hp] at h; cases h]; exact h⟩)
  · exact .inr h
theorem sqt_dk {H : Hp} {p a : Addr} {kvs : List (Key × V)} {o : HO} {xs : List V} (hp : H p = some (.dK kvs)) (h : SqT K H a xs) : SqT K (upd H p o) a xs := by
  rcases h with (h | ⟨u, h⟩) | h
  · exact .inl (.inl (by rw [upd_ne fun z => by rw [z, hp] at h; cases h]; exact h))
  · exact .inl (.inr ⟨u, by rw [upd_ne fun z => by rw [z, hp] at h; cases h]; exact h⟩)
  · exact .inr h
/-! ### _added -/
def TmAt (K : PySem.W.Frag) (H : Hp) (v : V) (ps : List Tr5) : Prop := Dp K H v (.list (ps.map tmD)) ∨ Dp K H v (.tuple (ps.map tmD))
theorem TmAt.same {H H' : Hp} {v : V} {ps : List Tr5} (s : Same H H') (h : TmAt K H v ps) : TmAt K H' v ps := h.imp (dp_same s) (dp_same s)
theorem TmAt.ins {H : Hp} {p C dx : Addr} {fs : List (Str × V)} {o : HO} {v : V} {ps : List Tr5} (hp : H p = some (.ins C dx fs)) (h : TmAt K H v ps) : TmAt K (upd H p o) v ps := h.imp (dp_ins hp) (dp_ins hp)
@[irreducible] def spAdded (K : PySem.W.Frag) : Sp := fun vs H Q _ => ∃ (v : V) (ps : List Tr5), vs = [v] ∧ TmAt K H v ps ∧ In5 ps ∧ ps.length ≤ 60 ∧ ∀ t zs H', Same H H' → H t = none → PlT H' t zs → DpAll K H' zs ((tms ps).map tmD) → Q (.ref t) H'
theorem ok_added {f : Addr} {fd : FuncData} (F : Fun K "_added" "_added" s__added f fd) (m_tuple : mg "tuple" = none) (m_sorted : mg "sorted" = none) : FnOk P w K mg base CX0 1 f fd ["terms"] (spAdded K) := by
  refine F.ok sc__added (fun vs H Q E h => ?_) (fun cdv A outer s H vs Q E hr h => ?_)
  · unfold spAdded at h
    obtain ⟨v, ps, rfl, _⟩ := h
    rfl
  · unfold spAdded at h
    obtain ⟨v, ps, rfl, hv, h5, hl, q⟩ := h
    obtain ⟨a, xs, rfl, hd, hs⟩ := dp_seq hv
    have hxl : xs.length = ps.length := by rw [da_len hd, List.length_map]
    have hu := hu_of hr
    refine ⟨_, (pss_cons (ps_set (i := 1) sc__added.nd rfl (Or.inr rfl) pe_dnewK)
    (pss_cons (ps_for PassesOwn.never rfl (pi_seq (pv 0)) (pg_tup rfl (pgs_cons (pg_name (i := 2) sc__added.nd rfl (Or.inl rfl)) (pgs_cons (pg_name (i := 3) sc__added.nd rfl (Or.inl rfl)) pgs_nil)))
      (pss_one (ps_dput hu (pv 1) (pv 2) (pe_op op_add (pe_dget2 hu (pv 1) (pv 2) pe_int ⟨rfl, rfl, rfl, rfl⟩) (pv 3)) rfl)))
    (pss_one (ps_ret (pe_callTy (T := "tuple") call_tupleF (by rfl) m_tuple (by decide +kernel) (pa_cons (pe_lc (own := [("name", 2)]) rfl sc__added.nd (pi_list (pe_callB (id := "sorted") (call_sortedD rfl) (by rfl) m_sorted (by decide +kernel) (pa_cons (pv 1) pa_nil))) (blkOk_by (N := n__added) (sc := defScope s__added) (by decide +kernel)) (fun _ _ _ _ _ => pg_name (i := 2) sc__added.nd rfl (Or.inl rfl)) (fun _ _ _ _ _ => pts_one (pt_cmpR op_ne (pe_dget hu (pv 1) (pv 2) (fun _ _ => rfl)) pe_int (nomark _))) (fun _ _ _ _ _ => (pe_tup (pa_cons (pv 2) (pa_cons (pe_dget hu (pv 1) (pv 2) (fun _ _ => rfl)) pa_nil))))) pa_nil)))))), ?_⟩
    walk_at "rd"
    intro f0 nf
    have s0 := same_new nf (o := .dK [])
    walk_at "rd"
    refine seq_case2 (hs.imp (Same.seq s0) (Bx.Same.tup s0)) fun J G wk hG => ?_
    refine for_it wk (fun i σ H' => ∃ o2 o3 kvs, σ = [some (.ref a), some (.ref f0), o2, o3] ∧ H' = upd H f0 (.dK kvs) ∧ DInv (ps.take i) kvs) ⟨none, none, [], rfl, rfl, dinv_nil⟩ (fun i σ H' _ ⟨_, _, kvs, _, e, _⟩ => ?_) ?_ ?_
    · subst e
      refine hG _ (fun z => ?_) (fun z => ?_)
      · have := sql_dk (o := .dK kvs) upd_same z
        rwa [upd_upd] at this
      · have := sqt_dk (o := .dK kvs) upd_same z
        rwa [upd_upd] at this
    · rintro i x σ H1 H2 hi ⟨o2, o3, kvs, rfl, rfl, hk⟩ ⟨rfl, hx⟩
      obtain ⟨y, hy, pa, rfl, hpa⟩ := tm_at hd hx
      have hpa2 : SqT K (upd H f0 (.dK kvs)) pa [.str y.1, .int y.2] := Bx.Same.tup (same_new nf) hpa
      refine ⟨_, _, rfl, hpa2, rfl, _, _, rfl, _, _, rfl, rfl, ?_⟩
      walk_at "rd"
      refine ⟨.inl ⟨_, .inl upd_same⟩, ?_⟩
      walk_at "rd"
      refine ⟨_, DGet.k (k := Sum.inr y.1) upd_same, ?_⟩
      rw [dinv_get hk]
      walk_at "rd"
      have hkl : kvs.length < 100000 := by
        have := hk.l
        rw [List.length_take] at this
        omega
      refine ⟨_, _, rfl, DPut.k (k := Sum.inr y.1) upd_same (szl hkl), ?_⟩
      exact ⟨_, _, _, rfl, upd_upd, by rw [List.take_add_one, hy]; exact dinv_put hk y⟩
    · rintro σ H1 ⟨o2, o3, kvs, rfl, rfl, hk⟩
      rw [hxl, List.take_length] at hk
      obtain ⟨ks, hks, hkn, hkm⟩ := hk.k
      have hksl : ks.length = kvs.length := by
        have := congrArg List.length hks
        rw [List.length_map, List.length_map] at this
        exact this.symm
      have hkl := hk.l
      walk_at "rd"
      refine ⟨f0, kvs, ks, rfl, .inl upd_same, hks, by omega, fun ys p1 pm1 st1 np1 => ?_⟩
      have asc1 : Asc ys := asc_perm pm1 st1 hkn
      have hym : ∀ n, n ∈ ys ↔ n ∈ ps.map (·.1) := fun n => pm1.mem_iff.trans (hkm n)
      have hyl : ys.length ≤ 60 := by
        have := pm1.length_eq
        omega
      walk_at "rd"
      refine ⟨⟨_, sq upd_same⟩, fun M1 nM1 => ?_⟩
      have s1 := same_new np1 (o := .lst (ys.map V.str))
      have hf1 : (upd (upd H f0 (.dK kvs)) p1 (.lst (ys.map V.str))) f0 = some (.dK kvs) := s1 _ _ upd_same
      have s01 : Same H (upd (upd H f0 (.dK kvs)) p1 (.lst (ys.map V.str))) := Same.trans (same_new nf) s1
      have hp1 : (upd (upd H f0 (.dK kvs)) p1 (.lst (ys.map V.str))) p1 = some (.lst (ys.map V.str)) := upd_same
      generalize upd (upd H f0 (.dK kvs)) p1 (.lst (ys.map V.str)) = H1 at *
      refine lc_it walk_list (fun i H' => ∃ us, H' M1 = some (.lst us) ∧ DpAll K (mn H' [M1]) us ((((ys.take i).map fun n => ((n, coef ps n) : Tr5)).filter fun x : Tr5 => decide (x.2 ≠ 0)).map tmD) ∧ us.length ≤ i ∧ Same H1 H') ⟨[], upd_same, .nil, Nat.le_refl _, same_new nM1⟩ (fun i H' _ ⟨_, _, _, _, s⟩ => sq (s _ _ hp1)) ?_ ?_
      · rintro i x H2' H2 hi ⟨us, hM, dM, hul, s2⟩ ⟨rfl, hx⟩
        obtain ⟨n, hn, rfl⟩ := at_map hx
        have hn5 : n ∈ ps.map (·.1) := (hym n).mp (List.mem_of_getElem? hn)
        have hvn : valV kvs (Sum.inr n) = some (.int (coef ps n)) := by rw [hk.v, if_pos hn5]
        have hil := (List.getElem?_eq_some_iff.mp hn).1
        refine ⟨rfl, ?_⟩
        walk_at "rd"
        refine ⟨f0, _, rfl, hvn ▸ DGet.k (k := Sum.inr n) (s2 _ _ hf1), ?_⟩
        walk_at "rd"
        have tk : (ys.take (i + 1)).map (fun n => (n, coef ps n)) = (ys.take i).map (fun n => (n, coef ps n)) ++ [(n, coef ps n)] := by
          rw [List.take_add_one, hn, List.map_append]
          rfl
        refine ite2 (fun h0 => ?_) (fun h0 => ?_)
        · have hc := int_nt h0
          walk_at "rd"
          refine ⟨f0, _, rfl, hvn ▸ DGet.k (k := Sum.inr n) (s2 _ _ hf1), ?_⟩
          walk_at "rd"
          refine ⟨sz (by show 2 ≤ 100000; decide), fun t nt => ?_⟩
          have st := same_new nt (o := .tup [V.str n, V.int (coef ps n)])
          refine ⟨_, st _ _ hM, szl (by omega), us ++ [.ref t], upd_same, ?_, by rw [List.length_append]; exact Nat.succ_le_succ hul, same_at nM1 (Same.trans s2 st)⟩
          rw [mn_upd (S := [M1]) List.mem_cons_self, tk, List.filter_append, List.map_append]
          have ef : List.filter (fun x : Tr5 => decide (x.2 ≠ 0)) [(n, coef ps n)] = [(n, coef ps n)] := List.filter_eq_self.mpr fun y hy => by
            rw [List.mem_singleton.mp hy]
            exact decide_eq_true hc
          rw [ef]
          refine da_app (dpAll_same (mn_all st) dM) (da_one (tm_dp (x := (n, coef ps n)) (sqt (mn_at ?_ upd_same))))
          exact fun z => ne_of_none hM nt (List.mem_singleton.mp z).symm
        · have hc := int_nf h0
          refine ⟨us, hM, ?_, by omega, s2⟩
          have ef : List.filter (fun x : Tr5 => decide (x.2 ≠ 0)) [(n, coef ps n)] = [] := List.filter_eq_nil_iff.mpr fun y hy => by
            rw [List.mem_singleton.mp hy]
            exact fun z => of_decide_eq_true z hc
          rw [tk, List.filter_append, ef, List.append_nil]
          exact dM
      · rintro H3 ⟨us, hM3, dM3, hul, s3⟩
        rw [List.length_map, List.take_length, tms_of asc1 hym h5] at dM3
        walk_at "rd"
        refine ⟨_, _, rfl, sq hM3, fun l o nl ho => ?_⟩
        have s4 := same_new nl (o := .frz o (.tup us))
        exact q l us _ (Same.trans (Same.trans s01 s3) s4) ((Same.trans s01 s3).free nl) ⟨o, upd_same, ho⟩ (dpAll_same s4 (dpAll_same mn_same dM3))
end
end K31
namespace K31
local macro_rules | `(tactic| walk_at "rd") => `(tactic| repeat (first | refine ⟨rfl, ?_⟩ | refine ⟨_, rfl, ?_⟩ | refine ⟨_, _, rfl, rfl, ?_⟩ | refine ⟨⟨_, rfl⟩, ?_⟩))
open PySem PySem.Spec PyProof.Rows L2 Bx TL Dx Zx Ow Sup NdefX Px T31
section
variable {P : Program} {w : World} {K : PySem.W.Frag} {mg : Str → Option Value} {base : Heap}
/-! ### comprehensions over terms -/
theorem lc_vals {H : Hp} {T : Addr} {zs : List V} {l : List Tr5} (hz : SqT K H T zs) (hd : DpAll K H zs (l.map tmD)) (hl : l.length ≤ 60) {te : TE} {σ : L2.St} {vs : List Nat} {M : Addr} {Qd : Hp → Prop} {i j : Nat} (f : Tr5 → V) (nM : H M = none)
    (hw : ∀ x y : V, wipe (((wipe σ vs).set i (some x)).set j (some y)) vs = wipe σ vs)
    (hte : ∀ (x : Tr5) (H' : Hp) (Z : VK), x ∈ l → Same H H' → Z (f x) H' → te (((wipe σ vs).set i (some (.str x.1))).set j (some (.int x.2))) H' Z)
    (done : ∀ H', Same H H' → H' M = some (.lst (l.map f)) → Qd H') :
    ∃ W : Nat → Nat → Hp → Prop, (∃ m, W 0 m (upd H M (.lst []))) ∧ ∀ n m H, W n m H →
      ((Itt K T).stop n H ∧ Qd H) ∨ ((Itt K T).go n H ∧ ∃ Nx : Hp → Prop, (∀ H', Nx H' → ∃ m', m' < m ∧ W (n + 1) m' H') ∧ ∀ x H', (Itt K T).yld n H x H' → gTup K 2 (gCons (gName i) (gCons (gName j) gNil)) x (wipe σ vs) H' fun σ2 H2 => wipe σ2 vs = wipe σ vs ∧ tYes σ2 H2 fun b H3 =>
        if b = true then te σ2 H3 fun y H4 => ∃ acc, H4 M = some (.lst acc) ∧ acc.length < sizeLine ∧ Nx (upd H4 M (.lst (acc ++ [y]))) else Nx H3) := by
  have hzl : zs.length = l.length := by rw [da_len hd, List.length_map]
  refine lc_it walk_tup (fun n H' => H' = upd H M (.lst ((l.take n).map f))) rfl (fun n H' _ e => e ▸ Bx.Same.tup (same_new nM) hz) ?_ ?_
  · rintro n x H1 H2 hi rfl ⟨rfl, hx⟩
    obtain ⟨y, hy, pa, rfl, hpa⟩ := tm_at hd hx
    refine ⟨_, _, rfl, Bx.Same.tup (same_new nM) hpa, rfl, _, _, rfl, _, _, rfl, rfl, hw _ _, ?_⟩
    unfold tYes
    dsimp only
    rw [if_pos rfl]
    refine hte y _ _ (List.mem_of_getElem? hy) (same_new nM) ⟨_, upd_same, ?_, ?_⟩
    · rw [List.length_map, List.length_take]
      exact szl (by omega)
    · rw [upd_upd, List.take_add_one, hy, List.map_append]
      rfl
  · rintro H3 rfl
    rw [hzl, List.take_length]
    exact done _ (same_new nM) upd_same
theorem lc_terms {H : Hp} {T : Addr} {zs : List V} {l : List Tr5} (hz : SqT K H T zs) (hd : DpAll K H zs (l.map tmD)) (hl : l.length ≤ 60) {te : TE} {σ : L2.St} {vs : List Nat} {M : Addr} {Qd : Hp → Prop} {i j : Nat} (h : Tr5 → Tr5) (nM : H M = none)
    (hw : ∀ x y : V, wipe (((wipe σ vs).set i (some x)).set j (some y)) vs = wipe σ vs)
    (hte : ∀ (x : Tr5) (H' : Hp) (Z : VK), x ∈ l → Same H H' → (∀ t, H' t = none → Z (.ref t) (upd H' t (.tup [.str (h x).1, .int (h x).2]))) → te (((wipe σ vs).set i (some (.str x.1))).set j (some (.int x.2))) H' Z)
    (done : ∀ us H', Same H H' → H' M = some (.lst us) → DpAll K H' us ((l.map h).map tmD) → Qd H') :
    ∃ W : Nat → Nat → Hp → Prop, (∃ m, W 0 m (upd H M (.lst []))) ∧ ∀ n m H, W n m H →
      ((Itt K T).stop n H ∧ Qd H) ∨ ((Itt K T).go n H ∧ ∃ Nx : Hp → Prop, (∀ H', Nx H' → ∃ m', m' < m ∧ W (n + 1) m' H') ∧ ∀ x H', (Itt K T).yld n H x H' → gTup K 2 (gCons (gName i) (gCons (gName j) gNil)) x (wipe σ vs) H' fun σ2 H2 => wipe σ2 vs = wipe σ vs ∧ tYes σ2 H2 fun b H3 =>
        if b = true then te σ2 H3 fun y H4 => ∃ acc, H4 M = some (.lst acc) ∧ acc.length < sizeLine ∧ Nx (upd H4 M (.lst (acc ++ [y]))) else Nx H3) := by
  have hzl : zs.length = l.length := by rw [da_len hd, List.length_map]
  refine lc_it walk_tup (fun n H' => ∃ us, H' M = some (.lst us) ∧ DpAll K (mn H' [M]) us (((l.take n).map h).map tmD) ∧ Same H H') ⟨[], upd_same, .nil, same_new nM⟩ (fun n H' _ ⟨_, _, _, s⟩ => Bx.Same.tup s hz) ?_ ?_
  · rintro n x H1 H2 hi ⟨us, hM, dM, s2⟩ ⟨rfl, hx⟩
    obtain ⟨y, hy, pa, rfl, hpa⟩ := tm_at hd hx
    have hnl := (List.getElem?_eq_some_iff.mp hy).1
    have hul : us.length < 100000 := by
      rw [da_len dM, List.length_map, List.length_map, List.length_take]
      omega
    refine ⟨_, _, rfl, Bx.Same.tup s2 hpa, rfl, _, _, rfl, _, _, rfl, rfl, hw _ _, ?_⟩
    unfold tYes
    dsimp only
    rw [if_pos rfl]
    refine hte y _ _ (List.mem_of_getElem? hy) s2 fun t nt => ?_
    have st := same_new nt (o := .tup [V.str (h y).1, V.int (h y).2])
    refine ⟨_, st _ _ hM, szl hul, us ++ [.ref t], upd_same, ?_, same_at nM (Same.trans s2 st)⟩
    rw [mn_upd (S := [M]) List.mem_cons_self, List.take_add_one, hy, List.map_append, List.map_append]
    refine da_app (dpAll_same (mn_all st) dM) (da_one (tm_dp (x := h y) (sqt (mn_at ?_ upd_same))))
    exact fun z => ne_of_none hM nt (List.mem_singleton.mp z).symm
  · rintro H3 ⟨us, hM, dM, s3⟩
    rw [hzl, List.take_length] at dM
    exact done us H3 s3 hM (dpAll_same mn_same dM)
/-! ### the class -/
abbrev fS (t : Addr) : List (Str × V) := [("terms", .ref t)]
theorem fS_at (t : Addr) : (fS t).lookup ("terms" : Str) = some (.ref t) := by
  have e : (("terms" : Str) == ("terms" : Str)) = true := beq_self_eq_true _
  simp only [fS, List.lookup, e]
def SumAt (K : PySem.W.Frag) (C : Addr) (H : Hp) (p : Addr) (ps : List Tr5) : Prop := ∃ dx t zs, H p = some (.ins C dx (fS t)) ∧ PlT H t zs ∧ DpAll K H zs ((tms ps).map tmD)
theorem SumAt.same {C : Addr} {H H' : Hp} {p : Addr} {ps : List Tr5} (s : Same H H') (h : SumAt K C H p ps) : SumAt K C H' p ps := by
  obtain ⟨dx, t, zs, h1, h2, h3⟩ := h
  exact ⟨dx, t, zs, s _ _ h1, h2.same s, dpAll_same s h3⟩
theorem SumAt.congr {C : Addr} {H : Hp} {p : Addr} {ps qs : List Tr5} (h : SumAt K C H p ps) (e : tms ps = tms qs) : SumAt K C H p qs := by
  obtain ⟨dx, t, zs, h1, h2, h3⟩ := h
  exact ⟨dx, t, zs, h1, h2, e ▸ h3⟩
structure CF (K : PySem.W.Frag) (C : Addr) : Prop where
  cl : Cls K C
  nT : NoAttr K C "terms"
@[irreducible] def spInit (K : PySem.W.Frag) (C : Addr) : Sp := fun vs H Q _ => ∃ (p dx : Addr) (v : V) (ps : List Tr5), vs = [.ref p, v] ∧ H p = some (.ins C dx []) ∧ TmAt K H v ps ∧ In5 ps ∧ ps.length ≤ 60 ∧ ∀ H', SumAt K C H' p ps → SameBut p H H' → Q .non H'
theorem put_nil {f : Str} {v : V} : putF f v [] = [(f, v)] := rfl
theorem ok_init {C : Addr} {dvs : List V} (cf : CF K C) {f : Addr} {fd : FuncData} (F : FunD K "__init__" "Sum.__init__" (defArgs s_Sum___init__) (defBody s_Sum___init__) (defScope s_Sum___init__) dvs [] f fd) (C__added : Cal P w K mg base "_added" 1 ["terms"] (spAdded K)) : FnOk P w K mg base CX0 2 f fd ["self", "terms"] (spInit K C) := by
  refine F.ok sc_Sum___init__ (fun vs H Q E h => ?_) (fun cdv A outer s H vs Q E hr h => ?_)
  · unfold spInit at h
    obtain ⟨p, dx, v, ps, rfl, _⟩ := h
    rfl
  · unfold spInit at h
    obtain ⟨p, dx, v, ps, rfl, hp, hv, h5, hl, q⟩ := h
    refine ⟨_, PSs.nox ((pss_one (ps_fld (pv 0) (pe_cal C__added (hr.mono (by decide)) (pa_cons (pv 1) pa_nil)) rfl))), ?_⟩
    walk_at "rd"
    unfold spAdded
    refine ⟨v, ps, rfl, hv, h5, hl, fun t zs H1 s1 nt ht hz => ?_⟩
    walk_at "rd"
    have hp1 := s1 _ _ hp
    refine ⟨p, C, dx, _, rfl, hp1, cf.cl, cf.nT, by decide, ?_⟩
    walk_at "rd"
    refine q _ ⟨dx, t, zs, upd_same, plt_ins hp1 ht, da_ins hp1 hz⟩ fun b o hb e => ?_
    rw [upd_ne hb]
    exact s1 _ _ e
/-- a new one -/
theorem mk_of {C : Addr} {H : Hp} {v : V} {ps : List Tr5} {Q : VK} (hv : TmAt K H v ps) (h5 : In5 ps) (hl : ps.length ≤ 60) (q : ∀ x H', Same H H' → H x = none → SumAt K C H' x ps → Q (.ref x) H') :
    ∀ x dx, H x = none → H dx = none → dx ≠ x → spInit K C (.ref x :: ([v] ++ [])) (upd (upd H dx (.own x)) x (.ins C dx [])) (fun r H2 => r = .non ∧ Q (.ref x) H2) E0 := by
  intro x dx nx nd ne
  have s1 : Same H (upd (upd H dx (.own x)) x (.ins C dx [])) := fun b o e => by
    rw [upd_ne (ne_of_none e nx), upd_ne (ne_of_none e nd)]
    exact e
  unfold spInit
  refine ⟨x, dx, v, ps, rfl, upd_same, hv.same s1, h5, hl, fun H' hs sb => ⟨rfl, q x H' (fun b o e => sb b o (ne_of_none e nx) (s1 b o e)) nx hs⟩⟩
abbrev MkS (P : Program) (w : World) (K : PySem.W.Frag) (mg : Str → Option Value) (base : Heap) (C : Addr) : Prop := MakC P w K mg base "Sum" C 2 ["self", "terms"] (spInit K C) []
/-! ### the methods -/
/-- dict(terms) -/
theorem mergeK_snoc (kvs : List (Key × V)) (x : Key × V) : mergeK [] (kvs ++ [x]) = putK (mergeK [] kvs) x.1 x.2 := by
  unfold mergeK
  rw [List.foldl_append]
  rfl
def kvT (l : List Tr5) : List (Key × V) := l.map fun x => (Sum.inr x.1, V.int x.2)
theorem dinv_merge : ∀ (n : Nat) (l : List Tr5), l.length = n → (l.map (·.1)).Nodup → DInv l (mergeK [] (kvT l))
  | 0, l, e, _ => by
    match l, e with
    | [], _ => exact dinv_nil
  | n + 1, l, e, nd => by
    obtain ⟨m, x, rfl⟩ : ∃ m x, l = m ++ [x] := ⟨l.dropLast, l.getLast (by intro z; rw [z] at e; cases e), (List.dropLast_concat_getLast _).symm⟩
    rw [List.length_append] at e
    rw [List.map_append] at nd
    obtain ⟨n1, _, n3⟩ := List.nodup_append.mp nd
    have h := dinv_merge n m (by simpa using e) n1
    have hx : x.1 ∉ m.map (·.1) := fun z => n3 _ z _ (List.mem_singleton.mpr rfl) rfl
    have h2 := dinv_put h x
    rw [coef_none hx, Int.zero_add] at h2
    have e2 : kvT (m ++ [x]) = kvT m ++ [(Sum.inr x.1, V.int x.2)] := by
      unfold kvT
      rw [List.map_append]
      rfl
    rw [e2, mergeK_snoc]
    exact h2
theorem pair_of {H : Hp} : ∀ {zs : List V} {l : List Tr5}, DpAll K H zs (l.map tmD) → ∃ as : List Addr, zs = as.map V.ref ∧ Paired (fun p kv => SqT K H p [kV kv.1, kv.2]) as (kvT l)
  | zs, [], h => by
    cases h
    exact ⟨[], rfl, .nil⟩
  | zs, x :: l, h => by
    cases h with
    | cons h t =>
      obtain ⟨a, rfl, ha⟩ := tm_inv h
      obtain ⟨as, rfl, hp⟩ := pair_of t
      exact ⟨a :: as, rfl, .cons ha hp⟩
@[irreducible] def spGet (K : PySem.W.Frag) (C : Addr) : Sp := fun vs H Q _ => ∃ (p : Addr) (ps : List Tr5) (n : Str), vs = [.ref p, .str n] ∧ SumAt K C H p ps ∧ In5 ps ∧ ∀ H', Same H H' → Q (.int (coef ps n)) H'
theorem ok_get {C : Addr} (cf : CF K C) {f : Addr} {fd : FuncData} (F : Fun K "__getitem__" "Sum.__getitem__" s_Sum___getitem__ f fd) (m_dict : mg "dict" = none) : FnOk P w K mg base CX0 1 f fd ["self", "at"] (spGet K C) := by
  refine F.ok sc_Sum___getitem__ (fun vs H Q E h => ?_) (fun cdv A outer s H vs Q E hr h => ?_)
  · unfold spGet at h
    obtain ⟨p, ps, n, rfl, _⟩ := h
    rfl
  · unfold spGet at h
    obtain ⟨p, ps, n, rfl, ⟨dx, t, zs, hp, ht, hz⟩, h5, q⟩ := h
    have hu := hu_of hr
    refine ⟨_, (pss_one (ps_ret (pe_dget2 hu (pe_callTy (T := "dict") (call_dictT rfl) (by rfl) m_dict (by decide +kernel) (pa_cons (pe_fld (pv 0) rfl) pa_nil)) (pv 1) pe_int ⟨rfl, rfl, rfl, rfl⟩))), ?_⟩
    walk_at "rd"
    refine ⟨p, C, dx, _, _, rfl, hp, cf.cl, cf.nT, fS_at t, ?_⟩
    obtain ⟨as, rfl, hpr⟩ := pair_of hz
    walk_at "rd"
    refine ⟨t, as, kvT (tms ps), rfl, ht, hpr, fun d nd => ?_⟩
    walk_at "rd"
    refine ⟨.inl ⟨_, .inl upd_same⟩, ?_⟩
    walk_at "rd"
    refine ⟨_, DGet.k (k := Sum.inr n) upd_same, ?_⟩
    rw [dinv_get (dinv_merge _ _ rfl (asc_nodup (tms_asc ps))), coef_tms h5]
    exact q _ (same_new nd)
theorem tms60 (ps : List Tr5) : (tms ps).length ≤ 60 := Nat.le_trans (tms_len ps) (by decide)
def Big (ps : List Tr5) : Prop := ∀ x ∈ tms ps, x.2.natAbs < 2 ^ 100
@[irreducible] def spAt (K : PySem.W.Frag) (C : Addr) : Sp := fun vs H Q _ => ∃ (p d : Addr) (ps : List Tr5) (kvs : List (Key × V)) (g : Str → Int), vs = [.ref p, .ref d] ∧ SumAt K C H p ps ∧ Big ps ∧ H d = some (.dK kvs) ∧ (∀ x ∈ tms ps, valV kvs (Sum.inr x.1) = some (.int (g x.1)) ∧ (g x.1).natAbs < 2 ^ 100) ∧ ∀ H', Same H H' → Q (.int (lin g (tms ps))) H'
theorem ok_at {C : Addr} (cf : CF K C) {f : Addr} {fd : FuncData} (F : Fun K "at" "Sum.at" s_Sum_at f fd) (m_sum : mg "sum" = none) : FnOk P w K mg base CX0 1 f fd ["self", "assignment"] (spAt K C) := by
  refine F.ok sc_Sum_at (fun vs H Q E h => ?_) (fun cdv A outer s H vs Q E hr h => ?_)
  · unfold spAt at h
    obtain ⟨p, d, ps, kvs, g, rfl, _⟩ := h
    rfl
  · unfold spAt at h
    obtain ⟨p, d, ps, kvs, g, rfl, ⟨dx, t, zs, hp, ht, hz⟩, hb, hd, hg, q⟩ := h
    have hu := hu_of hr
    refine ⟨_, (pss_one (ps_ret (pe_callB (id := "sum") (cr_sum rfl) (by rfl) m_sum (by decide +kernel) (pa_cons (pe_lc (own := [("name", 2), ("number", 3)]) (tt := tYes) rfl sc_Sum_at.nd (pi_tup (pe_fld (pv 0) rfl)) (blkOk_by (N := n_Sum_at) (sc := defScope s_Sum_at) (by decide +kernel)) (fun _ _ _ _ _ => pg_tupK (K := K) (n := 2) rfl rfl (pgs_cons (pg_name (i := 2) sc_Sum_at.nd rfl (Or.inl rfl)) (pgs_cons (pg_name (i := 3) sc_Sum_at.nd rfl (Or.inl rfl)) pgs_nil))) (fun _ _ _ _ _ => pts_nil) (fun _ _ _ _ _ => (pe_op op_mulW (pv 3) (pe_dget hu (pv 1) (pv 2) (fun _ _ => rfl))))) pa_nil)))), ?_⟩
    walk_at "rd"
    refine ⟨p, C, dx, _, _, rfl, hp, cf.cl, cf.nT, fS_at t, ?_⟩
    walk_at "rd"
    refine ⟨⟨_, ht.sq⟩, fun M nM => ?_⟩
    refine lc_vals ht.sq hz (tms60 ps) (fun x => .int (g x.1 * x.2)) nM (fun _ _ => rfl) (fun x H' Z hx s' z => ?_) (fun H1 s1 hM => ?_)
    · obtain ⟨e1, e2⟩ := hg x hx
      walk_at "rd"
      refine ⟨d, _, rfl, e1 ▸ DGet.k (k := Sum.inr x.1) (s' _ _ hd), ?_⟩
      walk_at "rd"
      refine ⟨wide_mul (hb x hx) e2 (by decide) (by decide) (by decide), ?_⟩
      show Z (.int (x.2 * g x.1)) H'
      rw [Int.mul_comm]
      exact z
    · walk_at "rd"
      refine ⟨M, (tms ps).map (fun x : Tr5 => g x.1 * x.2), rfl, ?_, q H1 s1⟩
      rw [List.map_map]
      exact sq hM
@[irreducible] def spRen (K : PySem.W.Frag) (C : Addr) : Sp := fun vs H Q _ => ∃ (p d : Addr) (ps : List Tr5) (kvs : List (Key × V)) (r : Str → Str), vs = [.ref p, .ref d] ∧ SumAt K C H p ps ∧ In5 ps ∧ H d = some (.dK kvs) ∧ (∀ x ∈ tms ps, (valV kvs (Sum.inr x.1)).getD (.str x.1) = .str (r x.1) ∧ r x.1 ∈ N5) ∧ ∀ x H', Same H H' → H x = none → SumAt K C H' x (ps.map fun x => (r x.1, x.2)) → Q (.ref x) H'
theorem ok_renamed {C : Addr} (cf : CF K C) {f : Addr} {fd : FuncData} (F : Fun K "renamed" "Sum.renamed" s_Sum_renamed f fd) (K_Sum : MkS P w K mg base C) : FnOk P w K mg base CX0 4 f fd ["self", "table"] (spRen K C) := by
  refine F.ok sc_Sum_renamed (fun vs H Q E h => ?_) (fun cdv A outer s H vs Q E hr h => ?_)
  · unfold spRen at h
    obtain ⟨p, d, ps, kvs, r, rfl, _⟩ := h
    rfl
  · unfold spRen at h
    obtain ⟨p, d, ps, kvs, r, rfl, ⟨dx, t, zs, hp, ht, hz⟩, h5, hd, hg, q⟩ := h
    have hu := hu_of hr
    refine ⟨_, (pss_one (ps_ret (pe_mak K_Sum (hr.mono (by decide)) (pa_cons (pe_lc (own := [("name", 2), ("number", 3)]) (tt := tYes) rfl sc_Sum_renamed.nd (pi_tup (pe_fld (pv 0) rfl)) (blkOk_by (N := n_Sum_renamed) (sc := defScope s_Sum_renamed) (by decide +kernel)) (fun _ _ _ _ _ => pg_tupK (K := K) (n := 2) rfl rfl (pgs_cons (pg_name (i := 2) sc_Sum_renamed.nd rfl (Or.inl rfl)) (pgs_cons (pg_name (i := 3) sc_Sum_renamed.nd rfl (Or.inl rfl)) pgs_nil))) (fun _ _ _ _ _ => pts_nil) (fun _ _ _ _ _ => (pe_tup (pa_cons (pe_dget2 hu (pv 1) (pv 2) (pv 2) ⟨rfl, rfl, rfl, rfl⟩) (pa_cons (pv 3) pa_nil))))) pa_nil)))), ?_⟩
    walk_at "rd"
    refine ⟨p, C, dx, _, _, rfl, hp, cf.cl, cf.nT, fS_at t, ?_⟩
    walk_at "rd"
    refine ⟨⟨_, ht.sq⟩, fun M nM => ?_⟩
    refine lc_terms ht.sq hz (tms60 ps) (fun x => (r x.1, x.2)) nM (fun _ _ => rfl) (fun x H' Z hx s' z => ?_) (fun us H1 s1 hM dM => ?_)
    · obtain ⟨e1, e2⟩ := hg x hx
      walk_at "rd"
      refine ⟨.inl ⟨_, .inl (s' _ _ hd)⟩, ?_⟩
      walk_at "rd"
      refine ⟨_, DGet.k (k := Sum.inr x.1) (s' _ _ hd), ?_⟩
      rw [e1]
      walk_at "rd"
      exact ⟨sz (by show 2 ≤ 100000; decide), fun t nt => z t nt⟩
    · have h5r : In5 ((tms ps).map fun x => (r x.1, x.2)) := fun y hy => by
        obtain ⟨x, hx, rfl⟩ := List.mem_map.mp hy
        exact (hg x hx).2
      refine mk_of (ps := (tms ps).map fun x => (r x.1, x.2)) (.inl (.lst (sq hM) dM)) h5r (by rw [List.length_map]; exact tms60 ps) fun x H' s3 nx hs => ?_
      exact q x H' (Same.trans s1 s3) (s1.free nx) (hs.congr (tms_ren r h5))
end
end K31
/-! progressions: the mathematics -/
namespace M31
theorem gcd_emod (s f : Int) : Int.gcd s (f % s) = Int.gcd s f := by
  rw [Int.emod_def, Int.sub_eq_add_neg, ← Int.mul_neg, Int.gcd_add_mul_left_right]
/-- what the loop of bezout keeps: (r, x), (r', x') -/
structure Bz (f s r x r' x' : Int) : Prop where
  nn : 0 ≤ r'
  e1 : ∃ y, r = x * f + y * s
  e2 : ∃ y, r' = x' * f + y * s
  dv : ∀ d : Int, (d ∣ r ∧ d ∣ r') ↔ (d ∣ f ∧ d ∣ s)
  b1 : r.natAbs < 2 ^ 62
  b2 : r'.natAbs < 2 ^ 62
theorem bz_start {f s : Int} (hs : 0 ≤ s) (h1 : f.natAbs < 2 ^ 62) (h2 : s.natAbs < 2 ^ 62) : Bz f s f 1 s 0 :=
  ⟨hs, ⟨0, by simp⟩, ⟨1, by simp⟩, fun _ => Iff.rfl, h1, h2⟩
theorem bz_turn {f s r x r' x' : Int} (h : Bz f s r x r' x') (hp : 0 < r') : Bz f s r' x' (r - r / r' * r') (x - r / r' * x') ∧ (r - r / r' * r').toNat < r'.toNat ∧ (r / r').natAbs < 2 ^ 62 := by
  have e : r - r / r' * r' = r % r' := by
    have := Int.emod_def r r'
    rw [Int.mul_comm] at this
    exact this.symm
  have h0 := Int.emod_nonneg r (show r' ≠ 0 by omega)
  have h1 := Int.emod_lt_of_pos r hp
  have hb2 := h.b2
  refine ⟨⟨by rw [e]; exact h0, h.e2, ?_, fun d => ?_, h.b2, by rw [e]; omega⟩, by rw [e]; omega, Nat.lt_of_le_of_lt (Int.natAbs_ediv_le_natAbs r r') h.b1⟩
  · obtain ⟨y, ey⟩ := h.e1
    obtain ⟨z, ez⟩ := h.e2
    refine ⟨y - r / r' * z, ?_⟩
    generalize r / r' = q
    rw [Int.sub_mul, Int.sub_mul, ey, ez, Int.mul_add, Int.mul_assoc, Int.mul_assoc]
    omega
  · rw [← h.dv d]
    constructor
    · rintro ⟨a, b⟩
      refine ⟨?_, a⟩
      have c := Int.dvd_add b (Int.dvd_mul_of_dvd_right (b := r / r') a)
      rw [show r - r / r' * r' + r / r' * r' = r by omega] at c
      exact c
    · rintro ⟨a, b⟩
      exact ⟨b, Int.dvd_sub a (Int.dvd_mul_of_dvd_right (b := r / r') b)⟩
theorem nat_eq {g n : Nat} (h : ∀ d : Nat, d ∣ g ↔ d ∣ n) : g = n := Nat.dvd_antisymm ((h g).mp (Nat.dvd_refl g)) ((h n).mpr (Nat.dvd_refl n))
theorem bz_end {f s r x x' : Int} (h : Bz f s r x 0 x') : (Int.gcd f s : Int) = if r < 0 then -r else r := by
  have e : r.natAbs = Int.gcd f s := nat_eq fun d => by
    rw [Int.dvd_gcd_iff, ← h.dv (d : Int)]
    constructor
    · intro z
      exact ⟨Int.ofNat_dvd_left.mpr z, Int.dvd_zero _⟩
    · rintro ⟨z, _⟩
      exact Int.ofNat_dvd_left.mp z
  rw [← e]
  split <;> omega
/-- what solve_one hands back -/
structure Solved (c m r a b : Int) : Prop where
  z : Int.gcd c m = 0 → a = 1 ∧ b = 0
  q : Int.gcd c m ≠ 0 → a = m / (Int.gcd c m : Int)
  p : a = 0 ∨ (0 ≤ b ∧ b < a)
  f : m ∣ c * b - r
theorem ediv_mul {g m : Int} (h : g ∣ m) : m / g * g = m := Int.ediv_mul_cancel h
theorem solved_mul {c m r g x b : Int} (gc : g ∣ c) (gm : g ∣ m) (gr : g ∣ r) (hb : ∃ y, g = x * c + y * m) (hk : ∃ k, b = r / g * x + k * (m / g)) : m ∣ c * b - r := by
  obtain ⟨y, ey⟩ := hb
  obtain ⟨k, rfl⟩ := hk
  obtain ⟨c', ec⟩ := gc
  have em := ediv_mul gm
  have er := ediv_mul gr
  generalize m / g = m' at em ⊢
  generalize r / g = r' at er ⊢
  refine ⟨c' * k - r' * y, ?_⟩
  have e1 : c * (k * m') = m * (c' * k) := by
    rw [← em, ec]
    simp only [Int.mul_assoc, Int.mul_comm, Int.mul_left_comm]
  have e2 : c * (r' * x) - r = m * (-(r' * y)) := by
    rw [← er]
    have : r' * g = r' * (x * c) + r' * (y * m) := by
      rw [← Int.mul_add, ← ey]
    rw [this, Int.mul_neg]
    have a1 : c * (r' * x) = r' * (x * c) := by simp only [Int.mul_assoc, Int.mul_comm, Int.mul_left_comm]
    have a2 : m * (r' * y) = r' * (y * m) := by simp only [Int.mul_assoc, Int.mul_comm, Int.mul_left_comm]
    rw [a1, a2]
    omega
  rw [Int.mul_add, Int.mul_sub, ← e1]
  have e3 : m * (-(r' * y)) = -(m * (r' * y)) := Int.mul_neg ..
  rw [e3] at e2
  omega
/-- progression(m, r) -/
def prg (m r : Int) : Int := if m = 0 then r else r % m
theorem prg_k (m r : Int) : ∃ k, prg m r = r + k * m := by
  unfold prg
  split
  · exact ⟨0, by simp⟩
  · refine ⟨-(r / m), ?_⟩
    rw [Int.emod_def, Int.neg_mul, Int.mul_comm]
    omega
theorem prg_p {m r : Int} (h : 0 ≤ m) : m = 0 ∨ (0 ≤ prg m r ∧ prg m r < m) := by
  unfold prg
  split
  · rename_i h
    exact .inl h
  · exact .inr ⟨Int.emod_nonneg _ (by omega), Int.emod_lt_of_pos _ (by omega)⟩
theorem prg_dv {m r x : Int} : m ∣ x - prg m r ↔ m ∣ x - r := by
  obtain ⟨k, e⟩ := prg_k m r
  rw [e]
  constructor
  · intro h
    have := Int.dvd_add h (Int.dvd_mul_left k m)
    rw [show x - (r + k * m) + k * m = x - r by omega] at this
    exact this
  · intro h
    have := Int.dvd_sub h (Int.dvd_mul_left k m)
    rw [show x - r - k * m = x - (r + k * m) by omega] at this
    exact this
theorem solved_of {c m r x g : Int} (hm : 0 ≤ m) (hg : (Int.gcd c m : Int) = g) (g0 : 0 < g) (hr : g ∣ r) (hb : ∃ y, g = x * c + y * m) : Solved c m r (m / g) (prg (m / g) (r / g * x)) := by
  have gc : g ∣ c := hg ▸ Int.gcd_dvd_left c m
  have gm : g ∣ m := hg ▸ Int.gcd_dvd_right c m
  refine ⟨fun z => ?_, fun _ => by rw [hg], prg_p (Int.ediv_nonneg hm (by omega)), ?_⟩
  · rw [z] at hg
    exact absurd hg (by show ¬ (0 : Int) = g; omega)
  · obtain ⟨k, e⟩ := prg_k (m / g) (r / g * x)
    exact solved_mul gc gm hr hb ⟨k, e⟩
theorem solved_zero {c m r : Int} (hg : (Int.gcd c m : Int) = 0) (hr : r = 0) : Solved c m r 1 0 := by
  have h0 : Int.gcd c m = 0 := by omega
  refine ⟨fun _ => ⟨rfl, rfl⟩, fun h => absurd h0 h, .inr ⟨by omega, by omega⟩, ?_⟩
  rw [hr]
  exact ⟨0, by simp⟩

/-! ### meeting -/
def lm : List (Int × Int) → Int
  | [] => 1
  | p :: ps => lm ps * (p.1 / (Int.gcd (lm ps) p.1 : Int))
/-- the least common multiple, from the left (the last one first) -/
def lmL (ps : List (Int × Int)) : Int := lm ps.reverse
def Meets (ps : List (Int × Int)) (M R : Int) : Prop := ∀ x : Int, (∀ p ∈ ps, p.1 ∣ x - p.2) ↔ M ∣ x - R
theorem bez (a b : Int) : ∃ x y, (Int.gcd a b : Int) = x * a + y * b := by
  have key : ∀ n (f s : Int), 0 ≤ s → s.toNat = n → ∃ x y, (Int.gcd f s : Int) = x * f + y * s := by
    intro n
    induction n using Nat.strongRecOn with
    | ind n ih =>
      intro f s hs e
      by_cases h : s = 0
      · subst h
        by_cases hf : f < 0
        · exact ⟨-1, 0, by simp; omega⟩
        · exact ⟨1, 0, by simp; omega⟩
      · have h1 := Int.emod_nonneg f h
        have h2 := Int.emod_lt_of_pos f (show 0 < s by omega)
        obtain ⟨x, y, exy⟩ := ih (f % s).toNat (by omega) s (f % s) h1 rfl
        refine ⟨y, x - y * (f / s), ?_⟩
        have e2 : Int.gcd f s = Int.gcd s (f % s) := by
          rw [gcd_emod, Int.gcd_comm]
        rw [e2, exy, Int.emod_def, Int.mul_sub, Int.sub_mul]
        have : y * (s * (f / s)) = y * (f / s) * s := by simp only [Int.mul_assoc, Int.mul_comm, Int.mul_left_comm]
        omega
  by_cases h : 0 ≤ b
  · exact key _ a b h rfl
  · obtain ⟨x, y, e⟩ := key _ a (-b) (by omega) rfl
    refine ⟨x, -y, ?_⟩
    rw [Int.gcd_neg] at e
    rw [e, Int.mul_neg, Int.neg_mul]
/-- M | z and m | z, at once -/
theorem lcm_iff {M m z : Int} : (M ∣ z ∧ m ∣ z) ↔ M * (m / (Int.gcd M m : Int)) ∣ z := by
  have gm := Int.gcd_dvd_right M m
  have gM := Int.gcd_dvd_left M m
  obtain ⟨p, q, e⟩ := bez M m
  generalize hg : (Int.gcd M m : Int) = g at *
  have em := ediv_mul gm
  have eM := ediv_mul gM
  generalize m / g = m' at em ⊢
  constructor
  · rintro ⟨⟨u, hu⟩, ⟨v, hv⟩⟩
    by_cases h0 : g = 0
    · have : Int.gcd M m = 0 := by omega
      obtain ⟨a, b⟩ := Int.gcd_eq_zero_iff.mp this
      rw [hu, a]
      exact ⟨0, by simp⟩
    · refine ⟨p * v + q * u, ?_⟩
      refine Int.eq_of_mul_eq_mul_left h0 ?_
      have : g * z = p * (M * z) + q * (m * z) := by
        rw [e, Int.add_mul, Int.mul_assoc, Int.mul_assoc]
      rw [this]
      have e1 : p * (M * z) = g * (M * m' * (p * v)) := by
        rw [hv, ← em]
        simp only [Int.mul_assoc, Int.mul_comm, Int.mul_left_comm]
      have e2 : q * (m * z) = g * (M * m' * (q * u)) := by
        rw [hu, ← em]
        simp only [Int.mul_assoc, Int.mul_comm, Int.mul_left_comm]
      rw [e1, e2, Int.mul_add, Int.mul_add]
  · rintro ⟨w, rfl⟩
    constructor
    · exact ⟨m' * w, by simp only [Int.mul_assoc]⟩
    · refine ⟨M / g * w, ?_⟩
      rw [← em]
      have : M * m' * w = M / g * g * m' * w := by rw [eM]
      rw [this]
      simp only [Int.mul_assoc, Int.mul_comm, Int.mul_left_comm]
theorem gcd_meet {L m' m k : Int} (h1 : (Int.gcd L m : Int) ∣ k) (h2 : (Int.gcd m' m : Int) ∣ k) : (Int.gcd (L * (m' / (Int.gcd L m' : Int))) m : Int) ∣ k := by
  obtain ⟨p, q, e⟩ := bez L m'
  by_cases h0 : Int.gcd L m' = 0
  · obtain ⟨a, b⟩ := Int.gcd_eq_zero_iff.mp h0
    subst a b
    rw [Int.zero_mul]
    exact h1
  · have gm := Int.gcd_dvd_right L m'
    have gL := Int.gcd_dvd_left L m'
    have h00 : (Int.gcd L m' : Int) ≠ 0 := by omega
    generalize (Int.gcd L m' : Int) = g at *
    have em := ediv_mul gm
    have eL := ediv_mul gL
    generalize m' / g = b at *
    generalize L / g = a at *
    -- p a + q b = 1
    have e1 : p * a + q * b = 1 := by
      refine Int.eq_of_mul_eq_mul_left h00 ?_
      rw [Int.mul_one]
      have : g * (p * a + q * b) = p * (a * g) + q * (b * g) := by
        rw [Int.mul_add]
        simp only [Int.mul_assoc, Int.mul_comm, Int.mul_left_comm]
      rw [this, eL, em]
      exact e.symm
    obtain ⟨x1, y1, f1⟩ := bez L m
    obtain ⟨x2, y2, f2⟩ := bez m' m
    obtain ⟨k1, hk1⟩ := h1
    obtain ⟨k2, hk2⟩ := h2
    rw [f1] at hk1
    rw [f2] at hk2
    -- k = k (p a) + k (q b); k p a in the span of a m' = L b, m ; k q b in the span of b L, m
    have d1 : (Int.gcd (L * b) m : Int) ∣ L * b := Int.gcd_dvd_left _ _
    have d2 : (Int.gcd (L * b) m : Int) ∣ m := Int.gcd_dvd_right _ _
    have c1 : (Int.gcd (L * b) m : Int) ∣ k * (p * a) := by
      rw [hk2]
      have : (x2 * m' + y2 * m) * k2 * (p * a) = L * b * (x2 * k2 * p) + m * (y2 * k2 * p * a) := by
        rw [← em, ← eL, Int.add_mul, Int.add_mul]
        congr 1 <;> simp only [Int.mul_assoc, Int.mul_comm, Int.mul_left_comm]
      rw [this]
      exact Int.dvd_add (Int.dvd_mul_of_dvd_left d1) (Int.dvd_mul_of_dvd_left d2)
    have c2 : (Int.gcd (L * b) m : Int) ∣ k * (q * b) := by
      rw [hk1]
      have : (x1 * L + y1 * m) * k1 * (q * b) = L * b * (x1 * k1 * q) + m * (y1 * k1 * q * b) := by
        rw [Int.add_mul, Int.add_mul]
        congr 1 <;> simp only [Int.mul_assoc, Int.mul_comm, Int.mul_left_comm]
      rw [this]
      exact Int.dvd_add (Int.dvd_mul_of_dvd_left d1) (Int.dvd_mul_of_dvd_left d2)
    have := Int.dvd_add c1 c2
    rw [← Int.mul_add, e1, Int.mul_one] at this
    exact this
theorem gcd_lm {m k : Int} : ∀ {ps : List (Int × Int)}, (∀ p ∈ ps, (Int.gcd p.1 m : Int) ∣ k) → (Int.gcd (lm ps) m : Int) ∣ k
  | [], _ => by
    show (Int.gcd 1 m : Int) ∣ k
    rw [Int.gcd_one_left]
    exact ⟨k, by simp⟩
  | p :: ps, h => gcd_meet (gcd_lm fun q hq => h q (List.mem_cons_of_mem _ hq)) (h p List.mem_cons_self)
/-- two progressions agree -/
def Fit (p q : Int × Int) : Prop := (Int.gcd p.1 q.1 : Int) ∣ p.2 - q.2
theorem fits_of {ps : List (Int × Int)} {M R : Int} (h : Meets ps M R) : ∀ p ∈ ps, ∀ q ∈ ps, Fit p q := fun p hp q hq => by
  have a := (h R).mpr (by rw [Int.sub_self]; exact Int.dvd_zero _)
  have x := Int.dvd_trans (Int.gcd_dvd_left p.1 q.1) (a p hp)
  have y := Int.dvd_trans (Int.gcd_dvd_right p.1 q.1) (a q hq)
  have z := Int.dvd_sub y x
  rw [show R - q.2 - (R - p.2) = p.2 - q.2 by omega] at z
  exact z
theorem meets_nil : Meets [] 1 0 := fun x => ⟨fun _ => ⟨x - 0, by simp⟩, fun _ p hp => by cases hp⟩
theorem lm_snoc (ps : List (Int × Int)) (p : Int × Int) : lmL (ps ++ [p]) = lmL ps * (p.1 / (Int.gcd (lmL ps) p.1 : Int)) := by
  unfold lmL
  rw [List.reverse_append]
  rfl
theorem meets_snoc {ps : List (Int × Int)} {p : Int × Int} {R a b : Int} (h : Meets ps (lmL ps) R) (s : Solved (lmL ps) p.1 (p.2 - R) a b) :
    lmL (ps ++ [p]) = lmL ps * a ∧ Meets (ps ++ [p]) (lmL ps * a) (prg (lmL ps * a) (R + lmL ps * b)) := by
  have e : lmL (ps ++ [p]) = lmL ps * a := by
    rw [lm_snoc]
    by_cases h0 : Int.gcd (lmL ps) p.1 = 0
    · obtain ⟨x, _⟩ := Int.gcd_eq_zero_iff.mp h0
      rw [x, Int.zero_mul, Int.zero_mul]
    · rw [s.q h0]
  refine ⟨e, fun x => ?_⟩
  rw [prg_dv, ← e, lm_snoc, ← lcm_iff]
  have f := s.f
  constructor
  · intro hp
    have h1 := (h x).mp fun q hq => hp q (List.mem_append_left _ hq)
    have h2 := hp p (List.mem_append_right _ List.mem_cons_self)
    constructor
    · have := Int.dvd_sub h1 (Int.dvd_mul_right (lmL ps) b)
      rw [show x - R - lmL ps * b = x - (R + lmL ps * b) by omega] at this
      exact this
    · have := Int.dvd_sub h2 f
      rw [show x - p.2 - (lmL ps * b - (p.2 - R)) = x - (R + lmL ps * b) by omega] at this
      exact this
  · rintro ⟨h1, h2⟩ q hq
    rcases List.mem_append.mp hq with hq | hq
    · refine (h x).mpr ?_ q hq
      have := Int.dvd_add h1 (Int.dvd_mul_right (lmL ps) b)
      rw [show x - (R + lmL ps * b) + lmL ps * b = x - R by omega] at this
      exact this
    · rw [List.mem_singleton.mp hq]
      have := Int.dvd_add h2 f
      rw [show x - (R + lmL ps * b) + (lmL ps * b - (p.2 - R)) = x - p.2 by omega] at this
      exact this
theorem no_snoc {ps : List (Int × Int)} {p : Int × Int} {R : Int} (h : Meets ps (lmL ps) R) (n : ¬ (Int.gcd (lmL ps) p.1 : Int) ∣ p.2 - R) : ¬ ∀ q ∈ ps, Fit q p := fun hf => n (by
  have a := (h R).mpr (by rw [Int.sub_self]; exact Int.dvd_zero _)
  refine gcd_lm fun q hq => ?_
  have hq2 := List.mem_reverse.mp hq
  have x := Int.dvd_trans (Int.gcd_dvd_left q.1 p.1) (a q hq2)
  have y := hf q hq2
  have z := Int.dvd_add x y
  rw [show R - q.2 + (q.2 - p.2) = -(p.2 - R) by omega] at z
  exact Int.dvd_neg.mp z)
/-- sizes -/
theorem lm_size {ps : List (Int × Int)} (h : ∀ p ∈ ps, 0 ≤ p.1 ∧ p.1 < 2 ^ 20) : 0 ≤ lmL ps ∧ lmL ps ≤ (2 ^ 20) ^ ps.length := by
  have key : ∀ l : List (Int × Int), (∀ p ∈ l, 0 ≤ p.1 ∧ p.1 < 2 ^ 20) → 0 ≤ lm l ∧ lm l ≤ (2 ^ 20) ^ l.length := by
    intro l
    induction l with
    | nil => exact fun _ => ⟨by decide, by decide⟩
    | cons p l ih =>
      intro h
      obtain ⟨a, b⟩ := ih fun q hq => h q (List.mem_cons_of_mem _ hq)
      obtain ⟨c, d⟩ := h p List.mem_cons_self
      have e1 : 0 ≤ p.1 / (Int.gcd (lm l) p.1 : Int) := Int.ediv_nonneg c (by omega)
      have e2 : p.1 / (Int.gcd (lm l) p.1 : Int) ≤ p.1 := Int.ediv_le_self _ c
      refine ⟨Int.mul_nonneg a e1, ?_⟩
      show lm l * (p.1 / (Int.gcd (lm l) p.1 : Int)) ≤ (2 ^ 20) ^ (l.length + 1)
      rw [Int.pow_succ]
      exact Int.mul_le_mul b (by omega) e1 (Int.le_trans a b)
  have := key ps.reverse fun p hp => h p (List.mem_reverse.mp hp)
  rw [List.length_reverse] at this
  exact this
theorem prg_size {M R a b m s : Int} (sol : Solved M m (s - R) a b) (hR : R.natAbs < 2 ^ 61) (hs : s.natAbs < 2 ^ 60) (h0 : 0 ≤ M * a) (h1 : M * a ≤ 2 ^ 60) : (prg (M * a) (R + M * b)).natAbs < 2 ^ 61 := by
  rcases prg_p (m := M * a) (r := R + M * b) h0 with h | h
  · by_cases hM : M = 0
    · subst hM
      rw [h]
      unfold prg
      rw [if_pos rfl, Int.zero_mul]
      omega
    · have ha : a = 0 := by
        rcases Int.mul_eq_zero.mp h with h | h
        · exact absurd h hM
        · exact h
      have hg : Int.gcd M m ≠ 0 := fun z => hM (Int.gcd_eq_zero_iff.mp z).1
      have hm : m = 0 := by
        have := ediv_mul (Int.gcd_dvd_right M m)
        rw [← sol.q hg, ha] at this
        omega
      have f := sol.f
      rw [hm, Int.zero_dvd] at f
      rw [h]
      unfold prg
      rw [if_pos rfl]
      omega
  · omega
/-- Euclid's loop in the law: what holds after i turns -/
structure Eu (a0 b0 : Int) (i : Nat) (a b : Int) : Prop where
  na : 0 ≤ a
  nb : 0 ≤ b
  g : Int.gcd a b = Int.gcd a0 b0
  o : 1 ≤ i → b < a
  p : 2 ^ i * (a.toNat * b.toNat) ≤ 2 * (a0.toNat * b0.toNat)
  m : a.toNat * b.toNat ≤ a0.toNat * b0.toNat
theorem eu_start {a b : Int} (h1 : 0 ≤ a) (h2 : 0 ≤ b) : Eu a b 0 a b := ⟨h1, h2, rfl, fun h => absurd h (by omega), by
  rw [Nat.pow_zero, Nat.one_mul]
  omega, Nat.le_refl _⟩
theorem eu_turn {a0 b0 : Int} {i : Nat} {a b : Int} (h : Eu a0 b0 i a b) (hb : b ≠ 0) : Eu a0 b0 (i + 1) b (a % b) := by
  have hb0 : 0 < b := by have := h.nb; omega
  have h1 := Int.emod_nonneg a hb
  have h2 := Int.emod_lt_of_pos a hb0
  have hg : Int.gcd b (a % b) = Int.gcd a0 b0 := by rw [← h.g, gcd_emod, Int.gcd_comm]
  obtain ⟨m, em⟩ := Int.eq_ofNat_of_zero_le h.na
  obtain ⟨n, en⟩ := Int.eq_ofNat_of_zero_le h.nb
  have hp : 2 ^ i * (m * n) ≤ 2 * (a0.toNat * b0.toNat) := by
    have := h.p
    rw [em, en] at this
    exact this
  have hm : m * n ≤ a0.toNat * b0.toNat := by
    have := h.m
    rw [em, en] at this
    exact this
  have ho := h.o
  subst em en
  have e : ((m : Int) % (n : Int)).toNat = m % n := by
    rw [← Int.natCast_emod]
    rfl
  have hn : 0 < n := by omega
  have q : n * (m % n) ≤ m * n := by
    rw [Nat.mul_comm m n]
    exact Nat.mul_le_mul_left _ (Nat.mod_le m n)
  refine ⟨h.nb, h1, hg, fun _ => h2, ?_, by rw [e]; exact Nat.le_trans q hm⟩
  rw [e]
  show 2 ^ (i + 1) * (n * (m % n)) ≤ _
  by_cases hi : 1 ≤ i
  · have o := ho hi
    have o2 : n < m := by omega
    have q : 2 * (m % n) ≤ m := by
      have a1 := Nat.mod_add_div m n
      have a2 := Nat.mod_lt m hn
      have a3 : 1 ≤ m / n := (Nat.le_div_iff_mul_le hn).mpr (by omega)
      have a4 : n * 1 ≤ n * (m / n) := Nat.mul_le_mul_left n a3
      omega
    refine Nat.le_trans ?_ hp
    rw [Nat.pow_succ, Nat.mul_assoc]
    refine Nat.mul_le_mul_left _ ?_
    have q2 := Nat.mul_le_mul_left n q
    have q3 : 2 * (n * (m % n)) = n * (2 * (m % n)) := Nat.mul_left_comm 2 n _
    have q4 : m * n = n * m := Nat.mul_comm m n
    omega
  · have : i = 0 := by omega
    subst this
    show 2 ^ 1 * _ ≤ _
    omega
set_option maxRecDepth 100000 in
set_option exponentiation.threshold 1000 in
theorem eu_end {a0 b0 a b : Int} (h : Eu a0 b0 600 a b) (ha : a0.toNat < 2 ^ 80) (hb : b0.toNat < 2 ^ 80) : b = 0 := by
  have h1 : a0.toNat * b0.toNat < 2 ^ 80 * 2 ^ 80 := Nat.mul_lt_mul'' ha hb
  have h2 := h.p
  have h3 := h.o (by decide)
  have hnb := h.nb
  by_cases hz : b = 0
  · exact hz
  · have h4 : 1 ≤ a.toNat * b.toNat := Nat.mul_pos (by omega) (by omega)
    have h5 : 2 ^ 600 * 1 ≤ 2 ^ 600 * (a.toNat * b.toNat) := Nat.mul_le_mul_left _ h4
    have h6 : 2 * (2 ^ 80 * 2 ^ 80) < 2 ^ 600 := by decide
    omega
theorem eu_gcd {a0 b0 a : Int} {i : Nat} (h : Eu a0 b0 i a 0) : a = (Int.gcd a0 b0 : Int) := by
  have := h.g
  rw [Int.gcd_zero_right] at this
  have := h.na
  omega
theorem gcd_abs (a b : Int) : Int.gcd (if a < 0 then -a else a) (if b < 0 then -b else b) = Int.gcd a b := by
  split <;> split <;> simp
/-- the law's own least common multiple -/
theorem lmL_turn (L m : Int) : (if m = 0 ∨ L = 0 then (0 : Int) else L * m / (Int.gcd L m : Int)) = L * (m / (Int.gcd L m : Int)) := by
  split
  · rename_i h
    rcases h with h | h
    · rw [h]
      simp
    · rw [h]
      simp
  · exact Int.mul_ediv_assoc L (Int.gcd_dvd_right L m)
end M31
namespace K31
local macro_rules | `(tactic| walk_at "rd") => `(tactic| repeat (first | refine ⟨rfl, ?_⟩ | refine ⟨_, rfl, ?_⟩ | refine ⟨_, _, rfl, rfl, ?_⟩ | refine ⟨⟨_, rfl⟩, ?_⟩))
open PySem PySem.Spec PyProof.Rows L2 Bx TL Dx Zx M31
section
variable {P : Program} {w : World} {K : PySem.W.Frag} {mg : Str → Option Value} {base : Heap}
theorem pw3 : ∀ {k : Nat}, k ≤ 3 → ((2 ^ 20 : Int) ^ k) ≤ 2 ^ 60
  | 0, _ => by decide
  | 1, _ => by decide
  | 2, _ => by decide
  | 3, _ => by decide
  | n + 4, h => absurd h (by omega)
theorem pow2 {i : Int} {n : Nat} (h : i.natAbs < 2 ^ 62) : -(2 ^ 64) < i ∧ i < 2 ^ 64 := by omega
/-! ### progression, is_in, bezout -/
def tp (a b : Int) : HO := .tup [.int a, .int b]
def spProg : Sp := fun vs H Q _ => ∃ m r : Int, vs = [.int m, .int r] ∧ 0 ≤ m ∧ ∀ p H', Same H H' → H p = none → H' p = some (tp m (prg m r)) → Q (.ref p) H'
theorem ok_progression {f : Addr} {fd : FuncData} (F : Fun K "progression" "progression" s_progression f fd) : FnOk P w K mg base CX0 1 f fd ["modulus", "rest"] spProg := by
  refine F.ok sc_progression (fun vs H Q E h => ?_) (fun cdv A outer s H vs Q E hr h => ?_)
  · obtain ⟨m, r, rfl, _⟩ := h
    rfl
  · obtain ⟨m, r, rfl, hm, q⟩ := h
    refine ⟨_, (pss_one (ps_ret (pe_tup (pa_cons (pv 0) (pa_cons (pe_ifExp (pt_cmpR op_eq (pv 0) pe_int (nomark _)) (pv 1) (pe_op op_mod (pv 1) (pv 0))) pa_nil))))), ?_⟩
    walk_at "rd"
    refine ite2 (fun h0 => ?_) (fun h0 => ?_)
    · have e : m = 0 := V.int.inj (of_decide_eq_true h0)
      subst e
      walk_at "rd"
      refine ⟨sz (by show 2 ≤ 100000; decide), fun p np => q p _ (same_new np) np upd_same⟩
    · have e : m ≠ 0 := fun e => h0 (decide_eq_true (congrArg V.int e))
      walk_at "rd"
      refine ⟨by omega, ?_⟩
      walk_at "rd"
      refine ⟨sz (by show 2 ≤ 100000; decide), fun p np => q p _ (same_new np) np ?_⟩
      rw [upd_same]
      unfold tp prg
      rw [if_neg e]
theorem dvd_dec {m x : Int} (h : m ≠ 0) : (decide (V.int (x % m) = V.int 0) = true) ↔ m ∣ x := by
  rw [decide_eq_true_iff]
  constructor
  · exact fun e => Int.dvd_of_emod_eq_zero (V.int.inj e)
  · exact fun e => congrArg V.int (Int.emod_eq_zero_of_dvd e)
theorem zero_dec {x y : Int} : (decide (V.int x = V.int y) = true) ↔ (0 : Int) ∣ x - y := by
  rw [decide_eq_true_iff, Int.zero_dvd]
  constructor
  · intro e
    have := V.int.inj e
    omega
  · intro e
    rw [show x = y by omega]
def spBez : Sp := fun vs H Q _ => ∃ f s : Int, vs = [.int f, .int s] ∧ 0 ≤ s ∧ f.natAbs < 2 ^ 62 ∧ s.natAbs < 2 ^ 62 ∧
  ∀ p g x y H', Same H H' → H p = none → H' p = some (.tup [.int g, .int x, .int y]) → g = (Int.gcd f s : Int) → (∃ z, g = x * f + z * s) → Q (.ref p) H'
structure BzW (f s : Int) (H0 : Hp) (m : Nat) (p q : Addr) (r x y r' x' y' : Int) (H : Hp) : Prop where
  m : m = r'.toNat
  sm : Same H0 H
  np : H0 p = none
  nq : H0 q = none
  hp : H p = some (.tup [.int r, .int x, .int y])
  hq : H q = some (.tup [.int r', .int x', .int y'])
  bz : Bz f s r x r' x'
theorem ok_bezout {f : Addr} {fd : FuncData} (F : Fun K "bezout" "bezout" s_bezout f fd) (m_zip : mg "zip" = none) (m_tuple : mg "tuple" = none) : FnOk P w K mg base CX0 1 f fd ["first", "second"] spBez := by
  refine F.ok sc_bezout (fun vs H Q E h => ?_) (fun cdv A outer s H vs Q E hr h => ?_)
  · obtain ⟨m, r, rfl, _⟩ := h
    rfl
  · obtain ⟨a, b, rfl, hb, b1, b2, q⟩ := h
    refine ⟨_, (pss_cons (ps_set (i := 2) sc_bezout.nd rfl (Or.inl rfl) (pe_tup (pa_cons (pv 0) (pa_cons pe_int (pa_cons pe_int pa_nil)))))
    (pss_cons (ps_set (i := 3) sc_bezout.nd rfl (Or.inl rfl) (pe_tup (pa_cons (pv 1) (pa_cons pe_int (pa_cons pe_int pa_nil)))))
    (pss_cons (ps_while PassesOwn.never (pt_cmpR op_ne (pe_ix ix_tup (pv 3) pe_int (fun _ _ => rfl)) pe_int (nomark _))
      (pss_cons (ps_set (i := 4) sc_bezout.nd rfl (Or.inr rfl) (pe_op op_fdivW (pe_ix ix_tup (pv 2) pe_int (fun _ _ => rfl)) (pe_ix ix_tup (pv 3) pe_int (fun _ _ => rfl))))
    (pss_one (ps_par (i := 2) (j := 3) rfl sc_bezout.nd rfl rfl (by decide) rfl rfl (pa_cons (pv 3) (pa_cons (pe_callTy (T := "tuple") call_tuple_of (by rfl) m_tuple (by decide +kernel) (pa_cons (pe_lc (own := [("its", 6), ("own", 7)]) (tt := tYes) rfl sc_bezout.nd (RZ.pi_zipA (by rfl) m_zip (pa_cons (pv 2) (pa_cons (pv 3) pa_nil))) (blkOk_by (N := n_bezout) (sc := defScope s_bezout) (by decide +kernel)) (fun _ _ _ _ _ => pg_tupK (K := K) (n := 2) rfl rfl (pgs_cons (pg_name (i := 6) sc_bezout.nd rfl (Or.inl rfl)) (pgs_cons (pg_name (i := 7) sc_bezout.nd rfl (Or.inl rfl)) pgs_nil))) (fun _ _ _ _ _ => pts_nil) (fun _ _ _ _ _ => (pe_op op_sub (pv 6) (pe_op op_mul (pv 4) (pv 7))))) pa_nil)) pa_nil)) (by rfl)))))
    (pss_one (ps_ret (pe_ifExp (pt_cmpR op_ge (pe_ix ix_tup (pv 2) pe_int (fun _ _ => rfl)) pe_int (nomark _)) (pv 2) (pe_callTy (T := "tuple") call_tuple_of (by rfl) m_tuple (by decide +kernel) (pa_cons (pe_lc (own := [("number", 5)]) (tt := tYes) rfl sc_bezout.nd (pi_tup (pv 2)) (blkOk_by (N := n_bezout) (sc := defScope s_bezout) (by decide +kernel)) (fun _ _ _ _ _ => pg_name (i := 5) sc_bezout.nd rfl (Or.inl rfl)) (fun _ _ _ _ _ => pts_nil) (fun _ _ _ _ _ => (pe_un un_neg (pv 5)))) pa_nil)))))))), ?_⟩
    walk_at "rd"
    refine ⟨sz (by show 3 ≤ 100000; decide), fun p np => ?_⟩
    walk_at "rd"
    refine ⟨sz (by show 3 ≤ 100000; decide), fun p2 np2 => ?_⟩
    have n12 : p ≠ p2 := ne_of_none (show (upd H p _) p = _ from upd_same) np2
    have np20 : H p2 = none := by rw [upd_ne n12.symm] at np2; exact np2
    refine ⟨fun m σ H' => ∃ (p q : Addr) (o : Option V) (r x y r' x' y' : Int), σ = [some (.int a), some (.int b), some (.ref p), some (.ref q), o, none, none, none] ∧ BzW a b H m p q r x y r' x' y' H', ⟨_, p, p2, none, a, 1, 0, b, 0, 1, rfl, rfl, (same_new np).trans (same_new np2), np, np20, by rw [upd_ne n12]; exact upd_same, upd_same, bz_start hb b1 b2⟩, ?_⟩
    rintro m σ H1 ⟨u, v, o, r, x, y, r', x', y', rfl, rfl, s1, nu, nv, hu1, hv1, bz⟩
    walk_at "rd"
    refine ⟨_, _, _, _, rfl, rfl, sqt hv1, atI_nat (j := 0) rfl, ?_⟩
    walk_at "rd"
    refine ite2 (fun h0 => ?_) (fun h0 => ?_)
    · have e : r' ≠ 0 := int_nt h0
      have hp : 0 < r' := by have := bz.nn; omega
      obtain ⟨bz2, hlt, hq⟩ := bz_turn bz hp
      refine ⟨fun σ' H' => ∃ m', m' < r'.toNat ∧ ∃ (p q : Addr) (o : Option V) (r x y r' x' y' : Int), σ' = [some (.int a), some (.int b), some (.ref p), some (.ref q), o, none, none, none] ∧ BzW a b H m' p q r x y r' x' y' H', fun σ' H' h => h, ?_⟩
      walk_at "rd"
      refine ⟨_, _, _, _, rfl, rfl, sqt hu1, atI_nat (j := 0) rfl, ?_⟩
      walk_at "rd"
      refine ⟨_, _, _, _, rfl, rfl, sqt hv1, atI_nat (j := 0) rfl, ?_⟩
      refine ⟨r, r', rfl, rfl, wide_div hp (b := 62) bz.b2 (by decide) (by decide), ?_⟩
      walk_at "rd"
      refine ⟨u, v, _, _, rfl, .inr ⟨sqt hu1, sqt hv1, ?_⟩⟩
      intro D hD
      have nD : H D = none := s1.free hD
      refine lc_it (Zx.walk_zipT (n := 3) rfl) (fun i H' => H' D = some (.lst ((([r - r / r' * r', x - r / r' * x', y - r / r' * y'] : List Int).take i).map V.int)) ∧ Same H1 H') ⟨upd_same, same_new hD⟩ (fun i H' _ ⟨_, s⟩ => ⟨Bx.Same.tup s (sqt hu1), Bx.Same.tup s (sqt hv1)⟩) ?_ ?_
      · have hi3 : ∀ {i : Nat} {e1 e2 : V}, [V.int r, V.int x, V.int y][i]? = some e1 → [V.int r', V.int x', V.int y'][i]? = some e2 → ∃ c d : Int, e1 = .int c ∧ e2 = .int d ∧ [r - r / r' * r', x - r / r' * x', y - r / r' * y'][i]? = some (c - r / r' * d) := by
          intro i e1 e2 g1 g2
          match i, g1, g2 with
          | 0, g1, g2 => cases g1; cases g2; exact ⟨_, _, rfl, rfl, rfl⟩
          | 1, g1, g2 => cases g1; cases g2; exact ⟨_, _, rfl, rfl, rfl⟩
          | 2, g1, g2 => cases g1; cases g2; exact ⟨_, _, rfl, rfl, rfl⟩
          | n + 3, g1, g2 => cases g1
        rintro i z H2 H3 hi ⟨hd, s2⟩ ⟨T, e1, e2, rfl, nT, rfl, g1, g2⟩
        obtain ⟨c, d, rfl, rfl, hcd⟩ := hi3 g1 g2
        refine ⟨_, _, rfl, sqt upd_same, rfl, _, _, rfl, _, _, rfl, rfl, ?_⟩
        refine ⟨rfl, ?_⟩
        walk_at "rd"
        refine ⟨.inl (pow2 (n := 0) hq), ?_⟩
        walk_at "rd"
        have nTD : T ≠ D := fun e => by rw [e, hd] at nT; cases nT
        refine ⟨_, by rw [upd_ne nTD.symm]; exact hd, ?_, ?_, ?_⟩
        · rw [List.length_map, List.length_take]
          exact szl (by omega)
        · rw [upd_same, List.take_add_one, hcd, List.map_append]
          rfl
        · exact same_at hD (s2.trans (same_new nT))
      · rintro H2 ⟨hd, s2⟩
        walk_at "rd"
        refine ⟨_, _, rfl, .inl ⟨sq hd, fun t nt => ?_⟩⟩
        walk_at "rd"
        have s3 : Same H1 (upd H2 t (.tup ([r - r / r' * r', x - r / r' * x', y - r / r' * y'].map V.int))) := s2.trans (same_new nt)
        refine ⟨_, _, rfl, _, hlt, v, t, _, r', x', y', _, _, _, rfl, rfl, s1.trans s3, nv, s1.free (s2.free nt), s3 _ _ hv1, upd_same, bz2⟩
    · have e : r' = 0 := int_nf h0
      subst e
      have hg := bz_end bz
      obtain ⟨z, ez⟩ := bz.e1
      walk_at "rd"
      refine ⟨_, _, _, _, rfl, rfl, sqt hu1, atI_nat (j := 0) rfl, ?_⟩
      walk_at "rd"
      refine ite2 (fun h1 => ?_) (fun h1 => ?_)
      · have e : 0 ≤ r := of_decide_eq_true h1
        rw [if_neg (by omega)] at hg
        walk_at "rd"
        exact q u r x y H1 s1 nu hu1 hg.symm ⟨z, ez⟩
      · have e : r < 0 := by
          have := of_decide_eq_false (Bool.not_eq_true _ ▸ h1)
          omega
        rw [if_pos e] at hg
        walk_at "rd"
        refine ⟨⟨_, sqt hu1⟩, fun D hD => lc_it walk_tup (fun i H' => H' D = some (.lst ((([-r, -x, -y] : List Int).take i).map V.int)) ∧ Same H1 H') ⟨upd_same, same_new hD⟩ (fun i H' _ ⟨_, s⟩ => Bx.Same.tup s (sqt hu1)) ?_ ?_⟩
        · have hi3 : ∀ {i : Nat} {e1 : V}, [V.int r, V.int x, V.int y][i]? = some e1 → ∃ c : Int, e1 = .int c ∧ [-r, -x, -y][i]? = some (-c) := by
            intro i e1 g1
            match i, g1 with
            | 0, g1 => cases g1; exact ⟨_, rfl, rfl⟩
            | 1, g1 => cases g1; exact ⟨_, rfl, rfl⟩
            | 2, g1 => cases g1; exact ⟨_, rfl, rfl⟩
            | n + 3, g1 => cases g1
          rintro i z H2 H3 hi ⟨hd, s2⟩ ⟨rfl, g1⟩
          have hi2 : i < 3 := hi
          obtain ⟨c, rfl, hcd⟩ := hi3 g1
          walk_at "rd"
          refine ⟨_, hd, ?_, ?_, ?_⟩
          · rw [List.length_map, List.length_take]
            exact szl (by omega)
          · rw [upd_same, List.take_add_one, hcd, List.map_append]
            rfl
          · exact same_at hD s2
        · rintro H2 ⟨hd, s2⟩
          refine ⟨_, _, rfl, .inl ⟨sq hd, fun t nt => ?_⟩⟩
          have s3 : Same H1 (upd H2 t (.tup ([-r, -x, -y].map V.int))) := s2.trans (same_new nt)
          refine q t (-r) (-x) (-y) _ (s1.trans s3) (s1.free (s2.free nt)) upd_same hg.symm ⟨-z, ?_⟩
          show -r = -x * a + -z * b
          rw [Int.neg_mul, Int.neg_mul, ez]
          omega
/-! ### solve_one, meet -/
def spSolve : Sp := fun vs H Q _ => ∃ c m r : Int, vs = [.int c, .int m, .int r] ∧ 0 ≤ m ∧ c.natAbs < 2 ^ 62 ∧ m.natAbs < 2 ^ 62 ∧ r.natAbs < 2 ^ 62 ∧
  (¬ (Int.gcd c m : Int) ∣ r → ∀ H', Same H H' → Q .non H') ∧
  ((Int.gcd c m : Int) ∣ r → ∀ p a b H', Same H H' → H p = none → H' p = some (tp a b) → Solved c m r a b → Q (.ref p) H')
theorem ok_solve_one {f : Addr} {fd : FuncData} (F : Fun K "solve_one" "solve_one" s_solve_one f fd) (C_bezout : Cal P w K mg base "bezout" 1 ["first", "second"] spBez) (C_progression : Cal P w K mg base "progression" 1 ["modulus", "rest"] spProg) : FnOk P w K mg base CX0 2 f fd ["coefficient", "modulus", "rest"] spSolve := by
  refine F.ok sc_solve_one (fun vs H Q E h => ?_) (fun cdv A outer s H vs Q E hr h => ?_)
  · obtain ⟨c, m, r, rfl, _⟩ := h
    rfl
  · obtain ⟨c, m, r, rfl, hm, b1, b2, b3, q1, q2⟩ := h
    refine ⟨_, (pss_cons (ps_asg (pe_cal C_bezout (hr.mono (by decide)) (pa_cons (pv 0) (pa_cons (pv 1) pa_nil))) (pg_tup rfl (pgs_cons (pg_name (i := 3) sc_solve_one.nd rfl (Or.inl rfl)) (pgs_cons (pg_name (i := 4) sc_solve_one.nd rfl (Or.inl rfl)) (pgs_cons (pg_name (i := 5) sc_solve_one.nd rfl (Or.inl rfl)) pgs_nil)))))
    (pss_cons (ps_if (pt_cmpR op_eq (pv 3) pe_int (nomark _))
      (pss_one (ps_ret (pe_ifExp (pt_cmpR op_eq (pv 2) pe_int (nomark _)) (pe_tup (pa_cons pe_int (pa_cons pe_int pa_nil))) pe_non)))
      pss_nil)
    (pss_cons (ps_if (pt_cmpR op_ne (pe_op op_mod (pv 2) (pv 3)) pe_int (nomark _))
      (pss_one (ps_ret pe_non))
      pss_nil)
    (pss_one (ps_ret (pe_cal C_progression (hr.mono (by decide)) (pa_cons (pe_op op_fdivW (pv 1) (pv 3)) (pa_cons (pe_op op_mul (pe_op op_fdivW (pv 2) (pv 3)) (pv 4)) pa_nil)))))))), ?_⟩
    walk_at "rd"
    refine ⟨c, m, rfl, hm, b1, b2, fun p g x y H1 s1 np hp hg hz => ?_⟩
    refine ⟨_, _, rfl, sqt hp, rfl, _, _, rfl, _, _, rfl, _, _, rfl, rfl, ?_⟩
    walk_at "rd"
    refine ite2 (fun h0 => ?_) (fun h0 => ?_)
    · have e := int_t h0
      subst e
      walk_at "rd"
      refine ite2 (fun h1 => ?_) (fun h1 => ?_)
      · have e2 := int_t h1
        walk_at "rd"
        refine ⟨sz (by show 2 ≤ 100000; decide), fun t nt => ?_⟩
        exact q2 (by rw [e2]; exact Int.dvd_zero _) t 1 0 _ (s1.trans (same_new nt)) (s1.free nt) upd_same (solved_zero hg.symm e2)
      · have e2 := int_f h1
        walk_at "rd"
        refine q1 (fun z => e2 ?_) H1 s1
        rw [← hg] at z
        exact Int.zero_dvd.mp z
    · have e := int_f h0
      have g0 : 0 < g := by omega
      walk_at "rd"
      refine ⟨g0, ?_⟩
      walk_at "rd"
      refine ite2 (fun h1 => ?_) (fun h1 => ?_)
      · have e2 := int_nt h1
        walk_at "rd"
        refine q1 (fun z => e2 ?_) H1 s1
        rw [← hg] at z
        exact Int.emod_eq_zero_of_dvd z
      · have e2 : g ∣ r := Int.dvd_of_emod_eq_zero (int_nf h1)
        walk_at "rd"
        have hgb : g.natAbs < 2 ^ 62 := by
          rw [hg]
          by_cases hc : c = 0
          · subst hc
            rw [Int.gcd_zero_left]
            exact b2
          · have : Int.gcd c m ≤ c.natAbs := Nat.le_of_dvd (by omega) (Int.ofNat_dvd_left.mp (Int.gcd_dvd_left c m))
            omega
        refine ⟨wide_div g0 (b := 62) hgb (by decide) (by decide), ?_⟩
        walk_at "rd"
        refine ⟨wide_div g0 (b := 62) hgb (by decide) (by decide), ?_⟩
        walk_at "rd"
        refine ⟨.inl (pow2 (n := 0) (Nat.lt_of_le_of_lt (Int.natAbs_ediv_le_natAbs r g) b3)), ?_⟩
        refine ⟨_, _, rfl, Int.ediv_nonneg hm (by omega), fun p2 H2 s2 np2 hp2 => ?_⟩
        exact q2 (hg ▸ e2) p2 _ _ H2 (s1.trans s2) (s1.free np2) hp2 (solved_of hm hg.symm g0 e2 hz)
def szm (ps : List (Int × Int)) : Prop := ∀ p ∈ ps, 0 ≤ p.1 ∧ p.1 < 2 ^ 20 ∧ p.2.natAbs < 2 ^ 60
/-- tuples of pairs -/
def prD (p : Int × Int) : PyData := .tuple [.int p.1, .int p.2]
theorem pr_inv {H : Hp} {v : V} {p : Int × Int} (h : Dp K H v (prD p)) : ∃ a, v = .ref a ∧ SqT K H a [.int p.1, .int p.2] := by
  obtain ⟨a, xs, rfl, s, t⟩ := dp_tup h
  cases t with
  | cons h1 t =>
    cases t with
    | cons h2 t =>
      cases t
      rw [dp_int h1, dp_int h2] at s
      exact ⟨a, rfl, s⟩
theorem pr_dp {H : Hp} {a : Addr} {p : Int × Int} (s : SqT K H a [.int p.1, .int p.2]) : Dp K H (.ref a) (prD p) := .tup s (.cons (.int _) (.cons (.int _) .nil))
def spMeet (K : PySem.W.Frag) : Sp := fun vs H Q _ => ∃ ps : List (Int × Int), DpAll K H vs (ps.map prD) ∧ ps.length ≤ 4 ∧ szm ps ∧
  ((¬ ∀ p ∈ ps, ∀ q ∈ ps, Fit p q) → ∀ H', Same H H' → Q .non H') ∧
  (∀ p R H', Same H H' → H p = none → H' p = some (tp (lmL ps) R) → Meets ps (lmL ps) R → (lmL ps = 0 ∨ (0 ≤ R ∧ R < lmL ps)) → Q (.ref p) H')
def spMeet0 (K : PySem.W.Frag) : Sp := fun vs H Q _ => ∃ (a : Addr) (xs : List V) (ps : List (Int × Int)), vs = [.ref a] ∧ SqT K H a xs ∧ DpAll K H xs (ps.map prD) ∧ ps.length ≤ 4 ∧ szm ps ∧
  ((¬ ∀ p ∈ ps, ∀ q ∈ ps, Fit p q) → ∀ H', Same H H' → Q .non H') ∧
  (∀ p R H', Same H H' → H p = none → H' p = some (tp (lmL ps) R) → Meets ps (lmL ps) R → (lmL ps = 0 ∨ (0 ≤ R ∧ R < lmL ps)) → Q (.ref p) H')
theorem ok_meet {f : Addr} {fd : FuncData} (F : Fun K "meet" "meet" s_meet f fd) (C_solve_one : Cal P w K mg base "solve_one" 2 ["coefficient", "modulus", "rest"] spSolve) (C_progression : Cal P w K mg base "progression" 1 ["modulus", "rest"] spProg) : FnR P w K mg base CX0 3 f (spMeet K) := by
  have z := okStar (P := P) (w := w) (K := K) (mg := mg) (base := base) (sp := spMeet0 K) (k := 2) F sc_meet (fun _ _ _ _ _ _ rest => match rest with | [] => rfl | _ :: _ => rfl) (fun cdv A outer s H vs Q E hr h => ?_)
  · refine z.imp fun vs H Q E h => ?_
    obtain ⟨ps, hd, hl, hz, q1, q2⟩ := h
    refine ⟨by rw [da_len hd, List.length_map]; exact sz (by omega), fun p np => ⟨p, vs, ps, rfl, sqt upd_same, dpAll_same (same_new np) hd, hl, hz, fun n H' s => q1 n H' ((same_new np).trans s), fun r R H' s nr => q2 r R H' ((same_new np).trans s) ((same_new np).free nr)⟩⟩
  · obtain ⟨a, xs, ps, rfl, hs, hd, hl, hz, q1, q2⟩ := h
    refine ⟨_, PSs.nox ((pss_cons (ps_asg (pe_tup (pa_cons pe_int (pa_cons pe_int pa_nil))) (pg_tup rfl (pgs_cons (pg_name (i := 1) sc_meet.nd rfl (Or.inl rfl)) (pgs_cons (pg_name (i := 2) sc_meet.nd rfl (Or.inl rfl)) pgs_nil))))
    (pss_cons (ps_for PassesOwn.never rfl (pi_tup (pv 0)) (pg_tup rfl (pgs_cons (pg_name (i := 3) sc_meet.nd rfl (Or.inl rfl)) (pgs_cons (pg_name (i := 4) sc_meet.nd rfl (Or.inl rfl)) pgs_nil)))
      (pss_cons (ps_set (i := 5) sc_meet.nd rfl (Or.inl rfl) (pe_cal C_solve_one (hr.mono (by decide)) (pa_cons (pv 1) (pa_cons (pv 3) (pa_cons (pe_op op_sub (pv 4) (pv 2)) pa_nil)))))
    (pss_cons (ps_if (pt_cmpR op_isN (pv 5) pe_non (nomark _))
      (pss_one (ps_ret pe_non))
      pss_nil)
    (pss_one (ps_asg (pe_cal C_progression (hr.mono (by decide)) (pa_cons (pe_op op_mul (pv 1) (pe_ix ix_tup (pv 5) pe_int (fun _ _ => rfl))) (pa_cons (pe_op op_add (pv 2) (pe_op op_mul (pv 1) (pe_ix ix_tup (pv 5) pe_int (fun _ _ => rfl)))) pa_nil))) (pg_tup rfl (pgs_cons (pg_name (i := 1) sc_meet.nd rfl (Or.inl rfl)) (pgs_cons (pg_name (i := 2) sc_meet.nd rfl (Or.inl rfl)) pgs_nil))))))))
    (pss_one (ps_ret (pe_tup (pa_cons (pv 1) (pa_cons (pv 2) pa_nil)))))))), ?_⟩
    walk_at "rd"
    refine ⟨sz (by show 2 ≤ 100000; decide), fun t nt => ?_⟩
    refine ⟨_, _, rfl, sqt upd_same, rfl, _, _, rfl, _, _, rfl, rfl, ?_⟩
    walk_at "rd"
    have hs1 : SqT K (upd H t (.tup [.int 1, .int 0])) a xs := Bx.Same.tup (same_new nt) hs
    have hxl : xs.length = ps.length := by rw [da_len hd, List.length_map]
    refine ⟨⟨_, hs1⟩, for_it walk_tup (fun i σ H' => ∃ (R : Int) (o3 o4 o5 : Option V), σ = [some (.ref a), some (.int (lmL (ps.take i))), some (.int R), o3, o4, o5] ∧ Same H H' ∧ Meets (ps.take i) (lmL (ps.take i)) R ∧ (lmL (ps.take i) = 0 ∨ (0 ≤ R ∧ R < lmL (ps.take i))) ∧ (i ≤ 3 → R.natAbs < 2 ^ 61)) ⟨0, none, none, none, rfl, same_new nt, meets_nil, .inr ⟨Int.le_refl _, (by decide : (0 : Int) < 1)⟩, fun _ => by decide⟩ (fun i σ H' _ ⟨_, _, _, _, _, s, _⟩ => Bx.Same.tup s hs) ?_ ?_⟩
    · rintro i x σ H1 H2 hi ⟨R, o3, o4, o5, rfl, s1, hm, hR, hRb⟩ ⟨rfl, hx⟩
      obtain ⟨d, hd2, hxd⟩ := da_at hd hx
      rw [List.getElem?_map] at hd2
      obtain ⟨p, hp, rfl⟩ : ∃ p, ps[i]? = some p ∧ d = prD p := by
        cases e : ps[i]? with
        | none => rw [e] at hd2; cases hd2
        | some p => rw [e] at hd2; cases hd2; exact ⟨p, rfl, rfl⟩
      obtain ⟨pa, rfl, hpa⟩ := pr_inv hxd
      obtain ⟨z1, z2, z3⟩ := hz p (List.mem_of_getElem? hp)
      have htk : ps.take (i + 1) = ps.take i ++ [p] := by rw [List.take_add_one, hp]; rfl
      have hsz := lm_size (ps := ps.take i) fun q hq => ⟨(hz q (List.mem_of_mem_take hq)).1, (hz q (List.mem_of_mem_take hq)).2.1⟩
      rw [List.length_take] at hsz
      have hM : lmL (ps.take i) ≤ 2 ^ 60 := by
        exact Int.le_trans hsz.2 (pw3 (by omega))
      have hM0 := hsz.1
      have hRb := hRb (by omega)
      have gRb : (p.2 - R).natAbs < 2 ^ 62 := by omega
      refine ⟨_, _, rfl, Bx.Same.tup s1 hpa, rfl, _, _, rfl, _, _, rfl, rfl, ?_⟩
      walk_at "rd"
      refine ⟨_, _, _, rfl, z1, by omega, by omega, gRb, fun hno H3 s3 => ?_, fun hyes q a1 b1 H3 s3 nq hq hsol => ?_⟩
      · walk_at "rd"
        refine ite2 (fun _ => ?_) (fun h => absurd rfl h)
        walk_at "rd"
        refine q1 (fun z => ?_) H3 (s1.trans s3)
        exact no_snoc hm hno fun q hq => z q (List.mem_of_mem_take hq) p (List.mem_of_getElem? hp)
      · walk_at "rd"
        have hMb : (lmL (ps.take i)).natAbs < 2 ^ 62 := by omega
        refine ⟨_, _, _, _, rfl, rfl, sqt hq, atI_nat (j := 0) rfl, ?_⟩
        refine ⟨_, _, rfl, rfl, .inl (pow2 (n := 0) hMb), ?_⟩
        walk_at "rd"
        refine ⟨_, _, _, _, rfl, rfl, sqt hq, atI_nat (j := 1) rfl, ?_⟩
        refine ⟨_, _, rfl, rfl, .inl (pow2 (n := 0) hMb), ?_⟩
        walk_at "rd"
        obtain ⟨e1, hm2⟩ := meets_snoc hm hsol
        have hsz2 := lm_size (ps := ps.take i ++ [p]) fun q hq => by
          rw [← htk] at hq
          exact ⟨(hz q (List.mem_of_mem_take hq)).1, (hz q (List.mem_of_mem_take hq)).2.1⟩
        have hM2 : 0 ≤ lmL (ps.take i) * a1 := by rw [← e1]; exact hsz2.1
        refine ⟨_, _, rfl, hM2, fun r H4 s4 nr hr4 => ?_⟩
        refine ⟨_, _, rfl, sqt hr4, rfl, _, _, rfl, _, _, rfl, rfl, ?_⟩
        rw [← htk] at e1 hm2
        refine ⟨_, _, _, _, by rw [e1]; rfl, (s1.trans s3).trans s4, by rw [e1]; exact hm2, by rw [e1]; exact prg_p hM2, fun hi3 => ?_⟩
        refine prg_size hsol hRb z3 hM2 ?_
        rw [← e1, htk]
        refine Int.le_trans hsz2.2 (pw3 ?_)
        rw [← htk, List.length_take]
        omega
    · rintro σ H1 ⟨R, o3, o4, o5, rfl, s1, hm, hR, hRb⟩
      rw [hxl, List.take_length] at hm hR ⊢
      walk_at "rd"
      refine ⟨sz (by show 2 ≤ 100000; decide), fun t2 nt2 => ?_⟩
      exact q2 t2 R _ (s1.trans (same_new nt2)) (s1.free nt2) upd_same hm hR
end
end K31
namespace K31
local macro_rules | `(tactic| walk_at "rd") => `(tactic| repeat (first | refine ⟨rfl, ?_⟩ | refine ⟨_, rfl, ?_⟩ | refine ⟨_, _, rfl, rfl, ?_⟩ | refine ⟨⟨_, rfl⟩, ?_⟩))
open PySem PySem.Spec PyProof.Rows L2 Bx TL Dx Zx Ow Sup NdefX Px T31
abbrev Tb := List (Str × Str)
def tbV (t : Tb) : List (Key × V) := t.map fun p => (.inr p.1, .str p.2)
def rn (t : Tb) (z : Str) : Str := ((t.find? fun p => decide (p.1 = z)).map (·.2)).getD z
theorem val_tb : ∀ (t : Tb) (z : Str), (valV (tbV t) (.inr z)).getD (.str z) = .str (rn t z)
  | [], _ => rfl
  | p :: r, z => by
    have ih := val_tb r z
    unfold rn
    by_cases e : p.1 = z
    · have e2 : ((.inr p.1 : Key), V.str p.2).1 = .inr z := congrArg Sum.inr e
      show (valV (((.inr p.1 : Key), V.str p.2) :: tbV r) (.inr z)).getD _ = _
      rw [valV_pos e2, List.find?_cons, decide_eq_true e]
      rfl
    · have e2 : ¬ ((.inr p.1 : Key), V.str p.2).1 = .inr z := fun h => e (Sum.inr.inj h)
      show (valV (((.inr p.1 : Key), V.str p.2) :: tbV r) (.inr z)).getD _ = _
      rw [valV_neg e2, List.find?_cons, decide_eq_false e]
      exact ih
section
variable {P : Program} {w : World} {K : PySem.W.Frag} {mg : Str → Option Value} {base : Heap}
@[irreducible] def spRepl (K : PySem.W.Frag) : Sp := fun vs H Q _ => ∃ (a d : Addr) (ns : List Str) (t : Tb), vs = [.ref a, .ref d] ∧ (SqL K H a (ns.map V.str) ∨ SqT K H a (ns.map V.str)) ∧ H d = some (.dK (tbV t)) ∧ ns.length ≤ 100 ∧ ∀ r H', Same H H' → H r = none → H' r = some (.lst ((ns.map (rn t)).map V.str)) → Q (.ref r) H'
theorem ok_repl {f : Addr} {fd : FuncData} (F : Fun K "replace_names" "replace_names" s_replace_names f fd) : FnOk P w K mg base CX0 1 f fd ["names", "table"] (spRepl K) := by
  refine F.ok sc_replace_names (fun vs H Q E h => ?_) (fun cdv A outer s H vs Q E hr h => ?_)
  · unfold spRepl at h
    obtain ⟨a, d, ns, t, rfl, _⟩ := h
    rfl
  · unfold spRepl at h
    obtain ⟨a, d, ns, t, rfl, ha, hd, hl, q⟩ := h
    have hu := hu_of hr
    refine ⟨_, (pss_one (ps_ret (pe_lc (own := [("name", 2)]) (tt := tYes) rfl sc_replace_names.nd (pi_seq (pv 0)) (blkOk_by (N := n_replace_names) (sc := defScope s_replace_names) (by decide +kernel)) (fun _ _ _ _ _ => pg_name (i := 2) sc_replace_names.nd rfl (Or.inl rfl)) (fun _ _ _ _ _ => pts_nil) (fun _ _ _ _ _ => (pe_dget2 hu (pv 1) (pv 2) (pv 2) ⟨rfl, rfl, rfl, rfl⟩))))), ?_⟩
    walk_at "rd"
    refine seq_case ha fun J G wk hG D hD => ?_
    have hdD : d ≠ D := fun e => by rw [e, hD] at hd; cases hd
    refine lc_it wk (fun i H' => H' = upd H D (.lst (((ns.take i).map (rn t)).map V.str))) rfl (fun i H' _ e => e ▸ hG _ (same_new hD)) ?_ ?_
    · rintro i v H2 H3 hi rfl ⟨rfl, hx⟩
      obtain ⟨z, hz, rfl⟩ := at_map hx
      refine ⟨rfl, ?_⟩
      walk_at "rd"
      have hd2 : (upd H D (.lst (((ns.take i).map (rn t)).map V.str))) d = some (.dK (tbV t)) := by
        rw [upd_ne hdD]
        exact hd
      refine ⟨.inl ⟨_, .inl hd2⟩, ?_⟩
      walk_at "rd"
      refine ⟨_, DGet.k (k := .inr z) hd2, ?_⟩
      rw [val_tb]
      refine ⟨_, upd_same, ?_, ?_⟩
      · rw [List.length_map, List.length_map]
        exact szl (Nat.lt_of_le_of_lt (List.length_take_le' i ns) (by omega))
      · rw [upd_upd, List.take_add_one, hz, List.map_append, List.map_append]
        rfl
    rintro H2 rfl
    rw [List.length_map, List.take_length]
    exact q D _ (same_new hD) hD upd_same
/-! ### merge_names -/
def spMerge0 (K : PySem.W.Frag) : Sp := fun vs H Q _ => ∃ (p : Addr) (L : List (Addr × List Str)), vs = [.ref p] ∧ SqT K H p (L.map fun q => V.ref q.1) ∧ (∀ q ∈ L, SqL K H q.1 (q.2.map V.str) ∨ SqT K H q.1 (q.2.map V.str)) ∧ (L.map fun q => q.2).flatten.length ≤ 3000 ∧
  ∀ r H' ys, Same H H' → H r = none → PlT H' r (ys.map V.str) → sortedS ys = true → ys.Nodup → (∀ x, x ∈ ys ↔ x ∈ (L.map fun q => q.2).flatten) → Q (.ref r) H'
def spMerge (K : PySem.W.Frag) : Sp := fun vs H Q _ => ∃ (L : List (Addr × List Str)), vs = L.map (fun q => V.ref q.1) ∧ (∀ q ∈ L, SqL K H q.1 (q.2.map V.str) ∨ SqT K H q.1 (q.2.map V.str)) ∧ L.length ≤ 1000 ∧ (L.map fun q => q.2).flatten.length ≤ 3000 ∧
  ∀ r H' ys, Same H H' → H r = none → PlT H' r (ys.map V.str) → sortedS ys = true → ys.Nodup → (∀ x, x ∈ ys ↔ x ∈ (L.map fun q => q.2).flatten) → Q (.ref r) H'
theorem ok_merge_names {f : Addr} {fd : FuncData} (F : Fun K "merge_names" "merge_names" s_merge_names f fd) (m_set : mg "set" = none) (m_sorted : mg "sorted" = none) (m_tuple : mg "tuple" = none) : FnR P w K mg base CX0 1 f (spMerge K) := by
  have z := okStar (P := P) (w := w) (K := K) (mg := mg) (base := base) (sp := spMerge0 K) (k := 0) F sc_merge_names (fun _ _ _ _ _ _ rest => match rest with | [] => rfl | _ :: _ => rfl) (fun cdv A outer s H vs Q E hr h => ?_)
  · refine z.imp fun vs H Q E h => ?_
    obtain ⟨L, rfl, hL, hl, hn, q⟩ := h
    refine ⟨by rw [List.length_map]; exact sz (by omega), fun p np => ⟨p, L, rfl, sqt upd_same, fun x hx => (hL x hx).imp (Same.seq (same_new np)) (Bx.Same.tup (same_new np)), hn, fun r H' ys s1 n1 => q r H' ys ((same_new np).trans s1) ((same_new np).free n1)⟩⟩
  · obtain ⟨p, L, rfl, hT, hL, hn, q⟩ := h
    refine ⟨_, (pss_one (ps_ret (pe_callTy (T := "tuple") call_tupleF (by rfl) m_tuple (by decide +kernel) (pa_cons (pe_callB (id := "sorted") (Sx.cr_sortX rfl) (by rfl) m_sorted (by decide +kernel) (pa_cons (pe_callTy (T := "set") (Sx.cr_setX rfl) (by rfl) m_set (by decide +kernel) (pa_cons (pe_lc2 (own := [("names", 1), ("name", 2)]) (vs1 := [2]) (wi1 := iSeq K (tVar 1)) (tt := tYes) (tt1 := tYes) rfl sc_merge_names.nd (pi_tup (pv 0)) (blkOk_by (N := n_merge_names) (sc := defScope s_merge_names) (by decide +kernel)) (by decide) (fun _ _ _ _ _ => pg_name (i := 1) sc_merge_names.nd rfl (Or.inl rfl)) (fun _ _ _ _ _ => pts_nil) (fun _ _ _ _ _ => (pi_seq (pv 1))) (fun _ _ _ _ _ => pg_name (i := 2) sc_merge_names.nd rfl (Or.inl rfl)) (fun _ _ _ _ _ => pts_nil) (fun _ _ _ _ _ => (pv 2))) pa_nil)) pa_nil)) pa_nil)))), ?_⟩
    walk_at "rd"
    refine ⟨⟨_, hT⟩, fun D hD => ?_⟩
    refine walk_any (walk_tup (K := K) (a := p) (xs := L.map fun q => V.ref q.1)) (fun i H' => Same H H' ∧ H' D = some (.lst (((L.take i).map fun q => q.2).flatten.map V.str))) ⟨same_new hD, by rw [upd_same]; rfl⟩ (fun i H' _ h => Bx.Same.tup h.1 hT) ?_ ?_
    · rintro i x H1 H2 hi ⟨hs, hd⟩ ⟨rfl, hx⟩
      rw [List.length_map] at hi
      obtain ⟨y, hy, rfl⟩ : ∃ y, L[i]? = some y ∧ x = .ref y.1 := by
        rw [List.getElem?_map, List.getElem?_eq_getElem hi] at hx
        exact ⟨_, List.getElem?_eq_getElem hi, (Option.some.inj hx).symm⟩
      refine ⟨rfl, ?_⟩
      have hy2 := hL y (List.mem_of_getElem? hy)
      have hfl : ((L.take (i + 1)).map fun q => q.2).flatten = ((L.take i).map fun q => q.2).flatten ++ y.2 := by
        rw [List.take_add_one, hy, List.map_append, List.flatten_append]
        simp
      have hle : ∀ j, (((L.take j).map fun q => q.2).flatten).length ≤ 3000 := fun j => by
        have e := List.take_append_drop j L
        have e2 : (L.map fun q => q.2).flatten.length = ((L.take j).map fun q => q.2).flatten.length + ((L.drop j).map fun q => q.2).flatten.length := by
          rw [← List.length_append, ← List.flatten_append, ← List.map_append, e]
        omega
      walk_at "rd"
      have hstep : ∀ (j : Nat) (x : V) (H1 : Hp), (y.2.map V.str)[j]? = some x → Same H H1 ∧ H1 D = some (.lst ((((L.take i).map fun q => q.2).flatten ++ y.2.take j).map V.str)) →
          ∃ acc, H1 D = some (.lst acc) ∧ acc.length < sizeLine ∧ Same H (upd H1 D (.lst (acc ++ [x]))) ∧ (upd H1 D (.lst (acc ++ [x]))) D = some (.lst ((((L.take i).map fun q => q.2).flatten ++ y.2.take (j + 1)).map V.str)) := by
        rintro j x H1 hj ⟨h1, h2⟩
        refine ⟨_, h2, ?_, same_at hD h1, ?_⟩
        · have e1 := hle (i + 1)
          rw [hfl, List.length_append] at e1
          rw [List.length_map, List.length_append, List.length_take]
          exact szl (by omega)
        · obtain ⟨u, hu, rfl⟩ : ∃ u, y.2[j]? = some u ∧ x = .str u := by
            rw [List.getElem?_map] at hj
            cases e : y.2[j]? with
            | none =>
              rw [e] at hj
              cases hj
            | some u =>
              rw [e] at hj
              exact ⟨u, rfl, (Option.some.inj hj).symm⟩
          rw [upd_same, List.take_add_one, hu, ← List.append_assoc, List.map_append (l₂ := (some u).toList)]
          rfl
      have hend : ∀ H1, Same H H1 ∧ H1 D = some (.lst ((((L.take i).map fun q => q.2).flatten ++ y.2.take (y.2.map V.str).length).map V.str)) → Same H H1 ∧ H1 D = some (.lst (((L.take (i + 1)).map fun q => q.2).flatten.map V.str)) := by
        rintro H1 ⟨h1, h2⟩
        rw [List.length_map, List.take_length, ← hfl] at h2
        exact ⟨h1, h2⟩
      have h0 : Same H H2 ∧ H2 D = some (.lst ((((L.take i).map fun q => q.2).flatten ++ y.2.take 0).map V.str)) := by
        rw [List.take_zero, List.append_nil]
        exact ⟨hs, hd⟩
      rcases hy2 with hl | ht
      · refine .inl ⟨⟨_, hs.seq hl⟩, walk_any walk_list (fun j H1 => Same H H1 ∧ H1 D = some (.lst ((((L.take i).map fun q => q.2).flatten ++ y.2.take j).map V.str))) h0 (fun j H' _ h => h.1.seq hl) ?_ hend⟩
        rintro j x H1 H' hj hp ⟨rfl, hx⟩
        refine ⟨rfl, ?_⟩
        walk_at "rd"
        exact hstep j x _ hx hp
      · refine .inr ⟨⟨_, Bx.Same.tup hs ht⟩, walk_any walk_tup (fun j H1 => Same H H1 ∧ H1 D = some (.lst ((((L.take i).map fun q => q.2).flatten ++ y.2.take j).map V.str))) h0 (fun j H' _ h => Bx.Same.tup h.1 ht) ?_ hend⟩
        rintro j x H1 H' hj hp ⟨rfl, hx⟩
        refine ⟨rfl, ?_⟩
        walk_at "rd"
        exact hstep j x _ hx hp
    · rintro H1 ⟨hs, hd⟩
      rw [List.length_map, List.take_length] at hd
      refine ⟨_, _, rfl, .inl (sq hd), by omega, fun p1 ys n1 hm nd hlen => ?_⟩
      refine ⟨_, _, rfl, upd_same, by omega, fun zs p2 pm hst n2 => ?_⟩
      refine ⟨_, _, rfl, sq upd_same, fun r o nr od => ?_⟩
      have s3 : Same H (upd (upd (upd H1 p1 (Sx.SetV P w p1 ys)) p2 (.lst (zs.map V.str))) r (.frz o (.tup (zs.map V.str)))) := ((hs.trans (same_new n1)).trans (same_new n2)).trans (same_new nr)
      refine q r _ zs s3 (((hs.trans (same_new n1)).trans (same_new n2)).free nr) ⟨o, upd_same, od⟩ hst (pm.nodup_iff.mpr nd) fun x => ?_
      rw [pm.mem_iff, hm x]
/-! ### ascending names -/
theorem eqv_strs : ∀ (l m : List Str), PyData.eqvAll (l.map PyData.str) (m.map PyData.str) = decide (l = m)
  | [], [] => rfl
  | [], y :: m => rfl
  | x :: l, [] => rfl
  | x :: l, y :: m => by
    show ((x == y) && PyData.eqvAll (l.map PyData.str) (m.map PyData.str)) = _
    rw [eqv_strs l m]
    by_cases h : x = y
    · subst h
      by_cases h2 : l = m
      · subst h2
        simp
      · simp [h2]
    · simp [h]
def ascB (l : List Str) : Bool := decide (l.Pairwise fun x y => x.cps.toList < y.cps.toList)
theorem ascB_iff {l : List Str} : ascB l = true ↔ Asc l := decide_eq_true_iff
def spAsc (K : PySem.W.Frag) : Sp := fun vs H Q _ => ∃ (a : Addr) (ns : List Str), vs = [.ref a] ∧ (SqL K H a (ns.map V.str) ∨ SqT K H a (ns.map V.str)) ∧ ns.length ≤ 1000 ∧ (∀ x ∈ ns, PyData.strOk x = true) ∧ ∀ H', Same H H' → Q (.bl (ascB ns)) H'
theorem ok_is_ascending {f : Addr} {fd : FuncData} (F : Fun K "is_ascending" "is_ascending" s_is_ascending f fd) (m_list : mg "list" = none) (m_set : mg "set" = none) (m_sorted : mg "sorted" = none) : FnOk P w K mg base CX0 1 f fd ["values"] (spAsc K) := by
  refine F.ok sc_is_ascending (fun vs H Q E h => ?_) (fun cdv A outer s H vs Q E hr h => ?_)
  · obtain ⟨a, ns, rfl, _⟩ := h
    rfl
  · obtain ⟨a, ns, rfl, hs, hl, hok, q⟩ := h
    refine ⟨_, (pss_one (ps_ret (pe_cmpR (op_eqD hr.units) (pe_callTy (T := "list") call_list_of (by rfl) m_list (by decide +kernel) (pa_cons (pv 0) pa_nil)) (pe_callB (id := "sorted") (Sx.cr_sortX rfl) (by rfl) m_sorted (by decide +kernel) (pa_cons (pe_callTy (T := "set") (Sx.cr_setX rfl) (by rfl) m_set (by decide +kernel) (pa_cons (pv 0) pa_nil)) pa_nil)) (nomark _)))), ?_⟩
    walk_at "rd"
    refine ⟨_, _, rfl, hs, fun p np => ?_⟩
    have s1 : Same H (upd H p (.lst (ns.map V.str))) := same_new np
    walk_at "rd"
    refine ⟨a, ns, rfl, hs.imp (Same.seq s1) (Bx.Same.tup s1), by omega, fun p2 ys n2 hm nd hlen => ?_⟩
    walk_at "rd"
    have s2 := Same.trans s1 (same_new n2 (o := Sx.SetV P w p2 ys))
    refine ⟨_, ys, rfl, upd_same, by omega, fun zs p3 pm st n3 => ?_⟩
    have s3 := Same.trans s2 (same_new n3 (o := .lst (zs.map V.str)))
    have hp3 := (Same.trans (same_new n2 (o := Sx.SetV P w p2 ys)) (same_new n3 (o := .lst (zs.map V.str)))) p _ upd_same
    have hzm : ∀ x, x ∈ zs ↔ x ∈ ns := fun x => pm.mem_iff.trans (hm x)
    have hza : Asc zs := asc_of st (pm.nodup_iff.mpr nd)
    have l1 : Lay 1 (.list (ns.map PyData.str)) := lay_list (lays_strs hok)
    have l2 : Lay 1 (.list (zs.map PyData.str)) := lay_list (lays_strs fun x hx => hok x ((hzm x).mp hx))
    refine ⟨_, _, .lst (sq hp3) (dp_strs ns), .lst (sq upd_same) (dp_strs zs), shape l1 (by decide), shape l2 (by decide), ?_⟩
    have e : PyData.eqv (.list (ns.map PyData.str)) (.list (zs.map PyData.str)) = ascB ns := by
      show PyData.eqvAll _ _ = _
      rw [eqv_strs]
      by_cases h : Asc ns
      · rw [ascB_iff.mpr h, decide_eq_true (asc_eq h hza fun x => (hzm x).symm)]
      · rw [Bool.eq_false_iff.mpr fun z => h (ascB_iff.mp z), decide_eq_false fun z : ns = zs => h (z ▸ hza)]
    rw [e]
    exact q _ s3
/-! ### is_terms -/
def okT (l : List Tr5) : Bool := ascB (l.map (·.1)) && l.all fun x => decide (x.2 ≠ 0)
@[irreducible] def spIsTerms (K : PySem.W.Frag) : Sp := fun vs H Q _ => ∃ (T : Addr) (zs : List V) (l : List Tr5), vs = [.ref T] ∧ SqT K H T zs ∧ DpAll K H zs (l.map tmD) ∧ l.length ≤ 60 ∧ (∀ x ∈ l, PyData.strOk x.1 = true) ∧ ∀ H', Same H H' → Q (.bl (okT l)) H'
theorem ok_is_terms {f : Addr} {fd : FuncData} (F : Fun K "is_terms" "is_terms" s_is_terms f fd) (C_is_ascending : Cal P w K mg base "is_ascending" 1 ["values"] (spAsc K)) (m_all : mg "all" = none) : FnOk P w K mg base CX0 2 f fd ["terms"] (spIsTerms K) := by
  refine F.ok sc_is_terms (fun vs H Q E h => ?_) (fun cdv A outer s H vs Q E hr h => ?_)
  · unfold spIsTerms at h
    obtain ⟨T, zs, l, rfl, _⟩ := h
    rfl
  · unfold spIsTerms at h
    obtain ⟨T, zs, l, rfl, hT, hz, hl, hok, q⟩ := h
    refine ⟨_, (pss_one (ps_ret (pe_and (pe_cal C_is_ascending (hr.mono (by decide)) (pa_cons (pe_lc (own := [("name", 1), ("_", 2)]) (tt := tYes) rfl sc_is_terms.nd (pi_tup (pv 0)) (blkOk_by (N := n_is_terms) (sc := defScope s_is_terms) (by decide +kernel)) (fun _ _ _ _ _ => pg_tupK (K := K) (n := 2) rfl rfl (pgs_cons (pg_name (i := 1) sc_is_terms.nd rfl (Or.inl rfl)) (pgs_cons (pg_name (i := 2) sc_is_terms.nd rfl (Or.inl rfl)) pgs_nil))) (fun _ _ _ _ _ => pts_nil) (fun _ _ _ _ _ => (pv 1))) pa_nil)) (pe_one (pe_callB (id := "all") (cr_all rfl) (by rfl) m_all (by decide +kernel) (pa_cons (pe_lc (own := [("_", 2), ("number", 3)]) (tt := tYes) rfl sc_is_terms.nd (pi_tup (pv 0)) (blkOk_by (N := n_is_terms) (sc := defScope s_is_terms) (by decide +kernel)) (fun _ _ _ _ _ => pg_tupK (K := K) (n := 2) rfl rfl (pgs_cons (pg_name (i := 2) sc_is_terms.nd rfl (Or.inl rfl)) (pgs_cons (pg_name (i := 3) sc_is_terms.nd rfl (Or.inl rfl)) pgs_nil))) (fun _ _ _ _ _ => pts_nil) (fun _ _ _ _ _ => (pe_cmpR op_ne (pv 3) pe_int (nomark _)))) pa_nil)))))), ?_⟩
    walk_at "rd"
    refine ⟨⟨_, hT⟩, fun M nM => ?_⟩
    refine lc_vals hT hz hl (fun x => .str x.1) nM (fun _ _ => rfl) (fun x H' Z _ _ z => ?_) (fun H1 s1 hM => ?_)
    · walk_at "rd"
      exact z
    · have hs : SqL K H1 M ((l.map (·.1)).map V.str) := by
        rw [List.map_map]
        exact sq hM
      refine ⟨M, l.map (·.1), rfl, .inl hs, by rw [List.length_map]; omega, fun y hy => ?_, fun H2 s2 => ?_⟩
      · obtain ⟨x, hx, rfl⟩ := List.mem_map.mp hy
        exact hok x hx
      · have s12 := Same.trans s1 s2
        have hsp := q
        refine ⟨_, rfl, ite2 (fun h0 => ?_) (fun h0 => ?_)⟩
        · walk_at "rd"
          refine ⟨⟨_, Bx.Same.tup s12 hT⟩, fun N nN => ?_⟩
          refine lc_vals (Bx.Same.tup s12 hT) (dpAll_same s12 hz) hl (fun x => .bl (!decide (V.int x.2 = V.int 0))) nN (fun _ _ => rfl) (fun x H' Z _ _ z => ?_) (fun H3 s3 hN => ?_)
          · walk_at "rd"
            exact z
          · refine ⟨N, l.map (fun x : Tr5 => !decide (V.int x.2 = V.int 0)), rfl, sq (by rw [hN, List.map_map]; rfl), ?_⟩
            have e : okT l = (l.map fun x : Tr5 => !decide (V.int x.2 = V.int 0)).all id := by
              unfold okT
              rw [h0, Bool.true_and, List.all_map]
              refine List.all_congr rfl fun x => ?_
              show decide (x.2 ≠ 0) = !decide (V.int x.2 = V.int 0)
              by_cases hx : x.2 = 0
              · rw [hx]
                rfl
              · rw [decide_eq_true hx, decide_eq_false (show ¬ V.int x.2 = V.int 0 from fun z => hx (V.int.inj z))]
                rfl
            rw [← e]
            exact q H3 (Same.trans s12 s3)
        · have e : okT l = false := by
            unfold okT
            rw [Bool.eq_false_iff.mpr h0, Bool.false_and]
          have := q H2 s12
          rw [e] at this
          exact this
/-! ### constraints -/
structure Con where
  t : List Tr5
  m : Int
  r : Int
def coD (c : Con) : PyData := .tuple [.tuple (c.t.map tmD), .int c.m, .int c.r]
theorem co_dp {H : Hp} {v : V} {c : Con} (h : Dp K H v (coD c)) : ∃ p a zs, v = .ref p ∧ SqT K H p [.ref a, .int c.m, .int c.r] ∧ SqT K H a zs ∧ DpAll K H zs (c.t.map tmD) := by
  obtain ⟨p, xs, rfl, s, t⟩ := dp_tup h
  cases t with
  | cons h1 t =>
  cases t with
  | cons h2 t =>
  cases t with
  | cons h3 t =>
    cases t
    obtain ⟨a, zs, rfl, ha, hz⟩ := dp_tup h1
    rw [dp_int h2, dp_int h3] at s
    exact ⟨p, a, zs, rfl, s, ha, hz⟩
theorem dp_co {H : Hp} {p a : Addr} {zs : List V} {c : Con} (hp : SqT K H p [.ref a, .int c.m, .int c.r]) (ha : SqT K H a zs) (hz : DpAll K H zs (c.t.map tmD)) : Dp K H (.ref p) (coD c) := .tup hp (.cons (.tup ha hz) (.cons (.int _) (da_one (.int _))))
def names (c : Con) : List Str := c.t.map (·.1)
@[irreducible] def spNI (K : PySem.W.Frag) : Sp := fun vs H Q _ => ∃ (a p : Addr) (c : Con), vs = [.ref a, .ref p] ∧ Dp K H (.ref p) (coD c) ∧ c.t.length ≤ 60 ∧ ∀ r H', Same H H' → H r = none → H' r = some (.tup ((names c).map V.str)) → Q (.ref r) H'
theorem ok_names_in {f : Addr} {fd : FuncData} (F : Fun K "names_in" "Wholes.names_in" s_Wholes_names_in f fd) (m_tuple : mg "tuple" = none) : FnOk P w K mg base CX0 1 f fd ["self", "constraint"] (spNI K) := by
  refine F.ok sc_Wholes_names_in (fun vs H Q E h => ?_) (fun cdv A outer s H vs Q E hr h => ?_)
  · unfold spNI at h
    obtain ⟨a, p, c, rfl, _⟩ := h
    rfl
  · unfold spNI at h
    obtain ⟨a, p, c, rfl, hp, hl, q⟩ := h
    obtain ⟨p', b, zs, ep, h3, hb, hz⟩ := co_dp hp
    cases ep
    refine ⟨_, (pss_one (ps_ret (pe_callTy (T := "tuple") call_tuple_of (by rfl) m_tuple (by decide +kernel) (pa_cons (pe_lc (own := [("name", 2), ("_", 3)]) (tt := tYes) rfl sc_Wholes_names_in.nd (pi_tup (pe_ix ix_tup (pv 1) pe_int (fun _ _ => rfl))) (blkOk_by (N := n_Wholes_names_in) (sc := defScope s_Wholes_names_in) (by decide +kernel)) (fun _ _ _ _ _ => pg_tupK (K := K) (n := 2) rfl rfl (pgs_cons (pg_name (i := 2) sc_Wholes_names_in.nd rfl (Or.inl rfl)) (pgs_cons (pg_name (i := 3) sc_Wholes_names_in.nd rfl (Or.inl rfl)) pgs_nil))) (fun _ _ _ _ _ => pts_nil) (fun _ _ _ _ _ => (pv 2))) pa_nil)))), ?_⟩
    walk_at "rd"
    refine ⟨_, _, _, _, rfl, rfl, h3, atI_nat (j := 0) rfl, ?_⟩
    refine ⟨b, rfl, ⟨_, hb⟩, fun M nM => ?_⟩
    refine lc_vals hb hz hl (fun x => .str x.1) nM (fun _ _ => rfl) (fun x H' Z _ _ z => ?_) (fun H1 s1 hM => ?_)
    · walk_at "rd"
      exact z
    · walk_at "rd"
      refine ⟨M, _, rfl, .inl ⟨sq hM, fun r nr => ?_⟩⟩
      refine q r _ (Same.trans s1 (same_new nr)) (s1.free nr) ?_
      rw [upd_same]
      unfold names
      rw [List.map_map]
      rfl
/-- Kind's: all names that are mentioned stand among these -/
@[irreducible] def spKV (K : PySem.W.Frag) (C : Addr) : Sp := fun vs H Q _ => ∃ (a dx t p : Addr) (fs : List (Str × V)) (ns : List Str) (c : Con), vs = [.ref a, .ref t, .ref p] ∧ H a = some (.ins C dx fs) ∧ fs.lookup ("names_in" : Str) = none ∧ SqT K H t (ns.map V.str) ∧ Dp K H (.ref p) (coD c) ∧ c.t.length ≤ 60 ∧
  ∀ H', Same H H' → Q (.bl ((names c).all fun z => decide (z ∈ ns))) H'
theorem flat_strs (ns : List Str) : (ns.map V.str).all flatV = true := List.all_eq_true.mpr fun v hv => by
  obtain ⟨n, _, rfl⟩ := List.mem_map.mp hv
  rfl
theorem ok_kind_valid {C : Addr} {f : Addr} {fd : FuncData} (F : Fun K "is_valid" "Kind.is_valid" s_Kind_is_valid f fd) (m_all : mg "all" = none) (M_names_in : MthC P w K mg base C "names_in" 1 ["self", "constraint"] (spNI K)) : FnOk P w K mg base CX0 2 f fd ["self", "names", "constraint"] (spKV K C) := by
  refine F.ok sc_Kind_is_valid (fun vs H Q E h => ?_) (fun cdv A outer s H vs Q E hr h => ?_)
  · unfold spKV at h
    obtain ⟨a, dx, t, p, fs, ns, c, rfl, _⟩ := h
    rfl
  · unfold spKV at h
    obtain ⟨a, dx, t, p, fs, ns, c, rfl, ha, hn, ht, hp, hl, q⟩ := h
    have nl : (names c).length ≤ 60 := by unfold names; rw [List.length_map]; exact hl
    refine ⟨_, (pss_one (ps_ret (pe_callB (id := "all") (cr_all rfl) (by rfl) m_all (by decide +kernel) (pa_cons (pe_lc (own := [("name", 3)]) (tt := tYes) rfl sc_Kind_is_valid.nd (pi_tup (pe_mth M_names_in (hr.mono (by decide)) (pv 0) (pa_cons (pv 2) pa_nil))) (blkOk_by (N := n_Kind_is_valid) (sc := defScope s_Kind_is_valid) (by decide +kernel)) (fun _ _ _ _ _ => pg_name (i := 3) sc_Kind_is_valid.nd rfl (Or.inl rfl)) (fun _ _ _ _ _ => pts_nil) (fun _ _ _ _ _ => (pe_cmpR (op_in_seqK (K := K) rfl) (pv 3) (pv 1) (by rfl)))) pa_nil)))), ?_⟩
    walk_at "rd"
    refine ⟨a, dx, _, rfl, ha, hn, ?_⟩
    walk_at "rd"
    show spNI K _ _ _ _
    unfold spNI
    refine ⟨a, p, c, rfl, hp, hl, fun r H1 s1 nr hr1 => ?_⟩
    refine ⟨r, rfl, ⟨_, sqt hr1⟩, fun D hD => ?_⟩
    have ht1 := Bx.Same.tup s1 ht
    generalize names c = zs at q nl hr1 ⊢
    refine lc_it walk_tup (fun i H' => H' = upd H1 D (.lst ((zs.take i).map fun z => V.bl (decide (z ∈ ns))))) rfl (fun i H' _ e => e ▸ Bx.Same.tup (same_new hD) (sqt hr1)) ?_ ?_
    · rintro i v H2 H3 hi rfl ⟨rfl, hx⟩
      obtain ⟨z, hz, rfl⟩ := at_map hx
      refine ⟨rfl, ?_⟩
      walk_at "rd"
      refine ⟨t, _, rfl, .inr (Bx.Same.tup (same_new hD) ht1), rfl, flat_strs ns, ?_⟩
      rw [inV_str]
      walk_at "rd"
      refine ⟨_, upd_same, ?_, ?_⟩
      · rw [List.length_map]
        exact szl (Nat.lt_of_le_of_lt (List.length_take_le' i _) (by omega))
      · rw [upd_upd, List.take_add_one, hz, List.map_append]
        rfl
    rintro H2 rfl
    have sM := same_new hD (o := .lst ((zs.take (zs.map V.str).length).map fun z => V.bl (decide (z ∈ ns))))
    have hM : (upd H1 D (.lst ((zs.take (zs.map V.str).length).map fun z => V.bl (decide (z ∈ ns))))) D = some (.lst ((zs.map fun z => decide (z ∈ ns)).map V.bl)) := by
      rw [upd_same, List.length_map, List.take_length, List.map_map]
      rfl
    generalize upd H1 D (.lst ((zs.take (zs.map V.str).length).map fun z => V.bl (decide (z ∈ ns)))) = H2 at sM hM ⊢
    refine ⟨_, zs.map (fun z => decide (z ∈ ns)), rfl, sq hM, ?_⟩
    have e2 : (zs.map fun z => decide (z ∈ ns)).all id = zs.all fun z => decide (z ∈ ns) := by
      rw [List.all_map]
      rfl
    rw [e2]
    exact q _ (Same.trans s1 sM)
end
end K31
namespace K31
local macro_rules | `(tactic| walk_at "rd") => `(tactic| repeat (first | refine ⟨rfl, ?_⟩ | refine ⟨_, rfl, ?_⟩ | refine ⟨_, _, rfl, rfl, ?_⟩ | refine ⟨⟨_, rfl⟩, ?_⟩))
open PySem PySem.Spec PyProof.Rows L2 Bx TL Dx Zx Ow Sup NdefX Px T31
theorem abase_call1 {attr id : Str} {e : Expr} {p pos : Pos} {env : Env} {whole : Sem Value} : attributeBase (.Call (.Name id p) [e] [] pos) attr env whole = whole := by
  unfold attributeBase
  first
    | rfl
    | (simp only [bind_pure]; done)
    | (split <;> first | rfl | simp_all)
theorem bare_new {H : Hp} {C k dk : Addr} (nk : H k = none) (nd : H dk = none) (ne : dk ≠ k) : Same H (upd (upd H dk (.own k)) k (.ins C dk [])) ∧ (upd (upd H dk (.own k)) k (.ins C dk [])) k = some (.ins C dk []) :=
  ⟨Same.trans (same_new nd) (same_new (by rw [upd_ne (Ne.symm ne)]; exact nk)), upd_same⟩
theorem fS_no1 (t : Addr) : (fS t).lookup ("at" : Str) = none := by
  have e : (("at" : Str) == ("terms" : Str)) = false := by decide +kernel
  simp only [fS, List.lookup, e]
theorem fS_no2 (t : Addr) : (fS t).lookup ("renamed" : Str) = none := by
  have e : (("renamed" : Str) == ("terms" : Str)) = false := by decide +kernel
  simp only [fS, List.lookup, e]
theorem tms_in {ps : List Tr5} {x : Tr5} (h : x ∈ tms ps) : x.1 ∈ ps.map (·.1) := by
  apply Classical.byContradiction
  intro n
  have z := tms_mem h
  exact z.2 (by rw [z.1, coef_none n])
/-- a constraint of the law -/
structure Ok (c : Con) : Prop where
  i5 : In5 c.t
  sm : ∀ x ∈ c.t, x.2.natAbs ≤ 9
  ln : c.t.length ≤ 10
  m0 : 0 ≤ c.m
  m1 : c.m ≤ 12
  r : c.r.natAbs ≤ 99
theorem big_of {ps : List Tr5} (sm : ∀ x ∈ ps, x.2.natAbs ≤ 9) (ln : ps.length ≤ 10) : Big ps := fun x hx => by
  have z := coef_size sm x.1
  rw [(tms_mem hx).1]
  have : ps.length * 9 ≤ 10 * 9 := Nat.mul_le_mul_right _ ln
  omega
def hB (g : Str → Int) (c : Con) : Bool := decide (c.m ∣ lin g c.t - c.r)
/-- the values at d of these names -/
def VAt (H : Hp) (d : Addr) (g : Str → Int) (zs : List Str) : Prop := ∃ kvs : List (Key × V), H d = some (.dK kvs) ∧ ∀ z ∈ zs, valV kvs (Sum.inr z) = some (.int (g z)) ∧ (g z).natAbs < 2 ^ 41
theorem VAt.same {H H' : Hp} {d : Addr} {g : Str → Int} {zs : List Str} (s : Same H H') : VAt H d g zs → VAt H' d g zs := fun ⟨kvs, h, v⟩ => ⟨kvs, s _ _ h, v⟩
theorem VAt.sub {H : Hp} {d : Addr} {g : Str → Int} {zs ys : List Str} (h : ∀ y ∈ ys, y ∈ zs) : VAt H d g zs → VAt H d g ys := fun ⟨kvs, h1, v⟩ => ⟨kvs, h1, fun z hz => v z (h z hz)⟩
theorem lin_size {g : Str → Int} : ∀ {ps : List Tr5}, (∀ x ∈ ps, x.2.natAbs ≤ 9 ∧ (g x.1).natAbs < 2 ^ 41) → (lin g ps).natAbs ≤ ps.length * (9 * 2 ^ 41)
  | [], _ => Nat.zero_le _
  | x :: ps, h => by
    have ih := lin_size (g := g) (fun y hy => h y (List.mem_cons_of_mem _ hy)) (ps := ps)
    obtain ⟨h1, h2⟩ := h x List.mem_cons_self
    have h3 : (g x.1 * x.2).natAbs ≤ 2 ^ 41 * 9 := by
      rw [Int.natAbs_mul]
      exact Nat.mul_le_mul (Nat.le_of_lt h2) h1
    have h4 := Int.natAbs_add_le (g x.1 * x.2) (lin g ps)
    rw [lin_cons, List.length_cons, Nat.succ_mul]
    omega
section
variable {P : Program} {w : World} {K : PySem.W.Frag} {mg : Str → Option Value} {base : Heap}
@[irreducible] def spMult : Sp := fun vs H Q _ => ∃ n m : Int, vs = [.int n, .int m] ∧ 0 ≤ m ∧ Q (.bl (decide (m ∣ n))) H
theorem ok_multiple {f : Addr} {fd : FuncData} (F : Fun K "_is_multiple" "_is_multiple" s__is_multiple f fd) : FnOk P w K mg base CX0 1 f fd ["number", "modulus"] spMult := by
  refine F.ok sc__is_multiple (fun vs H Q E h => ?_) (fun cdv A outer s H vs Q E hr h => ?_)
  · unfold spMult at h
    obtain ⟨n, m, rfl, _⟩ := h
    rfl
  · unfold spMult at h
    obtain ⟨n, m, rfl, m0, q⟩ := h
    refine ⟨_, (pss_one (ps_ret (pe_ifExp (pt_cmpR op_eq (pv 1) pe_int (nomark _)) (pe_cmpR op_eq (pv 0) pe_int (nomark _)) (pe_cmpR op_eq (pe_op op_mod (pv 0) (pv 1)) pe_int (nomark _))))), ?_⟩
    walk_at "rd"
    refine ite2 (fun h0 => ?_) (fun h0 => ?_)
    · have e := int_t h0
      subst e
      walk_at "rd"
      rw [show decide (V.int n = V.int 0) = decide ((0 : Int) ∣ n) from decide_eq_decide.mpr ⟨fun z => by rw [V.int.inj z]; exact Int.dvd_zero 0, fun z => by rw [Int.zero_dvd.mp z]⟩]
      exact q
    · have e := int_f h0
      walk_at "rd"
      refine ⟨by omega, ?_⟩
      walk_at "rd"
      rw [show decide (V.int (n % m) = V.int 0) = decide (m ∣ n) from by rw [Bool.eq_iff_iff, dvd_dec (show m ≠ 0 from e), decide_eq_true_iff]]
      exact q
@[irreducible] def spHolds (K : PySem.W.Frag) : Sp := fun vs H Q _ => ∃ (a p d : Addr) (c : Con) (g : Str → Int), vs = [.ref a, .ref p, .ref d] ∧ Dp K H (.ref p) (coD c) ∧ Ok c ∧ VAt H d g (names c) ∧ ∀ H', Same H H' → Q (.bl (hB g c)) H'
theorem ok_holds {CS : Addr} {f : Addr} {fd : FuncData} (F : Fun K "holds" "Wholes.holds" s_Wholes_holds f fd) (K_Sum : MkS P w K mg base CS) (S_at : MthC P w K mg base CS "at" 1 ["self", "assignment"] (spAt K CS)) (C__is_multiple : Cal P w K mg base "_is_multiple" 1 ["number", "modulus"] spMult) : FnOk P w K mg base CX0 4 f fd ["self", "constraint", "assignment"] (spHolds K) := by
  refine F.ok sc_Wholes_holds (fun vs H Q E h => ?_) (fun cdv A outer s H vs Q E hr h => ?_)
  · unfold spHolds at h
    obtain ⟨a, p, d, c, g, rfl, _⟩ := h
    rfl
  · unfold spHolds at h
    obtain ⟨a, p, d, c, g, rfl, hp, ok, hv, q⟩ := h
    obtain ⟨p', b, zs, ep, h3, hb, hz⟩ := co_dp hp
    cases ep
    refine ⟨_, (pss_cons (ps_asg (pv 1) (pg_tup rfl (pgs_cons (pg_name (i := 3) sc_Wholes_holds.nd rfl (Or.inl rfl)) (pgs_cons (pg_name (i := 4) sc_Wholes_holds.nd rfl (Or.inl rfl)) (pgs_cons (pg_name (i := 5) sc_Wholes_holds.nd rfl (Or.inl rfl)) pgs_nil)))))
    (pss_one (ps_ret (pe_cal C__is_multiple (hr.mono (by decide)) (pa_cons (pe_op op_sub (pe_mth S_at (hr.mono (by decide)) (pe_mak K_Sum (hr.mono (by decide)) (pa_cons (pv 3) pa_nil)) (pa_cons (pv 2) pa_nil) (ht := mcall_of abase_call1 (fun _ => rfl))) (pv 5)) (pa_cons (pv 4) pa_nil)))))), ?_⟩
    walk_at "rd"
    refine ⟨_, _, rfl, h3, rfl, _, _, rfl, _, _, rfl, _, _, rfl, rfl, ?_⟩
    walk_at "rd"
    refine fun x dx0 n1 n2 n3 => ?_
    have u1 := (bare_new (C := CS) n1 n2 n3).1
    show spInit K CS _ _ _ _
    unfold spInit
    refine ⟨x, dx0, .ref b, c.t, rfl, upd_same, (TmAt.same u1 (.inr (.tup hb hz))), ok.i5, (by have := ok.ln; omega), fun H1 hx sb => ⟨rfl, ?_⟩⟩
    have s1 : Same H H1 := fun b o e => sb b o (ne_of_none e n1) (u1 b o e)
    obtain ⟨dx, t, ys, e1, e2, e3⟩ := id hx
    refine ⟨x, dx, _, rfl, e1, fS_no1 t, ?_⟩
    walk_at "rd"
    show spAt K CS _ _ _ _
    unfold spAt
    obtain ⟨kvs, hd, val⟩ := id hv
    have nm : ∀ y ∈ tms c.t, y.1 ∈ names c := fun y hy => tms_in hy
    refine ⟨x, d, c.t, kvs, g, rfl, hx, big_of ok.sm ok.ln, s1 _ _ hd, fun y hy => ⟨(val _ (nm y hy)).1, Nat.lt_of_lt_of_le (val _ (nm y hy)).2 (Nat.pow_le_pow_right (by decide) (by decide))⟩, fun H2 s2 => ?_⟩
    rw [lin_tms _ ok.i5]
    walk_at "rd"
    show spMult _ _ _ _
    unfold spMult
    exact ⟨_, _, rfl, ok.m0, q H2 (s1.trans s2)⟩
@[irreducible] def spContr (K : PySem.W.Frag) : Sp := fun vs H Q _ => ∃ a : Addr, vs = [.ref a] ∧ ∀ r H', Same H H' → Dp K H' (.ref r) (.tuple [.tuple [], .int 0, .int 1]) → Q (.ref r) H'
theorem ok_contr {f : Addr} {fd : FuncData} (F : Fun K "contradiction" "Wholes.contradiction" s_Wholes_contradiction f fd) : FnOk P w K mg base CX0 1 f fd ["self"] (spContr K) := by
  refine F.ok sc_Wholes_contradiction (fun vs H Q E h => ?_) (fun cdv A outer s H vs Q E hr h => ?_)
  · unfold spContr at h
    obtain ⟨a, rfl, _⟩ := h
    rfl
  · unfold spContr at h
    obtain ⟨a, rfl, q⟩ := h
    refine ⟨_, (pss_one (ps_ret (pe_tup (pa_cons (pe_tup pa_nil) (pa_cons pe_int (pa_cons pe_int pa_nil)))))), ?_⟩
    walk_at "rd"
    refine ⟨sz (by decide), fun t nt => ?_⟩
    have s1 := same_new nt (o := .tup ([] : List V))
    have ht := upd_same (H := H) (a := t) (o := .tup ([] : List V))
    generalize upd H t (.tup []) = H1 at s1 ht ⊢
    walk_at "rd"
    refine ⟨sz (by show 3 ≤ 100000; decide), fun r nr => ?_⟩
    have s2 := same_new nr (o := .tup [.ref t, .int 0, .int 1])
    exact q r _ (s1.trans s2) (.tup (sqt upd_same) (.cons (.tup (Bx.Same.tup s2 (sqt ht)) .nil) (.cons (.int _) (da_one (.int _)))))
theorem da_co {H : Hp} : ∀ {xs : List V} {cs : List Con}, DpAll K H xs (cs.map coD) → ∀ {i : Nat} {v : V}, xs[i]? = some v → ∃ c, cs[i]? = some c ∧ Dp K H v (coD c)
  | _, [], h, i, v, e => by
    cases h
    cases e
  | _, c :: cs, h, i, v, e => by
    cases h with
    | cons h1 h2 =>
      cases i with
      | zero =>
        cases e
        exact ⟨c, rfl, h1⟩
      | succ i => exact da_co h2 e
/-- the theory at T: names ns, constraints cs -/
structure Th (K : PySem.W.Frag) (H : Hp) (T na ca : Addr) (xs : List V) (ns : List Str) (cs : List Con) : Prop where
  t : SqT K H T [.ref na, .ref ca]
  n : SqT K H na (ns.map V.str)
  c : SqT K H ca xs
  d : DpAll K H xs (cs.map coD)
theorem Th.same {H H' : Hp} {T na ca : Addr} {xs : List V} {ns : List Str} {cs : List Con} (s : Same H H') (h : Th K H T na ca xs ns cs) : Th K H' T na ca xs ns cs := ⟨Bx.Same.tup s h.t, Bx.Same.tup s h.n, Bx.Same.tup s h.c, dpAll_same s h.d⟩
@[irreducible] def spSat (K : PySem.W.Frag) (C : Addr) : Sp := fun vs H Q _ => ∃ (a dx T na ca d : Addr) (fs : List (Str × V)) (xs : List V) (ns : List Str) (cs : List Con) (g : Str → Int), vs = [.ref a, .ref T, .ref d] ∧ H a = some (.ins C dx fs) ∧ fs.lookup ("holds" : Str) = none ∧ Th K H T na ca xs ns cs ∧ cs.length ≤ 1000 ∧ (∀ c ∈ cs, Ok c ∧ VAt H d g (names c)) ∧ ∀ H', Same H H' → Q (.bl (cs.all (hB g))) H'
theorem ok_satisfies {C : Addr} {f : Addr} {fd : FuncData} (F : Fun K "satisfies" "satisfies" s_satisfies f fd) (m_all : mg "all" = none) (M_holds : MthC P w K mg base C "holds" 4 ["self", "constraint", "assignment"] (spHolds K)) : FnOk P w K mg base CX0 5 f fd ["kind", "theory", "assignment"] (spSat K C) := by
  refine F.ok sc_satisfies (fun vs H Q E h => ?_) (fun cdv A outer s H vs Q E hr h => ?_)
  · unfold spSat at h
    obtain ⟨a, dx, T, na, ca, d, fs, xs, ns, cs, g, rfl, _⟩ := h
    rfl
  · unfold spSat at h
    obtain ⟨a, dx, T, na, ca, d, fs, xs, ns, cs, g, rfl, ha, hn, th, hcl, kn, q⟩ := h
    refine ⟨_, (pss_one (ps_ret (pe_callB (id := "all") (cr_all rfl) (by rfl) m_all (by decide +kernel) (pa_cons (pe_lc (own := [("constraint", 3)]) (tt := tYes) rfl sc_satisfies.nd (pi_tup (pe_ix ix_tup (pv 1) pe_int (fun _ _ => rfl))) (blkOk_by (N := n_satisfies) (sc := defScope s_satisfies) (by decide +kernel)) (fun _ _ _ _ _ => pg_name (i := 3) sc_satisfies.nd rfl (Or.inl rfl)) (fun _ _ _ _ _ => pts_nil) (fun _ _ _ _ _ => (pe_mth M_holds (hr.mono (by decide)) (pv 0) (pa_cons (pv 3) (pa_cons (pv 2) pa_nil))))) pa_nil)))), ?_⟩
    walk_at "rd"
    refine ⟨_, _, _, _, rfl, rfl, th.t, atI_nat (j := 1) rfl, ?_⟩
    have xl : xs.length = cs.length := by rw [da_len th.d, List.length_map]
    refine ⟨ca, rfl, ⟨_, th.c⟩, fun D hD => ?_⟩
    refine lc_it walk_tup (fun i H' => Same H H' ∧ H' D = some (.lst ((cs.take i).map fun c => V.bl (hB g c)))) ⟨same_new hD, upd_same⟩ (fun i H' _ h => Bx.Same.tup h.1 th.c) ?_ ?_
    · rintro i v H2 H3 hi ⟨s3, hM⟩ ⟨rfl, hx⟩
      obtain ⟨c, hc, dc⟩ := da_co th.d hx
      obtain ⟨p, _, _, rfl, _⟩ := co_dp dc
      refine ⟨rfl, ?_⟩
      walk_at "rd"
      refine ⟨a, dx, _, rfl, s3 _ _ ha, hn, ?_⟩
      walk_at "rd"
      show spHolds K _ _ _ _
      unfold spHolds
      obtain ⟨k1, k2⟩ := kn c (List.mem_of_getElem? hc)
      refine ⟨a, p, d, c, g, rfl, dp_same s3 dc, k1, k2.same s3, fun H4 s4 => ?_⟩
      refine ⟨_, s4 _ _ hM, ?_, same_at hD (s3.trans s4), ?_⟩
      · rw [List.length_map]
        exact szl (Nat.lt_of_le_of_lt (List.length_take_le' i cs) (by omega))
      · rw [upd_same, List.take_add_one, hc, List.map_append]
        rfl
    rintro H2 ⟨s2, hM⟩
    rw [xl, List.take_length] at hM
    have hM' : H2 D = some (.lst ((cs.map (hB g)).map V.bl)) := by
      rw [hM, List.map_map]
      rfl
    refine ⟨_, cs.map (hB g), rfl, sq hM', ?_⟩
    have e2 : (cs.map (hB g)).all id = cs.all (hB g) := by
      rw [List.all_map]
      rfl
    rw [e2]
    exact q _ s2
@[irreducible] def spGround (K : PySem.W.Frag) (C : Addr) : Sp := fun vs H Q _ => ∃ (a dx T na ca : Addr) (fs : List (Str × V)) (xs : List V) (ns : List Str) (cs : List Con), vs = [.ref a, .ref T] ∧ H a = some (.ins C dx fs) ∧ fs.lookup ("holds" : Str) = none ∧ Th K H T na ca xs ns cs ∧ cs.length ≤ 1000 ∧ (∀ c ∈ cs, Ok c ∧ c.t = []) ∧
  (cs.all (hB fun _ => 0) = true → ∀ r H', Same H H' → H' r = some (.dK []) → Q (.ref r) H') ∧ (cs.all (hB fun _ => 0) = false → ∀ H', Same H H' → Q .non H')
theorem ok_ground {C : Addr} {f : Addr} {fd : FuncData} (F : Fun K "ground" "Wholes.ground" s_Wholes_ground f fd) (C_satisfies : Cal P w K mg base "satisfies" 5 ["kind", "theory", "assignment"] (spSat K C)) : FnOk P w K mg base CX0 6 f fd ["self", "theory"] (spGround K C) := by
  refine F.ok sc_Wholes_ground (fun vs H Q E h => ?_) (fun cdv A outer s H vs Q E hr h => ?_)
  · unfold spGround at h
    obtain ⟨a, dx, T, na, ca, fs, xs, ns, cs, rfl, _⟩ := h
    rfl
  · unfold spGround at h
    obtain ⟨a, dx, T, na, ca, fs, xs, ns, cs, rfl, ha, hn, th, hcl, kn, q1, q2⟩ := h
    refine ⟨_, (pss_one (ps_ret (pe_ifExp (pt_val (pe_cal C_satisfies (hr.mono (by decide)) (pa_cons (pv 0) (pa_cons (pv 1) (pa_cons pe_dnewK pa_nil))))) pe_dnewK pe_non))), ?_⟩
    walk_at "rd"
    refine fun d nd => ?_
    have s1 := same_new nd (o := .dK [])
    have hd := upd_same (H := H) (a := d) (o := .dK [])
    generalize upd H d (.dK []) = H1 at s1 hd ⊢
    walk_at "rd"
    show spSat K C _ _ _ _
    unfold spSat
    refine ⟨a, dx, T, na, ca, d, fs, xs, ns, cs, fun _ => 0, rfl, s1 _ _ ha, hn, th.same s1, hcl, fun c hc => ⟨(kn c hc).1, [], hd, fun z hz => ?_⟩, fun H2 s2 => ?_⟩
    · unfold names at hz
      rw [(kn c hc).2] at hz
      exact nomatch hz
    · have s02 := s1.trans s2
      cases e : cs.all (hB fun _ => 0) with
      | true =>
        walk_at "rd"
        intro r nr
        exact q1 e r _ (s02.trans (same_new nr)) upd_same
      | false =>
        walk_at "rd"
        exact q2 e H2 s02
end
end K31
namespace M31
theorem cop_dvd {m c x : Int} (h : Int.gcd c m = 1) (d : m ∣ c * x) : m ∣ x := by
  have e : Int.gcd m c = 1 := by rw [Int.gcd_comm]; exact h
  obtain ⟨u, v, b⟩ := bez m c
  rw [e] at b
  have z : x = (u * x) * m + v * (c * x) := by
    have : x = (u * m + v * c) * x := by rw [← b]; simp
    rw [Int.add_mul] at this
    rw [Int.mul_right_comm u x m, ← Int.mul_assoc v c x]
    exact this
  rw [z]
  exact Int.dvd_add (Int.dvd_mul_left _ _) (Int.dvd_trans d (Int.dvd_mul_left _ _))
theorem solved_iff {c m r a b : Int} (s : Solved c m r a b) (h : (Int.gcd c m : Int) ∣ r) (x : Int) : m ∣ c * x - r ↔ a ∣ x - b := by
  by_cases g0 : Int.gcd c m = 0
  · obtain ⟨rfl, rfl⟩ := Int.gcd_eq_zero_iff.mp g0
    obtain ⟨rfl, rfl⟩ := s.z g0
    have r0 : r = 0 := by
      rw [g0] at h
      exact Int.zero_dvd.mp h
    subst r0
    exact ⟨fun _ => Int.one_dvd _, fun _ => by simp⟩
  · have ea := s.q g0
    have gm := Int.gcd_dvd_right c m
    have gc := Int.gcd_dvd_left c m
    have cop : Int.gcd (c / (Int.gcd c m : Int)) (m / (Int.gcd c m : Int)) = 1 := Int.gcd_ediv_gcd_ediv_gcd (Nat.pos_of_ne_zero g0)
    have gp : (Int.gcd c m : Int) ≠ 0 := by omega
    have key : m ∣ c * x - r ↔ m ∣ c * (x - b) := by
      have e : c * x - r = c * (x - b) + (c * b - r) := by rw [Int.mul_sub]; omega
      rw [e]
      exact (Int.dvd_add_left s.f)
    rw [key, ea]
    generalize hg : (Int.gcd c m : Int) = g at *
    obtain ⟨c', rfl⟩ := gc
    obtain ⟨m', rfl⟩ := gm
    rw [Int.mul_ediv_cancel_left _ gp] at cop ⊢
    rw [Int.mul_ediv_cancel_left _ gp] at cop
    rw [Int.mul_assoc]
    constructor
    · intro d
      exact cop_dvd cop (Int.dvd_of_mul_dvd_mul_left gp d)
    · intro d
      exact Int.mul_dvd_mul_left g (Int.dvd_trans d (Int.dvd_mul_left _ _))
theorem solved_no {c m r : Int} (h : ¬ (Int.gcd c m : Int) ∣ r) (x : Int) : ¬ m ∣ c * x - r := fun d => h (by
  have a := Int.dvd_trans (Int.gcd_dvd_right c m) d
  have b : (Int.gcd c m : Int) ∣ c * x := Int.dvd_trans (Int.gcd_dvd_left c m) (Int.dvd_mul_right _ _)
  have e := Int.dvd_sub b a
  rw [show c * x - (c * x - r) = r by omega] at e
  exact e)
end M31
namespace K31
local macro_rules | `(tactic| walk_at "rd") => `(tactic| repeat (first | refine ⟨rfl, ?_⟩ | refine ⟨_, rfl, ?_⟩ | refine ⟨_, _, rfl, rfl, ?_⟩ | refine ⟨⟨_, rfl⟩, ?_⟩))
open PySem PySem.Spec PyProof.Rows L2 Bx TL Dx Zx Ow Sup NdefX Px T31 M31
/-! ### one name free -/
def others (t : List Tr5) (z : Str) : List Tr5 := t.filter fun x => decide (x.1 ≠ z)
def lOf (g : Str → Int) (c : Con) (z : Str) : Int := c.r - lin g (others c.t z)
def Fz (g : Str → Int) (z : Str) (cs : List Con) (x : Int) : Prop := ∀ c ∈ cs, c.m ∣ coef c.t z * x - lOf g c z
def PsOf (g : Str → Int) (z : Str) : List Con → List (Int × Int) → Prop := Paired fun c p => Solved (coef c.t z) c.m (lOf g c z) p.1 p.2 ∧ (Int.gcd (coef c.t z) c.m : Int) ∣ lOf g c z
theorem ps_fits {g : Str → Int} {z : Str} {cs : List Con} {ps : List (Int × Int)} (h : PsOf g z cs ps) (x : Int) : (∀ p ∈ ps, p.1 ∣ x - p.2) ↔ Fz g z cs x := by
  unfold Fz
  unfold PsOf at h
  induction h with
  | nil => exact ⟨fun _ c hc => (nomatch hc), fun _ p hp => (nomatch hp)⟩
  | @cons c p cs ps h t ih =>
    rw [List.forall_mem_cons, List.forall_mem_cons, ih, solved_iff h.1 h.2 x]
theorem ps_app {g : Str → Int} {z : Str} {cs : List Con} {ps : List (Int × Int)} {c : Con} {p : Int × Int} (h : PsOf g z cs ps) (k : Solved (coef c.t z) c.m (lOf g c z) p.1 p.2 ∧ (Int.gcd (coef c.t z) c.m : Int) ∣ lOf g c z) : PsOf g z (cs ++ [c]) (ps ++ [p]) := by
  unfold PsOf at h ⊢
  induction h with
  | nil => exact .cons k .nil
  | cons h t ih => exact .cons h ih
theorem coef_le {c : Con} (ok : Ok c) (z : Str) : (coef c.t z).natAbs ≤ 90 := by
  have a := coef_size ok.sm z
  have : c.t.length * 9 ≤ 10 * 9 := Nat.mul_le_mul_right _ ok.ln
  omega
theorem l_size {g : Str → Int} {c : Con} {z : Str} (ok : Ok c) (hg : ∀ x ∈ others c.t z, (g x.1).natAbs < 2 ^ 41) : (lOf g c z).natAbs < 2 ^ 50 := by
  have a := lin_size (g := g) (ps := others c.t z) fun x hx => ⟨ok.sm x (List.mem_filter.mp hx).1, hg x hx⟩
  have b : (others c.t z).length ≤ 10 := Nat.le_trans (List.length_filter_le _ _) ok.ln
  have d : (others c.t z).length * (9 * 2 ^ 41) ≤ 10 * (9 * 2 ^ 41) := Nat.mul_le_mul_right _ b
  have r := ok.r
  unfold lOf
  omega
/-- what solve_one gives is small -/
theorem sol_size {f m l a b : Int} (s : Solved f m l a b) (h : (Int.gcd f m : Int) ∣ l) (m0 : 0 ≤ m) (m1 : m ≤ 12) (hl : l.natAbs < 2 ^ 50) : 0 ≤ a ∧ a < 2 ^ 20 ∧ b.natAbs < 2 ^ 60 := by
  by_cases g0 : Int.gcd f m = 0
  · obtain ⟨rfl, rfl⟩ := s.z g0
    exact ⟨by decide, by decide, by decide⟩
  · have ea := s.q g0
    have a0 : 0 ≤ a := by rw [ea]; exact Int.ediv_nonneg m0 (by omega)
    have a1 : a ≤ m := by rw [ea]; exact Int.ediv_le_self _ m0
    refine ⟨a0, by omega, ?_⟩
    rcases s.p with h0 | h0
    · have hm : m = 0 := by
        have := ediv_mul (Int.gcd_dvd_right f m)
        rw [← ea, h0] at this
        omega
      have fz := s.f
      rw [hm, Int.zero_dvd] at fz
      have hf : f ≠ 0 := fun z => g0 (by rw [z, hm]; rfl)
      have e : f * b = l := by omega
      have e2 : f.natAbs * b.natAbs = l.natAbs := by rw [← Int.natAbs_mul, e]
      have e3 : 1 * b.natAbs ≤ f.natAbs * b.natAbs := Nat.mul_le_mul_right _ (by omega)
      omega
    · omega
theorem fit_all {g : Str → Int} {z : Str} {cs : List Con} {ps : List (Int × Int)} (h : PsOf g z cs ps) {x : Int} (hx : Fz g z cs x) : ∀ p ∈ ps, ∀ q ∈ ps, Fit p q := by
  have a := (ps_fits h x).mpr hx
  intro p hp q hq
  have d1 := Int.dvd_trans (Int.gcd_dvd_left p.1 q.1) (a p hp)
  have d2 := Int.dvd_trans (Int.gcd_dvd_right p.1 q.1) (a q hq)
  have d := Int.dvd_sub d2 d1
  rw [show x - q.2 - (x - p.2) = p.2 - q.2 by omega] at d
  exact d
section
variable {P : Program} {w : World} {K : PySem.W.Frag} {mg : Str → Option Value} {base : Heap}
/-- M, R: all solutions -/
def Prog (g : Str → Int) (z : Str) (cs : List Con) (M R : Int) : Prop := (∀ x, Fz g z cs x ↔ M ∣ x - R) ∧ (M = 0 ∨ (0 ≤ R ∧ R < M))
@[irreducible] def spFit (K : PySem.W.Frag) : Sp := fun vs H Q _ => ∃ (ca d : Addr) (z : Str) (xs : List V) (cs : List Con) (g : Str → Int), vs = [.ref ca, .str z, .ref d] ∧ SqT K H ca xs ∧ DpAll K H xs (cs.map coD) ∧ cs.length ≤ 4 ∧ (∀ c ∈ cs, Ok c) ∧ VAt H d g ((cs.map fun c => (others c.t z).map (·.1)).flatten) ∧
  ((∀ x, ¬ Fz g z cs x) → ∀ H', Same H H' → Q .non H') ∧ (∀ M R p H', Prog g z cs M R → Same H H' → H' p = some (tp M R) → Q (.ref p) H')
set_option maxHeartbeats 1000000 in
theorem ok_fitting {CS : Addr} {f : Addr} {fd : FuncData} (F : Fun K "fitting" "fitting" s_fitting f fd) (K_Sum : MkS P w K mg base CS) (S_at : MthC P w K mg base CS "at" 1 ["self", "assignment"] (spAt K CS)) (O___getitem__ : OwM P w K mg base CX0 CS "__getitem__" 1 ["self", "at"] (spGet K CS)) (fi_getitem : ∀ f, PySem.W.findIn K (.ref CS) "__getitem__" = some (some (.ref f)) → PySem.W.fnIn K f = true) (C_solve_one : Cal P w K mg base "solve_one" 2 ["coefficient", "modulus", "rest"] spSolve) (C_meet : CalR P w K mg base "meet" 3 (spMeet K)) : FnOk P w K mg base CX0 4 f fd ["constraints", "name", "assignment"] (spFit K) := by
  refine F.ok sc_fitting (fun vs H Q E h => ?_) (fun cdv A outer s H vs Q E hr h => ?_)
  · unfold spFit at h
    obtain ⟨ca, d, z, xs, cs, g, rfl, _⟩ := h
    rfl
  · unfold spFit at h
    obtain ⟨ca, d, z, xs, cs, g, rfl, hca, dcs, cl, okc, hv, q1, q2⟩ := h
    have xl : xs.length = cs.length := by rw [da_len dcs, List.length_map]
    refine ⟨_, (pss_cons (ps_set (i := 3) sc_fitting.nd rfl (Or.inl rfl) (pe_lst pa_nil))
    (pss_cons (ps_for PassesOwn.never rfl (pi_tup (pv 0)) (pg_tup rfl (pgs_cons (pg_name (i := 4) sc_fitting.nd rfl (Or.inl rfl)) (pgs_cons (pg_name (i := 5) sc_fitting.nd rfl (Or.inl rfl)) (pgs_cons (pg_name (i := 6) sc_fitting.nd rfl (Or.inl rfl)) pgs_nil))))
      (pss_cons (ps_setLc (i := 7) (own := [("term", 9)]) rfl sc_fitting.nd rfl rfl (sw_true rfl rfl rfl (by decide +kernel)) (pi_tup (pv 4)) (blkOk_by (N := n_fitting) (sc := defScope s_fitting) (by decide +kernel)) (fun _ _ _ _ _ => pg_name (i := 9) sc_fitting.nd rfl (Or.inl rfl)) (fun _ _ _ _ _ => pts_one (pt_cmpR op_ne (pe_ix (ix_tupK (K := K) rfl) (pv 9) pe_int (fun _ _ => rfl)) (pv 1) (nomark _))) (fun _ _ _ _ _ => (pv 9)))
    (pss_cons (ps_set (i := 8) sc_fitting.nd rfl (Or.inl rfl) (pe_cal C_solve_one (hr.mono (by decide)) (pa_cons (pe_subO0 O___getitem__ fi_getitem (hr.mono (by decide)) (pe_mak K_Sum (hr.mono (by decide)) (pa_cons (pv 4) pa_nil)) (pv 1)) (pa_cons (pv 5) (pa_cons (pe_op op_sub (pv 6) (pe_mth S_at (hr.mono (by decide)) (pe_mak K_Sum (hr.mono (by decide)) (pa_cons (pv 7) pa_nil)) (pa_cons (pv 2) pa_nil) (ht := mcall_of abase_call1 (fun _ => rfl)))) pa_nil)))))
    (pss_cons (ps_if (pt_cmpR op_isN (pv 8) pe_non (nomark _))
      (pss_one (ps_ret pe_non))
      pss_nil)
    (pss_one (ps_expr (pe_bm PySem.F.plainAttrs_list PySem.F.slot_list_append PySem.F.type_list_append mt_append (pv 3) (pa_cons (pv 8) pa_nil))))))))
    (pss_one (ps_ret (pe_calS C_meet (hr.mono (by decide)) (pv 3)))))), ?_⟩
    walk_at "rd"
    refine ⟨sz (by decide), fun L nL => ?_⟩
    have sL := same_new nL (o := .lst ([] : List V))
    have hL := upd_same (H := H) (a := L) (o := .lst ([] : List V))
    generalize upd H L (.lst []) = H1 at sL hL ⊢
    walk_at "rd"
    refine ⟨⟨_, Bx.Same.tup sL hca⟩, for_it walk_tup (fun i σ H' => ∃ (o4 o5 o6 o7 o8 : Option V), σ = [some (.ref ca), some (.str z), some (.ref d), some (.ref L), o4, o5, o6, o7, o8, none] ∧ Same H H' ∧ ∃ (us : List V) (ps : List (Int × Int)), H' L = some (.lst us) ∧ DpAll K (mn H' [L]) us (ps.map prD) ∧ PsOf g z (cs.take i) ps ∧ ps.length = i ∧ szm ps)
      ⟨none, none, none, none, none, rfl, sL, [], [], hL, .nil, .nil, rfl, fun p hp => (nomatch hp)⟩ (fun _ _ _ _ ⟨_, _, _, _, _, _, s, _⟩ => Bx.Same.tup s hca) ?_ ?_⟩
    · rintro i x σ Ha H2 hi ⟨o4, o5, o6, o7, o8, rfl, s2, us, ps, hM, hda, pso, pl, szp⟩ ⟨rfl, hx⟩
      obtain ⟨c, hc, dc⟩ := da_co dcs hx
      obtain ⟨p, b, zs, rfl, hp, hb, hz⟩ := co_dp dc
      have cin := List.mem_of_getElem? hc
      have ok := okc c cin
      have zl : zs.length = c.t.length := by rw [da_len hz, List.length_map]
      have hz2 := dpAll_same s2 hz
      refine ⟨_, _, rfl, Bx.Same.tup s2 hp, rfl, _, _, rfl, _, _, rfl, _, _, rfl, rfl, ?_⟩
      walk_at "rd"
      refine ⟨⟨_, Bx.Same.tup s2 hb⟩, fun D hD => ?_⟩
      refine lc_it walk_tup (fun j H' => Same H2 H' ∧ ∃ ws, H' D = some (.lst ws) ∧ DpAll K H2 ws ((others (c.t.take j) z).map tmD)) ⟨same_new hD, [], upd_same, .nil⟩ (fun j H' _ h => Bx.Same.tup h.1 (Bx.Same.tup s2 hb)) ?_ ?_
      · rintro j x Hb H3 hj ⟨s3, ws, hW, hdw⟩ ⟨rfl, hx2⟩
        obtain ⟨y, hy, ya, rfl, hya⟩ := tm_at hz2 hx2
        have dy := (tm_dp hya : Dp K H2 (.ref ya) (tmD y))
        refine ⟨rfl, ?_⟩
        walk_at "rd"
        refine ⟨_, _, _, _, rfl, rfl, Bx.Same.tup s3 hya, atI_nat (j := 0) rfl, ?_⟩
        walk_at "rd"
        have wl : ws.length ≤ 10 := by
          rw [da_len hdw, List.length_map]
          exact Nat.le_trans (List.length_filter_le _ _) (Nat.le_trans (List.length_take_le' j c.t) ok.ln)
        have eg : others (c.t.take (j + 1)) z = others (c.t.take j) z ++ if y.1 = z then [] else [y] := by
          unfold others
          rw [List.take_add_one, hy, List.filter_append]
          congr 1
          by_cases m : y.1 = z <;> simp [m]
        rw [eg]
        refine ite2 (fun m => ?_) (fun m => ?_)
        · have ne : y.1 ≠ z := fun e => ne_t m (congrArg V.str e)
          rw [if_neg ne]
          walk_at "rd"
          refine ⟨ws, hW, szl (by omega), same_at hD s3, ws ++ [.ref ya], upd_same, ?_⟩
          rw [List.map_append]
          exact da_app hdw (da_one dy)
        · have e : y.1 = z := V.str.inj (ne_f m)
          rw [if_pos e, List.append_nil]
          exact ⟨s3, ws, hW, hdw⟩
      rintro H3 ⟨s3, ws, hW, hdw⟩
      rw [zl, List.take_length] at hdw
      have dw3 := dpAll_same s3 hdw
      have s03 := s2.trans s3
      walk_at "rd"
      -- its factor
      refine fun x1 dx1 n1 n2 n3 => ?_
      have u1 := (bare_new (C := CS) n1 n2 n3).1
      show spInit K CS _ _ _ _
      unfold spInit
      have hb3 := Bx.Same.tup s03 hb
      have hz3 := dpAll_same s03 hz
      refine ⟨x1, dx1, .ref b, c.t, rfl, upd_same, (TmAt.same u1 (.inr (.tup hb3 hz3))), ok.i5, (by have := ok.ln; omega), fun H4 hx1 sb => ⟨rfl, ?_⟩⟩
      have s4 : Same H3 H4 := fun b o e => sb b o (ne_of_none e n1) (u1 b o e)
      obtain ⟨dx4, t4, ys4, e1, _⟩ := id hx1
      walk_at "rd"
      refine ⟨x1, dx4, _, rfl, e1, ?_⟩
      show spGet K CS _ _ _ _
      unfold spGet
      refine ⟨x1, c.t, z, rfl, hx1, ok.i5, fun H5 s5 => ?_⟩
      walk_at "rd"
      -- the others' sum
      refine fun x2 dx2 m1 m2 m3 => ?_
      have u2 := (bare_new (C := CS) m1 m2 m3).1
      have s35 := s4.trans s5
      have i5o : In5 (others c.t z) := fun y hy => ok.i5 y (List.mem_filter.mp hy).1
      have smo : ∀ y ∈ others c.t z, y.2.natAbs ≤ 9 := fun y hy => ok.sm y (List.mem_filter.mp hy).1
      have lno : (others c.t z).length ≤ 10 := Nat.le_trans (List.length_filter_le _ _) ok.ln
      refine ⟨x2, dx2, .ref D, others c.t z, rfl, upd_same, (TmAt.same u2 (.inl (.lst (sq (s35 _ _ hW)) (dpAll_same s35 dw3)))), i5o, by omega, fun H6 hx2' sb2 => ⟨rfl, ?_⟩⟩
      have s6 : Same H5 H6 := fun b o e => sb2 b o (ne_of_none e m1) (u2 b o e)
      obtain ⟨dx6, t6, ys6, e6, _⟩ := id hx2'
      refine ⟨x2, dx6, _, rfl, e6, fS_no1 t6, ?_⟩
      walk_at "rd"
      show spAt K CS _ _ _ _
      unfold spAt
      have s36 := s35.trans s6
      have s06 := s03.trans s36
      obtain ⟨kvs, hd, val⟩ := id hv
      have nm : ∀ y ∈ others c.t z, y.1 ∈ (cs.map fun c => (others c.t z).map (·.1)).flatten := fun y hy => List.mem_flatten.mpr ⟨_, List.mem_map.mpr ⟨c, cin, rfl⟩, List.mem_map.mpr ⟨y, hy, rfl⟩⟩
      have nm2 : ∀ y ∈ tms (others c.t z), y.1 ∈ (cs.map fun c => (others c.t z).map (·.1)).flatten := fun y hy => by
        obtain ⟨w, hw, e⟩ := List.mem_map.mp (tms_in hy)
        rw [← e]
        exact nm w hw
      refine ⟨x2, d, others c.t z, kvs, g, rfl, hx2', big_of smo lno, s06 _ _ hd, fun y hy => ⟨(val _ (nm2 y hy)).1, Nat.lt_of_lt_of_le (val _ (nm2 y hy)).2 (Nat.pow_le_pow_right (by decide) (by decide))⟩, fun H7 s7 => ?_⟩
      rw [lin_tms _ i5o]
      have s07 := s06.trans s7
      have ls := l_size (g := g) (z := z) ok fun y hy => (val _ (nm y hy)).2
      have cl90 := coef_le ok z
      walk_at "rd"
      refine ⟨coef c.t z, c.m, lOf g c z, rfl, ok.m0, by omega, by have := ok.m0; have := ok.m1; omega, by omega, fun hno H8 s8 => ?_, fun hyes q a1 b1 H8 s8 nq hq hsol => ?_⟩
      · walk_at "rd"
        refine ite2 (fun _ => ?_) (fun h => absurd rfl h)
        walk_at "rd"
        exact q1 (fun x hx => solved_no hno x (hx c cin)) H8 (s07.trans s8)
      · walk_at "rd"
        have s28 : Same H2 H8 := s3.trans (s36.trans (s7.trans s8))
        have hM8 := s28 _ _ hM
        have qL : q ≠ L := fun e => by
          rw [e, (s3.trans (s36.trans s7)) _ _ hM] at nq
          cases nq
        have ul : us.length = i := by rw [da_len hda, List.length_map, pl]
        refine ⟨.inl ⟨rfl, _, sq hM8⟩, ?_⟩
        walk_at "rd"
        refine ⟨L, _, _, rfl, rfl, hM8, szl (by omega), ?_⟩
        refine ⟨_, _, _, _, _, rfl, same_at nL (s07.trans s8), us ++ [.ref q], ps ++ [(a1, b1)], upd_same, ?_, ?_, by rw [List.length_append, pl]; rfl, fun p hp => ?_⟩
        · rw [mn_upd (by simp), List.map_append]
          exact da_app (dpAll_same (mn_all s28) hda) (da_one (pr_dp (p := (a1, b1)) (sqt (mn_at (by simp [qL]) hq))))
        · rw [List.take_add_one, hc]
          exact ps_app pso ⟨hsol, hyes⟩
        · rcases List.mem_append.mp hp with h | h
          · exact szp p h
          · rw [List.mem_singleton.mp h]
            exact sol_size hsol hyes ok.m0 ok.m1 ls
    · rintro σ H2 ⟨o4, o5, o6, o7, o8, rfl, s2, us, ps, hM, hda, pso, pl, szp⟩
      rw [xl, List.take_length] at pso
      rw [xl] at pl
      have hda2 := dpAll_same (mn_same (H := H2) (S := [L])) hda
      walk_at "rd"
      refine ⟨L, _, rfl, .inr (sq hM), ?_⟩
      refine ⟨ps, hda2, by omega, szp, fun hn H3 s3 => ?_, fun p R H3 s3 np hp hm hR => ?_⟩
      · exact q1 (fun x hx => hn (fit_all pso hx)) H3 (s2.trans s3)
      · exact q2 (lmL ps) R p H3 ⟨fun x => by rw [← ps_fits pso x]; exact hm x, hR⟩ (s2.trans s3) hp
end
end K31
namespace K31
local macro_rules | `(tactic| walk_at "rd") => `(tactic| repeat (first | refine ⟨rfl, ?_⟩ | refine ⟨_, rfl, ?_⟩ | refine ⟨_, _, rfl, rfl, ?_⟩ | refine ⟨⟨_, rfl⟩, ?_⟩))
open PySem PySem.Spec PyProof.Rows L2 Bx TL Dx Zx Ow Sup NdefX Px T31 M31
/-! ### tuples stay -/
mutual
def tupD : PyData → Bool
  | .str _ => true
  | .int _ => true
  | .tuple ds => tupAll ds
  | _ => false
def tupAll : List PyData → Bool
  | [] => true
  | d :: ds => tupD d && tupAll ds
end
def Tk (K : PySem.W.Frag) (H H' : Hp) : Prop := ∀ a xs, SqT K H a xs → SqT K H' a xs
theorem tk_same {K : PySem.W.Frag} {H H' : Hp} (s : Same H H') : Tk K H H' := fun _ _ h => Bx.Same.tup s h
theorem Tk.trans {K : PySem.W.Frag} {H H1 H2 : Hp} (a : Tk K H H1) (b : Tk K H1 H2) : Tk K H H2 := fun _ _ h => b _ _ (a _ _ h)
theorem tk_lst {K : PySem.W.Frag} {H : Hp} {p : Addr} {ys : List V} {o : HO} (hp : H p = some (.lst ys)) : Tk K H (upd H p o) := fun a xs h => by
  rcases h with (h | ⟨u, h⟩) | h
  · exact .inl (.inl (by rw [upd_ne fun z => by rw [z, hp] at h; cases h]; exact h))
  · exact .inl (.inr ⟨u, by rw [upd_ne fun z => by rw [z, hp] at h; cases h]; exact h⟩)
  · exact .inr h
mutual
theorem dp_tk {K : PySem.W.Frag} {H H' : Hp} (tk : Tk K H H') : ∀ (d : PyData) (v : V), tupD d = true → Dp K H v d → Dp K H' v d
  | .str _, _, _, h => by
    cases h
    exact .str _
  | .int _, _, _, h => by
    cases h
    exact .int _
  | .tuple ds, _, e, h => by
    cases h with
    | tup hs ha => exact .tup (tk _ _ hs) (da_tk tk ds _ e ha)
  | .none, _, e, _ => by cases e
  | .bool _, _, e, _ => by cases e
  | .list _, _, e, _ => by cases e
  | .dict _, _, e, _ => by cases e
theorem da_tk {K : PySem.W.Frag} {H H' : Hp} (tk : Tk K H H') : ∀ (ds : List PyData) (vs : List V), tupAll ds = true → DpAll K H vs ds → DpAll K H' vs ds
  | [], _, _, h => by
    cases h
    exact .nil
  | d :: ds, _, e, h => by
    have e2 : (tupD d && tupAll ds) = true := e
    rw [Bool.and_eq_true] at e2
    cases h with
    | cons h1 h2 => exact .cons (dp_tk tk d _ e2.1 h1) (da_tk tk ds _ e2.2 h2)
end
theorem tk_mn {K : PySem.W.Frag} {H H' : Hp} {D : Addr} {us : List V} (s : Same H H') (hM : H' D = some (.lst us)) : Tk K H (mn H' [D]) := fun a xs h => by
  rcases Bx.Same.tup s h with (h | ⟨o, h⟩) | h
  · exact .inl (.inl (mn_at (by intro e; rw [List.mem_singleton.mp e, hM] at h; cases h) h))
  · exact .inl (.inr ⟨o, mn_at (by intro e; rw [List.mem_singleton.mp e, hM] at h; cases h) h⟩)
  · exact .inr h
theorem tup_tms : ∀ l : List Tr5, tupAll (l.map tmD) = true
  | [] => rfl
  | x :: l => by
    show (tupD (tmD x) && tupAll (l.map tmD)) = true
    rw [tup_tms l]
    rfl
theorem tup_co (c : Con) : tupD (coD c) = true := by
  show (tupAll (c.t.map tmD) && _) = true
  rw [tup_tms]
  rfl
theorem tup_cos : ∀ cs : List Con, tupAll (cs.map coD) = true
  | [] => rfl
  | c :: cs => by
    show (tupD (coD c) && tupAll (cs.map coD)) = true
    rw [tup_co, tup_cos cs]
    rfl
def validB (ns : List Str) (c : Con) : Bool := ((names c).all fun z => decide (z ∈ ns)) && (okT c.t && decide (0 ≤ c.m))
theorem app_len (x y : Str) : (x ++ y).length = x.length + y.length := by
  rw [len_tl, tl_append, List.length_append, ← len_tl, ← len_tl]
/-- the error class, as the top leaves it -/
structure ErN (K : PySem.W.Frag) (mg : Str → Option Value) (CF : Addr) : Prop where
  gF : mg "NoSolution" = some (.ref CF)
  xF : PySem.W.excIn K CF [.type "ValueError", .type "Exception", .type "BaseException", .type "object"] "ValueError.__new__" = true
  kF : PySem.W.keepIn K (.ref CF) = true
  bF : PySem.W.subIn K (.ref CF) (.type "BaseException") = some true
  tF : PySem.W.typeIn K (.ref CF) = some (.type "type")
section
variable {P : Program} {w : World} {K : PySem.W.Frag} {mg : Str → Option Value} {base : Heap}
@[irreducible] def spSV (K : PySem.W.Frag) (C : Addr) : Sp := fun vs H Q _ => ∃ (a dx t p : Addr) (fs : List (Str × V)) (ns : List Str) (c : Con), vs = [.ref a, .ref t, .ref p] ∧ H a = some (.ins C dx fs) ∧ fs.lookup ("names_in" : Str) = none ∧ SqT K H t (ns.map V.str) ∧ Dp K H (.ref p) (coD c) ∧ c.t.length ≤ 60 ∧ (∀ x ∈ c.t, PyData.strOk x.1 = true) ∧
  ∀ H', Same H H' → Q (.bl (validB ns c)) H'
abbrev nf_SV (cc cda : Addr) : NF := ⟨"is_valid", "Wholes.is_valid", defArgs s_Wholes_is_valid, defBody s_Wholes_is_valid, defScope s_Wholes_is_valid, [(("__class__" : Str), cc)], cda⟩
theorem ok_valid {fI cc cda C g : Addr} {oc kV doc pm ct : Value} {od an : Option Addr} {osl : Array (Option Value)}
    (lk : K.lookup fI = some ⟨oc, od, .func (PySem.W.fnX "is_valid" "Wholes.is_valid" (defArgs s_Wholes_is_valid) (defBody s_Wholes_is_valid) (defScope s_Wholes_is_valid) [(("__class__" : Str), cc)] .none kV doc pm an (.ref cda) ct), osl⟩) (hcd : PySem.W.codeIn K (.ref cda) "Wholes.is_valid" = true)
    (hcc : ∃ cl cld csl, K.lookup cc = some ⟨cl, cld, .cell (some (.ref C)), csl⟩)
    (hco : ∃ (ccl : Value) (cdd : Option Addr) (vs : Array Value) (ccs : Array (Option Value)) (file : Str) (tf : Tok), K.lookup cda = some ⟨ccl, cdd, .fields vs, ccs⟩ ∧ vs[2]? = some (.str file tf) ∧ ((P.main.file : Str) == file) = true)
    (htop : (P.main.scope.names.lookup ("super" : Str)).isSome = false) (m_super : mg "super" = none) (hany : PySem.W.nsIn K cStatics "thirdparty.any" = some none) (T0 : SupM.SupA K C C "is_valid" g) (F0 : FnR P w K mg base CX0 2 g (spKV K C)) (C_is_terms : Cal P w K mg base "is_terms" 2 ["terms"] (spIsTerms K)) :
    FnOk P w K mg base CX0 4 fI (PySem.W.fnX "is_valid" "Wholes.is_valid" (defArgs s_Wholes_is_valid) (defBody s_Wholes_is_valid) (defScope s_Wholes_is_valid) [(("__class__" : Str), cc)] .none kV doc pm an (.ref cda) ct) ["self", "names", "constraint"] (spSV K C) := by
  obtain ⟨ccl, cdd, vs, ccs, file, tf, lc, hvs, hfile⟩ := hco
  obtain ⟨cl, cld, csl, lcc⟩ := hcc
  refine SupM.fn_at (F := nf_SV cc cda) (k := 3) lk hcd rfl ⟨cl, cld, csl, lcc⟩ ns_Wholes_is_valid (fun vs H Q E h => ?_) (fun A outer s H vs Q E hr h => ?_)
  · unfold spSV at h
    obtain ⟨a, dx, t, p, fs, ns, c, rfl, _⟩ := h
    rfl
  · have S0 : ∀ L, SupF P K mg (envF (nf_SV cc cda) fI L) "self" C := fun L => ⟨rfl, rfl, ⟨fI, _, _, _, _, _, rfl, lk, rfl, rfl⟩, ⟨cda, ccl, cdd, _, ccs, file, tf, rfl, lc, hvs, hfile⟩, htop, ⟨cc, cl, cld, csl, rfl, lcc⟩, m_super, hany, rfl, rfl⟩
    have S0 := S0 s.heap.objs.size
    unfold spSV at h
    obtain ⟨a, dx, t, p, fs, ns, c, rfl, ha, hn, ht, hp, hl, ok, q⟩ := h
    obtain ⟨p', b, zs, ep, h3, hb, hz⟩ := co_dp hp
    cases ep
    refine ⟨_, (SupM.pssa_cons (SupM.PSa.of (ps_asg (pv 2) (pg_tup rfl (pgs_cons (pg_name (i := 4) ns_Wholes_is_valid.nd rfl (Or.inl rfl)) (pgs_cons (pg_name (i := 5) ns_Wholes_is_valid.nd rfl (Or.inl rfl)) (pgs_cons (pg_name (i := 6) ns_Wholes_is_valid.nd rfl (Or.inl rfl)) pgs_nil))))))
    (SupM.pssa_one (SupM.psa_ret (SupM.pea_and (SupM.pea_sup S0 T0 F0 (hr.mono (by decide)) rfl (pa_cons (pv 1) (pa_cons (pv 2) pa_nil))) (pe_and (pe_cal C_is_terms (hr.mono (by decide)) (pa_cons (pv 4) pa_nil)) (pe_one (pe_cmpR op_ge (pv 5) pe_int (nomark _)))))))), ?_⟩
    walk_at "rd"
    refine ⟨_, _, rfl, h3, rfl, _, _, rfl, _, _, rfl, _, _, rfl, rfl, ?_⟩
    refine ⟨a, dx, fs, rfl, ha, ?_⟩
    walk_at "rd"
    show spKV K C _ _ _ _
    unfold spKV
    refine ⟨a, dx, t, p, fs, ns, c, rfl, ha, hn, ht, hp, hl, fun H1 s1 => ?_⟩
    have q1 := fun H2 (s2 : Same H1 H2) => q H2 (s1.trans s2)
    unfold validB at q1
    refine ⟨_, rfl, ite2 (fun h0 => ?_) (fun h0 => ?_)⟩
    · rw [h0] at q1
      simp only [Bool.true_and] at q1
      walk_at "rd"
      show spIsTerms K _ _ _ _
      unfold spIsTerms
      refine ⟨b, zs, c.t, rfl, Bx.Same.tup s1 hb, dpAll_same s1 hz, hl, ok, fun H2 s2 => ?_⟩
      have q2 := q1 H2 s2
      refine ⟨_, rfl, ite2 (fun h1 => ?_) (fun h1 => ?_)⟩
      · rw [h1, Bool.true_and] at q2
        walk_at "rd"
        exact q2
      · rw [Bool.eq_false_iff.mpr h1, Bool.false_and] at q2
        exact q2
    · have q2 := q1 H1 (Same.refl H1)
      rw [Bool.eq_false_iff.mpr h0, Bool.false_and] at q2
      exact q2
@[irreducible] def spPin (K : PySem.W.Frag) : Sp := fun vs H Q _ => ∃ (a pn d : Addr) (ns : List Str) (g : Str → Int), vs = [.ref a, .ref pn, .ref d] ∧ SqT K H pn (ns.map V.str) ∧ VAt H d g ns ∧ ns.length ≤ 100 ∧
  ∀ (R pr : Addr) (us : List V) (H' : Hp), Same H H' → SqT K H' R [.ref pn, .ref pr] → SqT K H' pr us → DpAll K H' us ((ns.map fun z => (⟨[(z, 1)], 0, g z⟩ : Con)).map coD) → Q (.ref R) H'
theorem ok_pin {f : Addr} {fd : FuncData} (F : Fun K "pin" "Wholes.pin" s_Wholes_pin f fd) (m_tuple : mg "tuple" = none) : FnOk P w K mg base CX0 1 f fd ["self", "names", "assignment"] (spPin K) := by
  refine F.ok sc_Wholes_pin (fun vs H Q E h => ?_) (fun cdv A outer s H vs Q E hr h => ?_)
  · unfold spPin at h
    obtain ⟨a, pn, d, ns, g, rfl, _⟩ := h
    rfl
  · unfold spPin at h
    obtain ⟨a, pn, d, ns, g, rfl, hpn, hv, l1, q⟩ := h
    have hu := hu_of hr
    refine ⟨_, (pss_one (ps_ret (pe_tup (pa_cons (pv 1) (pa_cons (pe_callTy (T := "tuple") call_tuple_of (by rfl) m_tuple (by decide +kernel) (pa_cons (pe_lc (own := [("name", 3)]) (tt := tYes) rfl sc_Wholes_pin.nd (pi_tup (pv 1)) (blkOk_by (N := n_Wholes_pin) (sc := defScope s_Wholes_pin) (by decide +kernel)) (fun _ _ _ _ _ => pg_name (i := 3) sc_Wholes_pin.nd rfl (Or.inl rfl)) (fun _ _ _ _ _ => pts_nil) (fun _ _ _ _ _ => (pe_tup (pa_cons (pe_tup (pa_cons (pe_tup (pa_cons (pv 3) (pa_cons pe_int pa_nil))) pa_nil)) (pa_cons pe_int (pa_cons (pe_dget hu (pv 2) (pv 3) (fun _ _ => rfl)) pa_nil)))))) pa_nil)) pa_nil))))), ?_⟩
    walk_at "rd"
    refine ⟨⟨_, hpn⟩, fun D hD => ?_⟩
    refine lc_it walk_tup (fun i H' => Same H H' ∧ ∃ us, H' D = some (.lst us) ∧ DpAll K (mn H' [D]) us (((ns.take i).map fun z => (⟨[(z, 1)], 0, g z⟩ : Con)).map coD)) ⟨same_new hD, [], upd_same, .nil⟩ (fun i H' _ h => Bx.Same.tup h.1 hpn) ?_ ?_
    · rintro i x H2a H2 hi ⟨s2, us, hM, hda⟩ ⟨rfl, hx⟩
      obtain ⟨z, hz, rfl⟩ := at_map hx
      obtain ⟨kvs, hd, val⟩ := id hv
      refine ⟨rfl, ?_⟩
      walk_at "rd"
      refine ⟨sz (by show 2 ≤ 100000; decide), fun T nT => ?_⟩
      have s3 := same_new nT (o := .tup [V.str z, .int 1])
      have hT := upd_same (H := H2) (a := T) (o := .tup [V.str z, .int 1])
      generalize upd H2 T (.tup [V.str z, .int 1]) = H3 at s3 hT ⊢
      walk_at "rd"
      refine ⟨sz (by show 1 ≤ 100000; decide), fun U nU => ?_⟩
      have s4 := same_new nU (o := .tup [V.ref T])
      have hU := upd_same (H := H3) (a := U) (o := .tup [V.ref T])
      generalize upd H3 U (.tup [V.ref T]) = H4 at s4 hU ⊢
      have s24 := s3.trans s4
      walk_at "rd"
      refine ⟨d, .int (g z), rfl, by rw [← (val z (List.mem_of_getElem? hz)).1]; exact DGet.k (k := .inr z) ((s2.trans s24) _ _ hd), ?_⟩
      walk_at "rd"
      refine ⟨sz (by show 3 ≤ 100000; decide), fun N nN => ?_⟩
      have s5 := same_new nN (o := .tup [V.ref U, .int 0, .int (g z)])
      have hN := upd_same (H := H4) (a := N) (o := .tup [V.ref U, .int 0, .int (g z)])
      have hM5 := (s24.trans s5) _ _ hM
      have dN : Dp K (upd H4 N (.tup [V.ref U, .int 0, .int (g z)])) (.ref N) (coD ⟨[(z, 1)], 0, g z⟩) := dp_co (sqt hN) (sqt (s5 _ _ hU)) (da_one (tm_dp (x := (z, 1)) (sqt ((s4.trans s5) _ _ hT))))
      generalize upd H4 N (.tup [V.ref U, .int 0, .int (g z)]) = H5 at s5 hM5 dN ⊢
      have ul : us.length ≤ ns.length := by
        rw [da_len hda, List.length_map, List.length_map]
        exact List.length_take_le' i ns
      have s25 := s24.trans s5
      refine ⟨us, hM5, szl (by omega), same_at hD (s2.trans s25), us ++ [.ref N], upd_same, ?_⟩
      rw [mn_upd (by simp), List.take_add_one, hz, List.map_append, List.map_append]
      exact da_app (dpAll_same (mn_all s25) hda) (da_one (dp_tk (tk_mn (Same.refl H5) hM5) _ _ (tup_co _) dN))
    rintro H2 ⟨s2, us, hM, hda⟩
    rw [List.length_map, List.take_length] at hda
    have hda2 := dpAll_same (mn_same (H := H2) (S := [D])) hda
    walk_at "rd"
    refine ⟨D, us, rfl, .inl ⟨sq hM, fun pr npr => ?_⟩⟩
    have s5 := same_new npr (o := .tup us)
    have hpr := upd_same (H := H2) (a := pr) (o := .tup us)
    generalize upd H2 pr (.tup us) = H5 at s5 hpr ⊢
    walk_at "rd"
    refine ⟨sz (by show 2 ≤ 100000; decide), fun R nR => ?_⟩
    have s6 := same_new nR (o := .tup [V.ref pn, .ref pr])
    exact q R pr us _ (s2.trans (s5.trans s6)) (sqt upd_same) (Bx.Same.tup s6 (sqt hpr)) (dpAll_same (s5.trans s6) hda2)
@[irreducible] def spLift (K : PySem.W.Frag) (CF : Addr) : Sp := fun vs H Q E => ∃ (a T na ca d : Addr) (xs : List V) (ns : List Str) (cs : List Con) (g : Str → Int) (z : Str), vs = [.ref a, .ref T, .str z, .ref d] ∧ Th K H T na ca xs ns cs ∧ cs.length ≤ 4 ∧ (∀ c ∈ cs, Ok c) ∧ VAt H d g ((cs.map fun c => (others c.t z).map (·.1)).flatten) ∧ z.length ≤ 100 ∧
  (∀ M R, Prog g z cs M R → ∀ H', Same H H' → Q (.int R) H') ∧ ((∀ x, ¬ Fz g z cs x) → ∀ H', Same H H' → E (.ref CF) none H')
set_option maxHeartbeats 1000000 in
theorem ok_lift {CF : Addr} (er : ErN K mg CF) {f : Addr} {fd : FuncData} (F : Fun K "lift" "Wholes.lift" s_Wholes_lift f fd) (C_fitting : Cal P w K mg base "fitting" 4 ["constraints", "name", "assignment"] (spFit K)) : FnOk P w K mg base (L2.CX P w) 5 f fd ["self", "theory", "name", "assignment"] (spLift K CF) := by
  refine F.okX sc_Wholes_lift (fun vs H Q E h => ?_) (fun cdv A outer s H vs Q E hr h => ?_)
  · unfold spLift at h
    obtain ⟨a, T, na, ca, d, xs, ns, cs, g, z, rfl, _⟩ := h
    rfl
  · unfold spLift at h
    obtain ⟨a, T, na, ca, d, xs, ns, cs, g, z, rfl, th, cl, okc, hv, zl, q, qe⟩ := h
    refine ⟨_, (pss_cons (ps_set (i := 4) sc_Wholes_lift.nd rfl (Or.inl rfl) (pe_cal C_fitting (hr.mono (by decide)) (pa_cons (pe_ix ix_tup (pv 1) pe_int (fun _ _ => rfl)) (pa_cons (pv 2) (pa_cons (pv 3) pa_nil)))))
    (pss_cons (ps_if (pt_cmpR op_isN (pv 4) pe_non (nomark _))
      (pss_one (ps_raise rfl (takes_of rfl rfl rfl rfl) (SkE.pmk_own1 PySem.F.excBase_ValueError er.xF er.gF er.kF (raises_own er.bF er.tF) (by exact rfl) (pe_joined (.cons pe_str (.cons (pe_fmt (pv 2)) .nil))))))
      pss_nil)
    (pss_one (ps_ret (pe_ix ix_tup (pv 4) pe_int (fun _ _ => rfl)))))), ?_⟩
    walk_at "rd"
    refine ⟨_, _, _, _, rfl, rfl, th.t, atI_nat (j := 1) rfl, ?_⟩
    walk_at "rd"
    show spFit K _ _ _ _
    unfold spFit
    refine ⟨ca, d, z, xs, cs, g, rfl, th.c, th.d, cl, okc, hv, fun no H1 s1 => ?_, fun M R p H1 pg s1 hp => ?_⟩
    · walk_at "rd"
      have l1 : (Str.ofString "no value fits for ").length = 18 := by decide +kernel
      have c1 : 100000 < sizeLine := by rw [sizeLine_eq]; decide
      have l0 : Str.empty.length = 0 := rfl
      refine ⟨by rw [app_len]; omega, _, rfl, .inl ⟨_, rfl, by omega, ?_⟩⟩
      refine ⟨_, rfl, by rw [app_len, app_len]; omega, ?_⟩
      walk_at "rd"
      exact qe no _ s1
    · walk_at "rd"
      refine ⟨_, _, _, _, rfl, rfl, sqt hp, atI_nat (j := 1) rfl, ?_⟩
      exact q M R pg H1 s1
end
end K31
namespace K31
local macro_rules | `(tactic| walk_at "rd") => `(tactic| repeat (first | refine ⟨rfl, ?_⟩ | refine ⟨_, rfl, ?_⟩ | refine ⟨_, _, rfl, rfl, ?_⟩ | refine ⟨⟨_, rfl⟩, ?_⟩))
open PySem PySem.Spec PyProof.Rows L2 Bx TL Dx Zx Ow Sup NdefX Px T31 M31
theorem pe_fldK {X : Cx} {K0 : PySem.W.Frag} {e : Expr} {ta : TE} {f : Str} {pos : Pos} (hk : X.K = K0) (he : PE X e ta) (hb : attributeBase e f X.env (eval e X.env) = eval e X.env) : PE X (.Attribute e f pos) (tFld K0 ta f) := by
  subst hk
  exact pe_fld he hb
def rnT (t : Tb) (l : List Tr5) : List Tr5 := l.map fun x => (rn t x.1, x.2)
def renC (t : Tb) (c : Con) : Con := ⟨tms (rnT t c.t), c.m, c.r⟩
section
variable {P : Program} {w : World} {K : PySem.W.Frag} {mg : Str → Option Value} {base : Heap}
@[irreducible] def spWRen (K : PySem.W.Frag) : Sp := fun vs H Q _ => ∃ (a T na ca d : Addr) (xs : List V) (ns : List Str) (cs : List Con) (t : Tb), vs = [.ref a, .ref T, .ref d] ∧ Th K H T na ca xs ns cs ∧ ns.length ≤ 10 ∧ cs.length ≤ 100 ∧ (∀ c ∈ cs, Ok c ∧ ∀ x ∈ c.t, rn t x.1 ∈ N5) ∧ H d = some (.dK (tbV t)) ∧
  ∀ (R ap ar : Addr) (ys : List Str) (us : List V) (H' : Hp), Same H H' → SqT K H' R [.ref ap, .ref ar] → SqT K H' ap (ys.map V.str) → sortedS ys = true → ys.Nodup → (∀ x, x ∈ ys ↔ x ∈ ns.map (rn t)) → SqT K H' ar us → DpAll K H' us ((cs.map (renC t)).map coD) → Q (.ref R) H'
set_option maxHeartbeats 1000000 in
theorem ok_wrename {CS : Addr} (cf : CF K CS) {f : Addr} {fd : FuncData} (F : Fun K "rename" "Wholes.rename" s_Wholes_rename f fd) (m_tuple : mg "tuple" = none) (K_Sum : MkS P w K mg base CS) (S_renamed : MthC P w K mg base CS "renamed" 4 ["self", "table"] (spRen K CS)) (C_merge_names : CalR P w K mg base "merge_names" 1 (spMerge K)) (C_replace_names : Cal P w K mg base "replace_names" 1 ["names", "table"] (spRepl K)) : FnOk P w K mg base CX0 6 f fd ["self", "theory", "table"] (spWRen K) := by
  refine F.ok sc_Wholes_rename (fun vs H Q E h => ?_) (fun cdv A outer s H vs Q E hr h => ?_)
  · unfold spWRen at h
    obtain ⟨a, T, na, ca, d, xs, ns, cs, t, rfl, _⟩ := h
    rfl
  · unfold spWRen at h
    obtain ⟨a, T, na, ca, d, xs, ns, cs, t, rfl, th, nl, csl, okc, hd, q⟩ := h
    have xl : xs.length = cs.length := by rw [da_len th.d, List.length_map]
    refine ⟨_, (pss_cons (ps_asg (pv 1) (pg_tup rfl (pgs_cons (pg_name (i := 4) sc_Wholes_rename.nd rfl (Or.inl rfl)) (pgs_cons (pg_name (i := 5) sc_Wholes_rename.nd rfl (Or.inl rfl)) pgs_nil))))
    (pss_cons (ps_setLc (i := 3) (own := [("terms", 6), ("modulus", 7), ("rest", 8)]) (tt := tYes) rfl sc_Wholes_rename.nd rfl rfl (sw_true rfl rfl rfl (by decide +kernel)) (pi_tup (pv 5)) (blkOk_by (N := n_Wholes_rename) (sc := defScope s_Wholes_rename) (by decide +kernel)) (fun _ _ _ _ _ => pg_tupK (K := K) (n := 3) rfl rfl (pgs_cons (pg_name (i := 6) sc_Wholes_rename.nd rfl (Or.inl rfl)) (pgs_cons (pg_name (i := 7) sc_Wholes_rename.nd rfl (Or.inl rfl)) (pgs_cons (pg_name (i := 8) sc_Wholes_rename.nd rfl (Or.inl rfl)) pgs_nil)))) (fun _ _ _ _ _ => pts_nil) (fun _ _ _ _ _ => (pe_tup (pa_cons (pe_fldK (K0 := K) rfl (pe_mth S_renamed (hr.mono (by decide)) (pe_mak K_Sum (hr.mono (by decide)) (pa_cons (pv 6) pa_nil)) (pa_cons (pv 2) pa_nil) (ht := mcall_of abase_call1 (fun _ => rfl))) rfl) (pa_cons (pv 7) (pa_cons (pv 8) pa_nil))))))
    (pss_one (ps_ret (pe_tup (pa_cons (pe_calR C_merge_names (hr.mono (by decide)) (pa_cons (pe_cal C_replace_names (hr.mono (by decide)) (pa_cons (pv 4) (pa_cons (pv 2) pa_nil))) pa_nil)) (pa_cons (pe_callTy (T := "tuple") call_tuple_of (by rfl) m_tuple (by decide +kernel) (pa_cons (pv 3) pa_nil)) pa_nil))))))), ?_⟩
    walk_at "rd"
    refine ⟨_, _, rfl, th.t, rfl, _, _, rfl, _, _, rfl, rfl, ?_⟩
    walk_at "rd"
    refine ⟨⟨_, th.c⟩, fun D hD => ?_⟩
    refine lc_it walk_tup (fun i H' => Same H H' ∧ ∃ us, H' D = some (.lst us) ∧ DpAll K (mn H' [D]) us (((cs.take i).map (renC t)).map coD)) ⟨same_new hD, [], upd_same, .nil⟩ (fun i H' _ h => Bx.Same.tup h.1 th.c) ?_ ?_
    · rintro i v H2a H2 hi ⟨s2, us, hM, hda⟩ ⟨rfl, hx⟩
      obtain ⟨c, hc, dc⟩ := da_co th.d hx
      obtain ⟨p, b, zs, rfl, hp, hb, hz⟩ := co_dp dc
      obtain ⟨ok, n5⟩ := okc c (List.mem_of_getElem? hc)
      refine ⟨_, _, rfl, Bx.Same.tup s2 hp, rfl, _, _, rfl, _, _, rfl, _, _, rfl, rfl, ?_⟩
      walk_at "rd"
      refine fun x1 dx1 n1 n2 n3 => ?_
      have u1 := (bare_new (C := CS) n1 n2 n3).1
      show spInit K CS _ _ _ _
      unfold spInit
      refine ⟨x1, dx1, .ref b, c.t, rfl, upd_same, (TmAt.same u1 (.inr (.tup (Bx.Same.tup s2 hb) (dpAll_same s2 hz)))), ok.i5, (by have := ok.ln; omega), fun H3 hx1 sb => ⟨rfl, ?_⟩⟩
      have s3 : Same H2 H3 := fun b o e => sb b o (ne_of_none e n1) (u1 b o e)
      obtain ⟨dx3, t3, ys3, e1, _⟩ := id hx1
      refine ⟨x1, dx3, _, rfl, e1, fS_no2 t3, ?_⟩
      walk_at "rd"
      show spRen K CS _ _ _ _
      unfold spRen
      refine ⟨x1, d, c.t, tbV t, rn t, rfl, hx1, ok.i5, (s2.trans s3) _ _ hd, fun x hx => ⟨val_tb t x.1, ?_⟩, fun y H4 s4 ny hy => ?_⟩
      · obtain ⟨w', hw, e⟩ := List.mem_map.mp (tms_in hx)
        rw [← e]
        exact n5 w' hw
      obtain ⟨dx4, t4, ys4, e4, p4, d4⟩ := id hy
      walk_at "rd"
      refine ⟨y, CS, dx4, _, _, rfl, e4, cf.cl, cf.nT, fS_at t4, ?_⟩
      walk_at "rd"
      refine ⟨sz (by show 3 ≤ 100000; decide), fun N nN => ?_⟩
      have s5 := same_new nN (o := .tup [V.ref t4, .int c.m, .int c.r])
      have hN := upd_same (H := H4) (a := N) (o := .tup [V.ref t4, .int c.m, .int c.r])
      have s25 := s3.trans (s4.trans s5)
      have hM5 := s25 _ _ hM
      have dN : Dp K (upd H4 N (.tup [V.ref t4, .int c.m, .int c.r])) (.ref N) (coD (renC t c)) := dp_co (c := renC t c) (sqt hN) (PlT.same s5 p4).sq (dpAll_same s5 d4)
      show ∃ acc, (upd H4 N (.tup [V.ref t4, .int c.m, .int c.r])) D = some (.lst acc) ∧ _
      generalize upd H4 N (.tup [V.ref t4, .int c.m, .int c.r]) = H5 at s5 s25 hM5 dN ⊢
      have ul : us.length ≤ cs.length := by
        rw [da_len hda, List.length_map, List.length_map]
        exact List.length_take_le' i cs
      refine ⟨us, hM5, szl (by omega), same_at hD (s2.trans s25), us ++ [.ref N], upd_same, ?_⟩
      rw [mn_upd (by simp), List.take_add_one, hc, List.map_append, List.map_append]
      exact da_app (dpAll_same (mn_all s25) hda) (da_one (dp_tk (tk_mn (Same.refl H5) hM5) _ _ (tup_co _) dN))
    rintro H2 ⟨s2, us, hM, hda⟩
    rw [xl, List.take_length] at hda
    have hda2 := dpAll_same (mn_same (H := H2) (S := [D])) hda
    walk_at "rd"
    show spRepl K _ _ _ _
    unfold spRepl
    refine ⟨na, d, ns, t, rfl, .inr (Bx.Same.tup s2 th.n), s2 _ _ hd, by omega, fun r H3 s3 nr hr3 => ?_⟩
    walk_at "rd"
    refine ⟨[(r, ns.map (rn t))], rfl, fun x hx => ?_, by show 1 ≤ 1000; decide, ?_, fun ya H4 ys s4 nya hya st nd mem => ?_⟩
    · rw [List.mem_singleton.mp hx]
      exact .inl (sq hr3)
    · simp only [List.map_cons, List.map_nil, List.flatten_cons, List.flatten_nil, List.append_nil, List.length_map]
      omega
    have mem2 : ∀ x, x ∈ ys ↔ x ∈ ns.map (rn t) := fun x => by
      rw [mem x]
      simp only [List.map_cons, List.map_nil, List.flatten_cons, List.flatten_nil, List.append_nil]
    have s24 := s3.trans s4
    walk_at "rd"
    refine ⟨D, us, rfl, .inl ⟨sq (s24 _ _ hM), fun ar nar => ?_⟩⟩
    have s6 := same_new nar (o := .tup us)
    have har := upd_same (H := H4) (a := ar) (o := .tup us)
    generalize upd H4 ar (.tup us) = H6 at s6 har ⊢
    walk_at "rd"
    refine ⟨sz (by show 2 ≤ 100000; decide), fun R nR => ?_⟩
    have s7 := same_new nR (o := .tup [V.ref ya, .ref ar])
    exact q R ya ar ys us _ (s2.trans (s24.trans (s6.trans s7))) (sqt upd_same) (PlT.same (s6.trans s7) hya).sq st nd mem2 (Bx.Same.tup s7 (sqt har)) (dpAll_same (s24.trans (s6.trans s7)) hda2)
end
end K31
namespace K31
local macro_rules | `(tactic| walk_at "rd") => `(tactic| repeat (first | refine ⟨rfl, ?_⟩ | refine ⟨_, rfl, ?_⟩ | refine ⟨_, _, rfl, rfl, ?_⟩ | refine ⟨⟨_, rfl⟩, ?_⟩))
open PySem PySem.Spec PyProof.Rows L2 Bx TL Dx Zx Ow Sup NdefX Px T31 M31
section
variable {P : Program} {w : World} {K : PySem.W.Frag} {mg : Str → Option Value} {base : Heap}
theorem int_at {ns : List Int} {k : Nat} (h : k < ns.length) : atI (ns.map V.int) (k : Int) = some (V.int ns[k]) := atI_nat (by rw [List.getElem?_map, List.getElem?_eq_getElem h]; rfl)
def spSource (K : PySem.W.Frag) : Sp := fun vs H Q _ => ∃ (a : Addr) (ns : List Int) (k : Nat), vs = [.ref a, .int (k : Int)] ∧ SqL K H a (ns.map V.int) ∧ k ≤ 100 ∧ ∀ p n c, H p = none → Q (.ref p) (upd H p (.lst [.int n, .int c]))
theorem ok_source {f : Addr} {fd : FuncData} (F : Fun K "_law_source" "_law_source" s__law_source f fd) (m_len : mg "len" = none) (m_int : mg "int" = none) : FnOk P w K mg base CX0 1 f fd ["_law_script", "_law_k"] (spSource K) := by
  refine F.ok sc__law_source (fun vs H Q E h => ?_) (fun cdv A outer s H vs Q E hr h => ?_)
  · obtain ⟨a, ns, k, rfl, _⟩ := h
    rfl
  · obtain ⟨a, ns, k, rfl, hS, hk, q⟩ := h
    refine ⟨_, (pss_cons (ps_set (i := 2) sc__law_source.nd rfl (Or.inl rfl) pe_int)
    (pss_cons (ps_if (pt_cmpR op_lt (pv 1) (pe_callB call_len_seq (by rfl) m_len PySem.boot_len (pa_cons (pv 0) pa_nil)) (nomark _))
      (pss_one (ps_set (i := 2) sc__law_source.nd rfl (Or.inl rfl) (pe_callTy (T := "int") call_int1 (by rfl) m_int (by decide +kernel) (pa_cons (pe_ix ix_list (pv 0) (pv 1) (fun _ _ => rfl)) pa_nil))))
      pss_nil)
    (pss_one (ps_ret (pe_lst (pa_cons (pv 2) (pa_cons (pe_op op_add (pe_op op_mul pe_int (pv 1)) (pe_callB call_len_seq (by rfl) m_len PySem.boot_len (pa_cons (pv 0) pa_nil))) pa_nil))))))), ?_⟩
    walk_at "rd"
    refine ⟨_, _, rfl, .inl hS, ?_⟩
    walk_at "rd"
    refine ite2 (fun h0 => ?_) (fun h0 => ?_)
    · have h1 : (k : Int) < ((ns.map V.int).length : Nat) := of_decide_eq_true h0
      rw [List.length_map] at h1
      walk_at "rd"
      refine ⟨_, _, _, _, rfl, rfl, hS, int_at (k := k) (by omega), ?_⟩
      refine .inl ⟨_, rfl, ?_⟩
      walk_at "rd"
      refine ⟨.inr ⟨by omega, by omega⟩, ?_⟩
      walk_at "rd"
      refine ⟨_, _, rfl, .inl hS, ?_⟩
      walk_at "rd"
      exact ⟨sz (by show 2 ≤ 100000; decide), fun p np => q p _ _ np⟩
    · walk_at "rd"
      refine ⟨.inr ⟨by omega, by omega⟩, ?_⟩
      walk_at "rd"
      refine ⟨_, _, rfl, .inl hS, ?_⟩
      walk_at "rd"
      exact ⟨sz (by show 2 ≤ 100000; decide), fun p np => q p _ _ np⟩
theorem modb (x : Int) {k : Int} (h : 0 < k) (h2 : k ≤ 2 ^ 64) : -(2 ^ 64) < x % k ∧ x % k < 2 ^ 64 := by
  have a := Int.emod_nonneg x (show k ≠ 0 by omega)
  have b := Int.emod_lt_of_pos x h
  omega
@[irreducible] def spDraw : Sp := fun vs H Q _ => ∃ (a : Addr) (n c lim : Int), vs = [.ref a, .int lim] ∧ H a = some (.lst [.int n, .int c]) ∧ 0 < lim ∧ lim < 1073741824 ∧ ∀ r n' c', 0 ≤ r → r < lim → Q (.int r) (upd H a (.lst [.int n', .int c']))
theorem ok_draw {f : Addr} {fd : FuncData} (F : Fun K "_law_draw" "_law_draw" s__law_draw f fd) (m_int : mg "int" = none) : FnOk P w K mg base CX0 1 f fd ["_law_source_here", "_law_limit"] spDraw := by
  refine F.ok sc__law_draw (fun vs H Q E h => ?_) (fun cdv A outer s H vs Q E hr h => ?_)
  · unfold spDraw at h
    obtain ⟨a, n, c, lim, rfl, _⟩ := h
    rfl
  · unfold spDraw at h
    obtain ⟨a, n, c, lim, rfl, hA, h0, h1, q⟩ := h
    have hfm : ∀ x : Int, 0 ≤ x.fmod lim ∧ x.fmod lim < lim := fun x => by
      rw [Int.fmod_eq_emod_of_nonneg _ (by omega)]
      exact ⟨Int.emod_nonneg _ (by omega), Int.emod_lt_of_pos _ h0⟩
    refine ⟨_, (pss_cons (ps_set (i := 2) sc__law_draw.nd rfl (Or.inl rfl) (pe_ix ix_list (pv 0) pe_int (fun _ _ => rfl)))
    (pss_cons (ps_if (pt_cmpR op_ge (pv 2) (pe_op op_pow pe_int pe_int) (nomark _))
      (pss_cons (ps_asg (pe_op op_fdivN (pv 2) (pv 1)) (pg_sub (pv 0) pe_int set_list))
    (pss_one (ps_ret (pe_op op_modN (pe_callTy (T := "int") call_int1 (by rfl) m_int (by decide +kernel) (pa_cons (pv 2) pa_nil)) (pv 1)))))
      pss_nil)
    (pss_cons (ps_asg (pe_op op_add (pe_ix ix_list (pv 0) pe_int (fun _ _ => rfl)) pe_int) (pg_sub (pv 0) pe_int set_list))
    (pss_cons (ps_set (i := 3) sc__law_draw.nd rfl (Or.inl rfl) (pe_op op_mod (pe_callTy (T := "int") call_int1 (by rfl) m_int (by decide +kernel) (pa_cons (pe_op op_add (pe_op op_add (pe_op op_mul (pv 2) pe_int) (pe_op op_mul (pe_ix ix_list (pv 0) pe_int (fun _ _ => rfl)) pe_int)) pe_int) pa_nil)) pe_int))
    (pss_cons (ps_set (i := 3) sc__law_draw.nd rfl (Or.inl rfl) (pe_op op_mod (pe_callTy (T := "int") call_int1 (by rfl) m_int (by decide +kernel) (pa_cons (pe_op op_add (pe_op op_add (pe_op op_mul (pv 3) (pv 3)) (pv 2)) (pe_op op_mul (pe_ix ix_list (pv 0) pe_int (fun _ _ => rfl)) pe_int)) pa_nil)) pe_int))
    (pss_cons (ps_set (i := 3) sc__law_draw.nd rfl (Or.inl rfl) (pe_op op_mod (pe_callTy (T := "int") call_int1 (by rfl) m_int (by decide +kernel) (pa_cons (pe_op op_add (pe_op op_add (pe_op op_mul (pv 3) (pv 3)) (pe_op op_fdiv (pv 3) pe_int)) pe_int) pa_nil)) pe_int))
    (pss_one (ps_ret (pe_op op_modN (pe_op op_fdiv (pe_callTy (T := "int") call_int1 (by rfl) m_int (by decide +kernel) (pa_cons (pv 3) pa_nil)) pe_int) (pv 1)))))))))), ?_⟩
    walk_at "rd"
    refine ⟨_, _, _, _, rfl, rfl, sq hA, atI_nat (j := 0) rfl, ?_⟩
    walk_at "rd"
    refine ⟨⟨by decide, by decide, by decide⟩, ?_⟩
    walk_at "rd"
    refine ite2 (fun hb => ?_) (fun hb => ?_)
    · walk_at "rd"
      refine ⟨⟨by omega, by omega⟩, ?_⟩
      walk_at "rd"
      refine ⟨_, _, _, 0, rfl, rfl, hA, rfl, ?_⟩
      walk_at "rd"
      refine .inl ⟨_, rfl, ?_⟩
      walk_at "rd"
      refine ⟨by omega, ?_⟩
      exact q _ _ _ (hfm _).1 (hfm _).2
    · walk_at "rd"
      refine ⟨_, _, _, _, rfl, rfl, sq hA, atI_nat (j := 1) rfl, ?_⟩
      walk_at "rd"
      refine ⟨_, _, _, 1, rfl, rfl, hA, rfl, ?_⟩
      -- the first mixing
      walk_at "rd"
      refine ⟨.inr ⟨by decide, by decide⟩, ?_⟩
      walk_at "rd"
      refine ⟨_, _, _, _, rfl, rfl, sq upd_same, atI_nat (j := 1) rfl, ?_⟩
      walk_at "rd"
      refine ⟨.inr ⟨by decide, by decide⟩, ?_⟩
      walk_at "rd"
      refine .inl ⟨_, rfl, ?_⟩
      walk_at "rd"
      refine ⟨by show (0 : Int) < 2147483647; decide, ?_⟩
      -- the second
      walk_at "rd"
      refine ⟨.inl (modb _ (by decide) (by decide)), ?_⟩
      walk_at "rd"
      refine ⟨_, _, _, _, rfl, rfl, sq upd_same, atI_nat (j := 1) rfl, ?_⟩
      walk_at "rd"
      refine ⟨.inr ⟨by decide, by decide⟩, ?_⟩
      walk_at "rd"
      refine .inl ⟨_, rfl, ?_⟩
      walk_at "rd"
      refine ⟨by show (0 : Int) < 2147483629; decide, ?_⟩
      -- the third
      walk_at "rd"
      refine ⟨.inl (modb _ (by decide) (by decide)), ?_⟩
      walk_at "rd"
      refine ⟨⟨by decide, by decide⟩, ?_⟩
      walk_at "rd"
      refine .inl ⟨_, rfl, ?_⟩
      walk_at "rd"
      refine ⟨by show (0 : Int) < 2147483587; decide, ?_⟩
      -- the answer
      walk_at "rd"
      refine .inl ⟨_, rfl, ?_⟩
      walk_at "rd"
      refine ⟨⟨by decide, by decide⟩, ?_⟩
      walk_at "rd"
      refine ⟨by omega, ?_⟩
      exact q _ _ _ (hfm _).1 (hfm _).2
/-- some other source, or none -/
theorem draw_of {H : Hp} {a : Addr} {lim : Int} {Q : VK} {E : XK} (hA : Src H a) (h0 : 0 < lim ∧ lim < 1073741824) (q : ∀ r H', 0 ≤ r → r < lim → SameBut a H H' → Src H' a → Q (.int r) H') : spDraw [.ref a, .int lim] H Q E := by
  obtain ⟨n, c, hA⟩ := hA
  unfold spDraw
  exact ⟨a, n, c, lim, rfl, hA, h0.1, h0.2, fun r n' c' h1 h2 => q r _ h1 h2 SameBut.upd ⟨n', c', upd_same⟩⟩
abbrev CDraw (P : Program) (w : World) (K : PySem.W.Frag) (mg : Str → Option Value) (base : Heap) : Prop := Cal P w K mg base "_law_draw" 1 ["_law_source_here", "_law_limit"] spDraw
theorem sqt_but {H H' : Hp} {s a : Addr} {xs : List V} (hs : Src H s) (sb : SameBut s H H') (h : SqT K H a xs) : SqT K H' a xs := by
  obtain ⟨n, c, hs⟩ := hs
  rcases h with (h | ⟨u, h⟩) | h
  · exact .inl (.inl (sb _ _ (fun z => by rw [z, hs] at h; cases h) h))
  · exact .inl (.inr ⟨u, sb _ _ (fun z => by rw [z, hs] at h; cases h) h⟩)
  · exact .inr h
theorem tk_but {H H' : Hp} {s : Addr} (hs : Src H s) (sb : SameBut s H H') : Tk K H H' := fun _ _ h => sqt_but hs sb h
def spShared : Sp := fun vs H Q _ => ∃ a b : Int, vs = [.int a, .int b] ∧ a.natAbs < 2 ^ 80 ∧ b.natAbs < 2 ^ 80 ∧ Q (.int (Int.gcd a b : Int)) H
theorem abs_b {a : Int} (h : a.natAbs < 2 ^ 80) : 0 ≤ (if a < 0 then -a else a) ∧ (if a < 0 then -a else a).toNat < 2 ^ 80 := by
  split <;> omega
theorem ok_shared {f : Addr} {fd : FuncData} (F : Fun K "_law_shared" "_law_shared" s__law_shared f fd) (m_abs : mg "abs" = none) (m_range : mg "range" = none) (m_int : mg "int" = none) : FnOk P w K mg base CX0 1 f fd ["_law_first_here", "_law_second"] spShared := by
  refine F.ok sc__law_shared (fun vs H Q E h => ?_) (fun cdv A outer s H vs Q E hr h => ?_)
  · obtain ⟨a, b, rfl, _⟩ := h
    rfl
  · obtain ⟨a, b, rfl, ha, hb, q⟩ := h
    refine ⟨_, (pss_cons (ps_set (i := 2) sc__law_shared.nd rfl (Or.inl rfl) (pe_callB call_abs (by rfl) m_abs (by decide +kernel) (pa_cons (pv 0) pa_nil)))
    (pss_cons (ps_set (i := 3) sc__law_shared.nd rfl (Or.inl rfl) (pe_callB call_abs (by rfl) m_abs (by decide +kernel) (pa_cons (pv 1) pa_nil)))
    (pss_cons (ps_for PassesOwn.never rfl (pi_range1 (by rfl) m_range (pa_cons pe_int pa_nil)) (pg_name (i := 4) sc__law_shared.nd rfl (Or.inl rfl))
      (pss_cons (ps_if (pt_cmpR op_eq (pv 3) pe_int (nomark _))
      (pss_one (ps_ret (pv 2)))
      pss_nil)
    (pss_cons (ps_set (i := 5) sc__law_shared.nd rfl (Or.inl rfl) (pe_op op_mod (pe_callTy (T := "int") call_int1 (by rfl) m_int (by decide +kernel) (pa_cons (pv 2) pa_nil)) (pv 3)))
    (pss_cons (ps_set (i := 2) sc__law_shared.nd rfl (Or.inl rfl) (pv 3))
    (pss_one (ps_set (i := 3) sc__law_shared.nd rfl (Or.inl rfl) (pv 5)))))))
    (pss_one (ps_ret (pv 2)))))), ?_⟩
    walk_at "rd"
    have ha2 := abs_b ha
    have hb2 := abs_b hb
    rw [← gcd_abs] at q
    generalize (if a < 0 then -a else a) = a0 at *
    generalize (if b < 0 then -b else b) = b0 at *
    refine ⟨by decide, by decide, for_it walk_range (fun i σ H' => ∃ (x y : Int) (o4 o5 : Option V), σ = [some (.int a), some (.int b), some (.int x), some (.int y), o4, o5] ∧ H' = H ∧ Eu a0 b0 i x y) ⟨a0, b0, none, none, rfl, rfl, eu_start ha2.1 hb2.1⟩ (fun _ _ _ _ _ => trivial) ?_ ?_⟩
    · rintro i z σ H1 H2 hi ⟨x, y, o4, o5, rfl, rfl, eu⟩ ⟨rfl, rfl⟩
      walk_at "rd"
      refine ite2 (fun h2 => ?_) (fun h2 => ?_)
      · have e := int_t h2
        subst e
        walk_at "rd"
        rw [eu_gcd eu]
        exact q
      · have e := int_f h2
        have hy := eu.nb
        walk_at "rd"
        refine .inl ⟨_, rfl, ?_⟩
        walk_at "rd"
        refine ⟨by omega, ?_⟩
        walk_at "rd"
        exact ⟨_, _, _, _, rfl, rfl, eu_turn eu e⟩
    · rintro σ H1 ⟨x, y, o4, o5, rfl, rfl, eu⟩
      walk_at "rd"
      have e := eu_end eu ha2.2 hb2.2
      subst e
      rw [eu_gcd eu]
      exact q
/-! ### alike -/
def eqOk : Nat → PyData → Prop
  | _, .str x => PyData.strOk x = true
  | _, .int _ => True
  | k + 1, .tuple ds => ds.length ≤ 1000 ∧ ∀ d ∈ ds, eqOk k d
  | _, _ => False
@[irreducible] def spIsInt : Sp := fun vs H Q _ => ∃ i : Int, vs = [.int i] ∧ Q (.bl true) H
theorem ok_is_int {f : Addr} {fd : FuncData} (F : Fun K "_law_is_int" "_law_is_int" s__law_is_int f fd) (m_isinstance : mg "isinstance" = none) (m_int : mg "int" = none) (m_bool : mg "bool" = none) : FnOk P w K mg base CX0 1 f fd ["_law_value"] spIsInt := by
  refine F.ok sc__law_is_int (fun vs H Q E h => ?_) (fun cdv A outer s H vs Q E hr h => ?_)
  · unfold spIsInt at h
    obtain ⟨i, rfl, _⟩ := h
    rfl
  · unfold spIsInt at h
    obtain ⟨i, rfl, q⟩ := h
    refine ⟨_, (pss_one (ps_ret (pe_and (pe_callB (id := "isinstance") call_isi (by rfl) m_isinstance (by decide +kernel) (pa_cons (pv 0) (pa_cons (pe_bltn (v := .ty "int") (by rfl) m_int (by decide +kernel) rfl) pa_nil))) (pe_one (pe_not (pe_callB (id := "isinstance") call_isi (by rfl) m_isinstance (by decide +kernel) (pa_cons (pv 0) (pa_cons (pe_bltn (v := .ty "bool") (by rfl) m_bool (by decide +kernel) rfl) pa_nil)))))))), ?_⟩
    walk_at "rd"
    refine ⟨_, _, _, _, true, rfl, .ty "int", .base (.int _), kit_ty (by decide +kernel), ?_⟩
    walk_at "rd"
    refine ⟨_, _, _, _, false, rfl, .ty "bool", .base (.int _), kit_ty (by decide +kernel), ?_⟩
    walk_at "rd"
    exact q
def spEq (K : PySem.W.Frag) : Nat → Sp
  | 0 => fun _ _ _ _ => False
  | k + 1 => fun vs H Q _ => ∃ (u v : V) (d : PyData), vs = [u, v] ∧ Dp K H u d ∧ Dp K H v d ∧ eqOk k d ∧ ∀ H', Same H H' → Q (.bl true) H'
theorem sh_str {x : Str} (h : PyData.strOk x = true) : SeqAt.shaped (.str x) = true := by
  unfold SeqAt.shaped
  show (PyData.strOk x && _) = true
  rw [h]
  rfl
set_option maxHeartbeats 1000000 in
theorem ok_equal {f : Addr} {fd : FuncData} (F : Fun K "_law_equal" "_law_equal" s__law_equal f fd) (m_isinstance : mg "isinstance" = none) (m_tuple : mg "tuple" = none) (m_str : mg "str" = none) (m_len : mg "len" = none) (m_range : mg "range" = none) (C__law_is_int : Cal P w K mg base "_law_is_int" 1 ["_law_value"] spIsInt)
    (gS : mg "_law_equal" = some (.ref f)) (kS : PySem.W.keepIn K (.ref f) = true) (bS : Binds K fd ["_law_actual", "_law_due"] []) : ∀ k : Nat, FnOk P w K mg base CX0 (k + 2) f fd ["_law_actual", "_law_due"] (spEq K k)
  | 0 => F.ok sc__law_equal (fun vs H Q E h => h.elim) (fun cdv A outer s H vs Q E hr h => h.elim)
  | k + 1 => by
    have C__law_equal : Cal P w K mg base "_law_equal" (k + 2) ["_law_actual", "_law_due"] (spEq K k) := ⟨_, _, ok_equal F m_isinstance m_tuple m_str m_len m_range C__law_is_int gS kS bS k, gS, kS, bS⟩
    refine F.ok sc__law_equal (fun vs H Q E h => ?_) (fun cdv A outer s H vs Q E hr h => ?_)
    · obtain ⟨u, v, d, rfl, _⟩ := h
      rfl
    · obtain ⟨u, v, d, rfl, hu1, hv1, ok, q⟩ := h
      refine ⟨_, (pss_cons (ps_if (pt_val (pe_callB (id := "isinstance") call_isi (by rfl) m_isinstance (by decide +kernel) (pa_cons (pv 1) (pa_cons (pe_bltn (v := .ty "tuple") (by rfl) m_tuple (by decide +kernel) rfl) pa_nil))))
      (pss_cons (ps_if (PW.pt (pw_or (pt_not (pt_val (pe_callB (id := "isinstance") call_isi (by rfl) m_isinstance (by decide +kernel) (pa_cons (pv 0) (pa_cons (pe_bltn (v := .ty "tuple") (by rfl) m_tuple (by decide +kernel) rfl) pa_nil))))) (pw_or1 (pt_cmpR op_ne (pe_callB call_len_seq (by rfl) m_len PySem.boot_len (pa_cons (pv 0) pa_nil)) (pe_callB call_len_seq (by rfl) m_len PySem.boot_len (pa_cons (pv 1) pa_nil)) (nomark _)))))
      (pss_one (ps_ret pe_bl))
      pss_nil)
    (pss_one (ps_ret (pe_cmpR op_eq (pe_callB call_len_seq (by rfl) m_len PySem.boot_len (pa_cons (pe_lc (own := [("_law_k", 2)]) rfl sc__law_equal.nd (pi_range1 (by rfl) m_range (pa_cons (pe_callB call_len_seq (by rfl) m_len PySem.boot_len (pa_cons (pv 1) pa_nil)) pa_nil)) (blkOk_by (N := n__law_equal) (sc := defScope s__law_equal) (by decide +kernel)) (fun _ _ _ _ _ => pg_name (i := 2) sc__law_equal.nd rfl (Or.inl rfl)) (fun _ _ _ _ _ => pts_one (pt_not (pt_val (pe_cal C__law_equal (hr.mono (by omega)) (pa_cons (pe_ix (ix_tupK (K := K) rfl) (pv 0) (pv 2) (fun _ _ => rfl)) (pa_cons (pe_ix (ix_tupK (K := K) rfl) (pv 1) (pv 2) (fun _ _ => rfl)) pa_nil)))))) (fun _ _ _ _ _ => (pv 2))) pa_nil)) pe_int (nomark _)))))
      pss_nil)
    (pss_cons (ps_if (pt_val (pe_callB (id := "isinstance") call_isi (by rfl) m_isinstance (by decide +kernel) (pa_cons (pv 1) (pa_cons (pe_bltn (v := .ty "str") (by rfl) m_str (by decide +kernel) rfl) pa_nil))))
      (pss_one (ps_ret (pe_and (pe_callB (id := "isinstance") call_isi (by rfl) m_isinstance (by decide +kernel) (pa_cons (pv 0) (pa_cons (pe_bltn (v := .ty "str") (by rfl) m_str (by decide +kernel) rfl) pa_nil))) (pe_one (pe_cmpR (op_eqD hr.units) (pv 0) (pv 1) (nomark _))))))
      pss_nil)
    (pss_one (ps_ret (pe_and (pe_cal C__law_is_int (hr.mono (by omega)) (pa_cons (pv 0) pa_nil)) (pe_one (pe_cmpR (op_eqD hr.units) (pv 0) (pv 1) (nomark _)))))))), ?_⟩
      walk_at "rd"
      cases d with
      | str x =>
        cases hu1
        cases hv1
        refine ⟨_, _, _, _, false, rfl, .ty "tuple", .base (.str _), kit_ty (by decide +kernel), ?_⟩
        walk_at "rd"
        refine ⟨_, _, _, _, true, rfl, .ty "str", .base (.str _), kit_ty (by decide +kernel), ?_⟩
        walk_at "rd"
        refine ⟨_, _, _, _, true, rfl, .ty "str", .base (.str _), kit_ty (by decide +kernel), ?_⟩
        walk_at "rd"
        have sx := sh_str (x := x) (by cases k <;> exact ok)
        refine ⟨.str x, .str x, .str _, .str _, sx, sx, ?_⟩
        have e : PyData.eqv (.str x) (.str x) = true := beq_self_eq_true x
        rw [e]
        exact q H (Same.refl H)
      | int i =>
        cases hu1
        cases hv1
        refine ⟨_, _, _, _, false, rfl, .ty "tuple", .base (.int _), kit_ty (by decide +kernel), ?_⟩
        walk_at "rd"
        refine ⟨_, _, _, _, false, rfl, .ty "str", .base (.int _), kit_ty (by decide +kernel), ?_⟩
        walk_at "rd"
        show spIsInt _ _ _ _
        unfold spIsInt
        refine ⟨i, rfl, ?_⟩
        walk_at "rd"
        refine ⟨.int i, .int i, .int _, .int _, rfl, rfl, ?_⟩
        have e : PyData.eqv (.int i) (.int i) = true := beq_self_eq_true i
        rw [e]
        exact q H (Same.refl H)
      | tuple ds =>
        obtain ⟨a, xs, rfl, ha, dxs⟩ := dp_tup hu1
        obtain ⟨b, ys, rfl, hb, dys⟩ := dp_tup hv1
        cases k with
        | zero => exact ok.elim
        | succ k =>
        obtain ⟨dl, okd⟩ := ok
        have xl : xs.length = ds.length := da_len dxs
        have yl : ys.length = ds.length := da_len dys
        refine ⟨_, _, _, _, true, rfl, .ty "tuple", ty_tup hb, kit_ty (by decide +kernel), ?_⟩
        walk_at "rd"
        refine ⟨_, _, _, _, true, rfl, .ty "tuple", ty_tup ha, kit_ty (by decide +kernel), ?_⟩
        walk_at "rd"
        refine ⟨a, xs, rfl, .inr ha, ?_⟩
        walk_at "rd"
        refine ⟨b, ys, rfl, .inr hb, ?_⟩
        walk_at "rd"
        rw [decide_eq_true (show V.int (xs.length : Nat) = V.int (ys.length : Nat) by rw [xl, yl])]
        walk_at "rd"
        refine ⟨b, ys, rfl, .inr hb, ?_⟩
        walk_at "rd"
        refine ⟨by omega, by omega, fun D hD => ?_⟩
        refine lc_it walk_range (fun i H' => Same H H' ∧ H' D = some (.lst [])) ⟨same_new hD, upd_same⟩ (fun i H' _ _ => trivial) ?_ ?_
        · rintro i x H2a H2 hi ⟨s2, hM⟩ ⟨rfl, rfl⟩
          show gName 2 (V.int (0 + ((i : Nat) : Int))) _ _ _
          rw [Int.zero_add]
          have e1 := List.getElem?_eq_getElem (show i < xs.length by omega)
          have e2 := List.getElem?_eq_getElem (show i < ys.length by omega)
          obtain ⟨d1, hd1, dd1⟩ := da_at dxs e1
          obtain ⟨d2, hd2, dd2⟩ := da_at dys e2
          rw [hd1] at hd2
          cases hd2
          refine ⟨rfl, ?_⟩
          walk_at "rd"
          refine ⟨_, _, _, _, rfl, rfl, Bx.Same.tup s2 ha, atI_nat e1, ?_⟩
          walk_at "rd"
          refine ⟨_, _, _, _, rfl, rfl, Bx.Same.tup s2 hb, atI_nat e2, ?_⟩
          refine ⟨_, _, d1, rfl, dp_same s2 dd1, dp_same s2 dd2, okd d1 (List.mem_of_getElem? hd1), fun H3 s3 => ?_⟩
          walk_at "rd"
          exact ⟨s2.trans s3, s3 _ _ hM⟩
        rintro H2 ⟨s2, hM⟩
        walk_at "rd"
        refine ⟨D, _, rfl, .inl (sq hM), ?_⟩
        walk_at "rd"
        exact q H2 s2
      | none => cases k <;> exact ok.elim
      | bool b => cases k <;> exact ok.elim
      | list ds => cases k <;> exact ok.elim
      | dict ds => cases k <;> exact ok.elim
@[irreducible] def spSays : Sp := fun vs H Q _ => ∃ a b : Bool, vs = [.bl a, .bl b] ∧ Q (.bl (decide (a = b))) H
theorem ok_says {f : Addr} {fd : FuncData} (F : Fun K "_law_says" "_law_says" s__law_says f fd) : FnOk P w K mg base CX0 1 f fd ["_law_actual", "_law_due"] spSays := by
  refine F.ok sc__law_says (fun vs H Q E h => ?_) (fun cdv A outer s H vs Q E hr h => ?_)
  · unfold spSays at h
    obtain ⟨a, b, rfl, _⟩ := h
    rfl
  · unfold spSays at h
    obtain ⟨a, b, rfl, q⟩ := h
    refine ⟨_, (pss_cons (ps_if (pt_val (pv 1))
      (pss_one (ps_ret (pe_cmpR op_isBl (pv 0) pe_bl (nomark _))))
      pss_nil)
    (pss_one (ps_ret (pe_cmpR op_isBl (pv 0) pe_bl (nomark _))))), ?_⟩
    walk_at "rd"
    cases b with
    | true =>
      walk_at "rd"
      cases a <;> exact q
    | false =>
      walk_at "rd"
      cases a <;> exact q
end
end K31
namespace K31
local macro_rules | `(tactic| walk_at "rd") => `(tactic| repeat (first | refine ⟨rfl, ?_⟩ | refine ⟨_, rfl, ?_⟩ | refine ⟨_, _, rfl, rfl, ?_⟩ | refine ⟨⟨_, rfl⟩, ?_⟩))
open PySem PySem.Spec PyProof.Rows L2 Bx TL Dx Zx Ow Sup NdefX Px T31 M31
theorem pow64 {i : Int} (h : i.natAbs < 2 ^ 62) : -(2 ^ 64) < i ∧ i < 2 ^ 64 := by omega
section
variable {P : Program} {w : World} {K : PySem.W.Frag} {mg : Str → Option Value} {base : Heap}
@[irreducible] def spFactor (K : PySem.W.Frag) : Sp := fun vs H Q _ => ∃ (a : Addr) (z : Str) (zs : List V) (l : List Tr5), vs = [.ref a, .str z] ∧ SqT K H a zs ∧ DpAll K H zs (l.map tmD) ∧ l.length ≤ 60 ∧ ∀ H', Same H H' → Q (.int (coef l z)) H'
theorem ok_factor {f : Addr} {fd : FuncData} (F : Fun K "_law_factor" "_law_factor" s__law_factor f fd) (m_sum : mg "sum" = none) : FnOk P w K mg base CX0 1 f fd ["_law_terms_here", "_law_name"] (spFactor K) := by
  refine F.ok sc__law_factor (fun vs H Q E h => ?_) (fun cdv A outer s H vs Q E hr h => ?_)
  · unfold spFactor at h
    obtain ⟨a, z, zs, l, rfl, _⟩ := h
    rfl
  · unfold spFactor at h
    obtain ⟨a, z, zs, l, rfl, ha, hz, hl, q⟩ := h
    have zl : zs.length = l.length := by rw [da_len hz, List.length_map]
    refine ⟨_, (pss_one (ps_ret (pe_callB (id := "sum") (cr_sum rfl) (by rfl) m_sum (by decide +kernel) (pa_cons (pe_lc (own := [("_law_pair", 2)]) rfl sc__law_factor.nd (pi_tup (pv 0)) (blkOk_by (N := n__law_factor) (sc := defScope s__law_factor) (by decide +kernel)) (fun _ _ _ _ _ => pg_name (i := 2) sc__law_factor.nd rfl (Or.inl rfl)) (fun _ _ _ _ _ => pts_one (pt_cmpR op_eq (pe_ix (ix_tupK (K := K) rfl) (pv 2) pe_int (fun _ _ => rfl)) (pv 1) (nomark _))) (fun _ _ _ _ _ => (pe_ix (ix_tupK (K := K) rfl) (pv 2) pe_int (fun _ _ => rfl)))) pa_nil)))), ?_⟩
    walk_at "rd"
    refine ⟨⟨_, ha⟩, fun D hD => ?_⟩
    refine lc_it walk_tup (fun i H' => Same H H' ∧ H' D = some (.lst ((((l.take i).filter fun x => decide (x.1 = z)).map (·.2)).map V.int))) ⟨same_new hD, upd_same⟩ (fun i H' _ h => Bx.Same.tup h.1 ha) ?_ ?_
    · rintro i x H2a H2 hi ⟨s2, hM⟩ ⟨rfl, hx⟩
      obtain ⟨y, hy, ya, rfl, hya⟩ := tm_at hz hx
      have hy2 := Bx.Same.tup s2 hya
      refine ⟨rfl, ?_⟩
      walk_at "rd"
      refine ⟨_, _, _, _, rfl, rfl, hy2, atI_nat (j := 0) rfl, ?_⟩
      walk_at "rd"
      have eg : ((l.take (i + 1)).filter fun x => decide (x.1 = z)) = ((l.take i).filter fun x => decide (x.1 = z)) ++ if y.1 = z then [y] else [] := by
        rw [List.take_add_one, hy, List.filter_append]
        congr 1
        by_cases m : y.1 = z <;> simp [m]
      rw [eg]
      refine ite2 (fun m => ?_) (fun m => ?_)
      · have e : y.1 = z := V.str.inj (of_decide_eq_true m)
        rw [if_pos e]
        walk_at "rd"
        refine ⟨_, _, _, _, rfl, rfl, hy2, atI_nat (j := 1) rfl, ?_⟩
        refine ⟨_, hM, ?_, same_at hD s2, ?_⟩
        · rw [List.length_map, List.length_map]
          have z1 := List.length_filter_le (fun x : Tr5 => decide (x.1 = z)) (l.take i)
          have z2 := List.length_take_le' i l
          exact szl (by omega)
        · rw [upd_same, List.map_append, List.map_append]
          rfl
      · have e : ¬ y.1 = z := fun e => m (decide_eq_true (congrArg V.str e))
        rw [if_neg e, List.append_nil]
        exact ⟨s2, hM⟩
    rintro H2 ⟨s2, hM⟩
    rw [zl, List.take_length] at hM
    exact ⟨D, _, rfl, sq hM, q H2 s2⟩
@[irreducible] def spSum (K : PySem.W.Frag) : Sp := fun vs H Q _ => ∃ (v : V) (d : Addr) (l : List Tr5) (g : Str → Int), vs = [v, .ref d] ∧ TmAt K H v l ∧ l.length ≤ 60 ∧ (∀ x ∈ l, x.2.natAbs ≤ 9) ∧ VAt H d g (l.map (·.1)) ∧ ∀ H', Same H H' → Q (.int (lin g l)) H'
theorem ok_sum {f : Addr} {fd : FuncData} (F : Fun K "_law_sum" "_law_sum" s__law_sum f fd) (m_sum : mg "sum" = none) : FnOk P w K mg base CX0 1 f fd ["_law_terms_here", "_law_values_here"] (spSum K) := by
  refine F.ok sc__law_sum (fun vs H Q E h => ?_) (fun cdv A outer s H vs Q E hr h => ?_)
  · unfold spSum at h
    obtain ⟨v, d, l, g, rfl, _⟩ := h
    rfl
  · unfold spSum at h
    obtain ⟨v, d, l, g, rfl, hv, hl, sm, va, q⟩ := h
    have hu := hu_of hr
    obtain ⟨a, zs, rfl, hz, hs⟩ := dp_seq hv
    obtain ⟨kvs, hd, val⟩ := va
    have zl : zs.length = l.length := by rw [da_len hz, List.length_map]
    refine ⟨_, (pss_one (ps_ret (pe_callB (id := "sum") (cr_sum rfl) (by rfl) m_sum (by decide +kernel) (pa_cons (pe_lc (own := [("_law_pair", 2)]) (tt := tYes) rfl sc__law_sum.nd (pi_seq (pv 0)) (blkOk_by (N := n__law_sum) (sc := defScope s__law_sum) (by decide +kernel)) (fun _ _ _ _ _ => pg_name (i := 2) sc__law_sum.nd rfl (Or.inl rfl)) (fun _ _ _ _ _ => pts_nil) (fun _ _ _ _ _ => (pe_op op_mul (pe_ix (ix_tupK (K := K) rfl) (pv 2) pe_int (fun _ _ => rfl)) (pe_dget hu (pv 1) (pe_ix (ix_tupK (K := K) rfl) (pv 2) pe_int (fun _ _ => rfl)) (fun _ _ => rfl))))) pa_nil)))), ?_⟩
    walk_at "rd"
    refine seq_case hs fun J G wk hG D hD => ?_
    refine lc_it wk (fun i H' => Same H H' ∧ H' D = some (.lst (((l.take i).map fun x => x.2 * g x.1).map V.int))) ⟨same_new hD, upd_same⟩ (fun i H' _ h => hG _ h.1) ?_ ?_
    · rintro i x H2a H2 hi ⟨s2, hM⟩ ⟨rfl, hx⟩
      obtain ⟨y, hy, ya, rfl, hya⟩ := tm_at hz hx
      have hy2 := Bx.Same.tup s2 hya
      have ym := List.mem_of_getElem? hy
      obtain ⟨v1, v2⟩ := val y.1 (List.mem_map.mpr ⟨y, ym, rfl⟩)
      refine ⟨rfl, ?_⟩
      walk_at "rd"
      refine ⟨_, _, _, _, rfl, rfl, hy2, atI_nat (j := 1) rfl, ?_⟩
      walk_at "rd"
      refine ⟨_, _, _, _, rfl, rfl, hy2, atI_nat (j := 0) rfl, ?_⟩
      refine ⟨d, .int (g y.1), rfl, by rw [← v1]; exact DGet.k (k := .inr y.1) (s2 _ _ hd), ?_⟩
      have := sm y ym
      refine ⟨_, _, rfl, rfl, .inl (pow64 (by omega)), ?_⟩
      refine ⟨_, hM, ?_, same_at hD s2, ?_⟩
      · rw [List.length_map, List.length_map]
        have z2 := List.length_take_le' i l
        exact szl (by omega)
      · rw [upd_same, List.take_add_one, hy, List.map_append, List.map_append]
        rfl
    rintro H2 ⟨s2, hM⟩
    rw [zl, List.take_length] at hM
    refine ⟨D, _, rfl, sq hM, ?_⟩
    have e : (l.map fun x => x.2 * g x.1).sum = lin g l := by
      unfold lin
      congr 1
      exact List.map_congr_left fun x _ => Int.mul_comm _ _
    rw [e]
    exact q H2 s2
@[irreducible] def spLHolds (K : PySem.W.Frag) : Sp := fun vs H Q _ => ∃ (p d : Addr) (c : Con) (g : Str → Int), vs = [.ref p, .ref d] ∧ Dp K H (.ref p) (coD c) ∧ Ok c ∧ VAt H d g (names c) ∧ ∀ H', Same H H' → Q (.bl (hB g c)) H'
theorem ok_lholds {f : Addr} {fd : FuncData} (F : Fun K "_law_holds" "_law_holds" s__law_holds f fd) (m_int : mg "int" = none) (C__law_sum : Cal P w K mg base "_law_sum" 1 ["_law_terms_here", "_law_values_here"] (spSum K)) : FnOk P w K mg base CX0 2 f fd ["_law_constraint_here", "_law_values_here"] (spLHolds K) := by
  refine F.ok sc__law_holds (fun vs H Q E h => ?_) (fun cdv A outer s H vs Q E hr h => ?_)
  · unfold spLHolds at h
    obtain ⟨p, d, c, g, rfl, _⟩ := h
    rfl
  · unfold spLHolds at h
    obtain ⟨p, d, c, g, rfl, hp, ok, va, q⟩ := h
    obtain ⟨p', b, zs, ep, h3, hb, hz⟩ := co_dp hp
    cases ep
    refine ⟨_, (pss_cons (ps_set (i := 2) sc__law_holds.nd rfl (Or.inl rfl) (pe_op op_sub (pe_cal C__law_sum (hr.mono (by decide)) (pa_cons (pe_ix ix_tup (pv 0) pe_int (fun _ _ => rfl)) (pa_cons (pv 1) pa_nil))) (pe_ix ix_tup (pv 0) pe_int (fun _ _ => rfl))))
    (pss_cons (ps_if (pt_cmpR op_eq (pe_ix ix_tup (pv 0) pe_int (fun _ _ => rfl)) pe_int (nomark _))
      (pss_one (ps_ret (pe_cmpR op_eq (pv 2) pe_int (nomark _))))
      pss_nil)
    (pss_one (ps_ret (pe_cmpR op_eq (pe_op op_mod (pe_callTy (T := "int") call_int1 (by rfl) m_int (by decide +kernel) (pa_cons (pv 2) pa_nil)) (pe_ix ix_tup (pv 0) pe_int (fun _ _ => rfl))) pe_int (nomark _)))))), ?_⟩
    walk_at "rd"
    refine ⟨_, _, _, _, rfl, rfl, h3, atI_nat (j := 0) rfl, ?_⟩
    walk_at "rd"
    show spSum K _ _ _ _
    unfold spSum
    refine ⟨.ref b, d, c.t, g, rfl, .inr (.tup hb hz), by have := ok.ln; omega, ok.sm, va, fun H1 s1 => ?_⟩
    have h31 := Bx.Same.tup s1 h3
    have q1 := q H1 s1
    unfold hB at q1
    have m0 := ok.m0
    generalize lin g c.t = S at q1 ⊢
    walk_at "rd"
    refine ⟨_, _, _, _, rfl, rfl, h31, atI_nat (j := 2) rfl, ?_⟩
    walk_at "rd"
    refine ⟨_, _, _, _, rfl, rfl, h31, atI_nat (j := 1) rfl, ?_⟩
    walk_at "rd"
    refine ite2 (fun h0 => ?_) (fun h0 => ?_)
    · have e := int_t h0
      walk_at "rd"
      rw [e] at q1
      rw [show decide (V.int (S - c.r) = V.int 0) = decide ((0 : Int) ∣ S - c.r) from decide_eq_decide.mpr ⟨fun z => by rw [V.int.inj z]; exact Int.dvd_zero 0, fun z => by rw [Int.zero_dvd.mp z]⟩]
      exact q1
    · have e := int_f h0
      walk_at "rd"
      refine .inl ⟨_, rfl, ?_⟩
      walk_at "rd"
      refine ⟨_, _, _, _, rfl, rfl, h31, atI_nat (j := 1) rfl, ?_⟩
      refine ⟨_, _, rfl, rfl, by omega, ?_⟩
      walk_at "rd"
      rw [show decide (V.int ((S - c.r) % c.m) = V.int 0) = decide (c.m ∣ S - c.r) from by rw [Bool.eq_iff_iff, dvd_dec (show c.m ≠ 0 from e), decide_eq_true_iff]]
      exact q1
end
end K31
namespace K31
local macro_rules | `(tactic| walk_at "rd") => `(tactic| repeat (first | refine ⟨rfl, ?_⟩ | refine ⟨_, rfl, ?_⟩ | refine ⟨_, _, rfl, rfl, ?_⟩ | refine ⟨⟨_, rfl⟩, ?_⟩))
open PySem PySem.Spec PyProof.Rows L2 Bx TL Dx Zx Ow Sup NdefX Px T31 M31
theorem asc_chain : ∀ {l : List Str}, (∀ (j : Nat) (x y : Str), l[j]? = some x → l[j + 1]? = some y → x.cps.toList < y.cps.toList) → Asc l
  | [], _ => .nil
  | [x], _ => List.pairwise_singleton _ _
  | x :: y :: l, h => by
    have ih : Asc (y :: l) := asc_chain fun j a b ha hb => h (j + 1) a b ha hb
    refine List.pairwise_cons.mpr ⟨fun b hb => ?_, ih⟩
    have xy := h 0 x y rfl rfl
    rcases List.mem_cons.mp hb with rfl | hb
    · exact xy
    · exact List.lt_trans xy ((List.pairwise_cons.mp ih).1 b hb)
theorem asc_at {l : List Str} (h : Asc l) {j : Nat} {x y : Str} (hx : l[j]? = some x) (hy : l[j + 1]? = some y) : x.cps.toList < y.cps.toList := by
  obtain ⟨h1, e1⟩ := List.getElem?_eq_some_iff.mp hx
  obtain ⟨h2, e2⟩ := List.getElem?_eq_some_iff.mp hy
  rw [← e1, ← e2]
  exact List.pairwise_iff_getElem.mp h j (j + 1) h1 h2 (by omega)
/-- the law's turn at place j -/
def goodAt (ns : List Str) (t : List Tr5) (j : Nat) : Prop := ∀ x, t[j]? = some x → x.2 ≠ 0 ∧ x.1 ∈ ns ∧ ∀ y, 0 < j → t[j - 1]? = some y → y.1.cps.toList < x.1.cps.toList
theorem valid_iff {ns : List Str} {c : Con} : validB ns c = true ↔ (∀ j, j < c.t.length → goodAt ns c.t j) ∧ 0 ≤ c.m := by
  unfold validB okT
  rw [Bool.and_eq_true, Bool.and_eq_true, Bool.and_eq_true, decide_eq_true_iff, ascB_iff, List.all_eq_true, List.all_eq_true]
  constructor
  · rintro ⟨h1, ⟨h2, h3⟩, h4⟩
    refine ⟨fun j hj x hx => ⟨of_decide_eq_true (h3 x (List.mem_of_getElem? hx)), of_decide_eq_true (h1 x.1 (List.mem_map.mpr ⟨x, List.mem_of_getElem? hx, rfl⟩)), fun y j0 hy => ?_⟩, h4⟩
    refine asc_at h2 (j := j - 1) (by rw [List.getElem?_map, hy]; rfl) (by rw [Nat.sub_add_cancel (by omega), List.getElem?_map, hx]; rfl)
  · rintro ⟨h, h4⟩
    refine ⟨fun z hz => ?_, ⟨asc_chain fun j x y hx hy => ?_, fun x hx => ?_⟩, h4⟩
    · obtain ⟨x, hx, rfl⟩ := List.mem_map.mp hz
      obtain ⟨j, hj, e⟩ := List.mem_iff_getElem.mp hx
      exact decide_eq_true (h j hj x (by rw [List.getElem?_eq_getElem hj, e])).2.1
    · rw [List.getElem?_map] at hx hy
      obtain ⟨a, ha, rfl⟩ := Option.map_eq_some_iff.mp hx
      obtain ⟨b, hb, rfl⟩ := Option.map_eq_some_iff.mp hy
      exact (h (j + 1) (List.getElem?_eq_some_iff.mp hb).1 b hb).2.2 a (by omega) (by rw [Nat.add_sub_cancel]; exact ha)
    · obtain ⟨j, hj, e⟩ := List.mem_iff_getElem.mp hx
      exact decide_eq_true (h j hj x (by rw [List.getElem?_eq_getElem hj, e])).1
section
variable {P : Program} {w : World} {K : PySem.W.Frag} {mg : Str → Option Value} {base : Heap}
@[irreducible] def spLValid (K : PySem.W.Frag) : Sp := fun vs H Q _ => ∃ (na p : Addr) (ns : List Str) (c : Con), vs = [.ref na, .ref p] ∧ SqL K H na (ns.map V.str) ∧ Dp K H (.ref p) (coD c) ∧ c.t.length ≤ 60 ∧ Q (.bl (validB ns c)) H
set_option maxHeartbeats 1000000 in
theorem ok_lvalid {f : Addr} {fd : FuncData} (F : Fun K "_law_valid" "_law_valid" s__law_valid f fd) (m_range : mg "range" = none) (m_len : mg "len" = none) : FnOk P w K mg base CX0 1 f fd ["_law_names_here", "_law_constraint_here"] (spLValid K) := by
  refine F.ok sc__law_valid (fun vs H Q E h => ?_) (fun cdv A outer s H vs Q E hr h => ?_)
  · unfold spLValid at h
    obtain ⟨na, p, ns, c, rfl, _⟩ := h
    rfl
  · unfold spLValid at h
    obtain ⟨na, p, ns, c, rfl, hna, hp, cl, q⟩ := h
    obtain ⟨p', b, zs, ep, h3, hb, hz⟩ := co_dp hp
    cases ep
    have zl : zs.length = c.t.length := by rw [da_len hz, List.length_map]
    refine ⟨_, (pss_cons (ps_for PassesOwn.never rfl (pi_range1 (by rfl) m_range (pa_cons (pe_callB call_len_seq (by rfl) m_len PySem.boot_len (pa_cons (pe_ix ix_tup (pv 1) pe_int (fun _ _ => rfl)) pa_nil)) pa_nil)) (pg_name (i := 2) sc__law_valid.nd rfl (Or.inl rfl))
      (pss_cons (ps_set (i := 3) sc__law_valid.nd rfl (Or.inl rfl) (pe_ix ix_tup (pe_ix ix_tup (pv 1) pe_int (fun _ _ => rfl)) (pv 2) (fun _ _ => rfl)))
    (pss_cons (ps_if (PW.pt (pw_or (pt_cmpR op_eq (pe_ix ix_tup (pv 3) pe_int (fun _ _ => rfl)) pe_int (nomark _)) (pw_or1 (pt_cmpR op_notIn_seq (pe_ix ix_tup (pv 3) pe_int (fun _ _ => rfl)) (pv 0) (by rfl)))))
      (pss_one (ps_ret pe_bl))
      pss_nil)
    (pss_one (ps_if (PW.pt (pw_and (pt_cmpR op_gt (pv 2) pe_int (nomark _)) (pw_and1 (pt_cmpR op_ge_str (pe_ix ix_tup (pe_ix ix_tup (pe_ix ix_tup (pv 1) pe_int (fun _ _ => rfl)) (pe_op op_sub (pv 2) pe_int) (fun _ _ => rfl)) pe_int (fun _ _ => rfl)) (pe_ix ix_tup (pv 3) pe_int (fun _ _ => rfl)) (nomark _)))))
      (pss_one (ps_ret pe_bl))
      pss_nil)))))
    (pss_one (ps_ret (pe_cmpR op_ge (pe_ix ix_tup (pv 1) pe_int (fun _ _ => rfl)) pe_int (nomark _))))), ?_⟩
    walk_at "rd"
    refine ⟨_, _, _, _, rfl, rfl, h3, atI_nat (j := 0) rfl, ?_⟩
    refine ⟨b, _, rfl, .inr hb, ?_⟩
    walk_at "rd"
    refine ⟨by omega, by omega, for_it walk_range (fun i σ H' => ∃ (o2 o3 : Option V), σ = [some (.ref na), some (.ref p), o2, o3] ∧ H' = H ∧ ∀ j, j < i → goodAt ns c.t j) ⟨none, none, rfl, rfl, fun j hj => absurd hj (by omega)⟩ (fun _ _ _ _ _ => trivial) ?_ ?_⟩
    · rintro i x σ H2a H2 hi ⟨o2, o3, rfl, rfl, ok⟩ ⟨rfl, rfl⟩
      have e1 := List.getElem?_eq_getElem hi
      obtain ⟨y, hy, ya, ey, hya⟩ := tm_at hz e1
      rw [ey] at e1
      have bad : ¬ goodAt ns c.t i → Q (.bl false) H2 := fun n => by
        have e : validB ns c = false := Bool.eq_false_iff.mpr fun z => n ((valid_iff.mp z).1 i (by omega))
        rw [e] at q
        exact q
      walk_at "rd"
      refine ⟨_, _, _, _, rfl, rfl, h3, atI_nat (j := 0) rfl, ?_⟩
      walk_at "rd"
      refine ⟨_, _, _, _, rfl, rfl, hb, by rw [Int.zero_add]; exact atI_nat e1, ?_⟩
      walk_at "rd"
      refine ⟨_, _, _, _, rfl, rfl, hya, atI_nat (j := 1) rfl, ?_⟩
      walk_at "rd"
      refine ite2 (fun h0 => ?_) (fun h0 => ?_)
      · walk_at "rd"
        exact bad fun g => (g y hy).1 (int_t h0)
      · have y0 := int_f h0
        walk_at "rd"
        refine ⟨_, _, _, _, rfl, rfl, hya, atI_nat (j := 0) rfl, ?_⟩
        walk_at "rd"
        refine ⟨na, _, rfl, .inl hna, rfl, Bx.flat_all _, ?_⟩
        rw [Bx.inV_str]
        refine ⟨_, rfl, ite2 (fun h1 => ?_) (fun h1 => ?_)⟩
        · have nin : y.1 ∉ ns := fun h => by
            rw [if_pos rfl] at h1
            simp [h] at h1
          walk_at "rd"
          exact bad fun g => nin (g y hy).2.1
        · have yin : y.1 ∈ ns := by
            by_cases h : y.1 ∈ ns
            · exact h
            · rw [if_pos rfl] at h1
              simp [h] at h1
          walk_at "rd"
          have gi : (∀ z, 0 < i → c.t[i - 1]? = some z → z.1.cps.toList < y.1.cps.toList) → ∀ j, j < i + 1 → goodAt ns c.t j := fun g j hj => by
            rcases Nat.lt_or_ge j i with l | l
            · exact ok j l
            · obtain rfl : j = i := by omega
              intro x hx
              rw [hy] at hx
              cases hx
              exact ⟨y0, yin, g⟩
          refine ite2 (fun h2 => ?_) (fun h2 => ?_)
          · have i0 : 0 < i := by
              have z : (0 : Int) < 0 + ((i : Nat) : Int) := of_decide_eq_true h2
              omega
            have e2 := List.getElem?_eq_getElem (show i - 1 < zs.length by omega)
            obtain ⟨u, hu, ua, eu, hua⟩ := tm_at hz e2
            rw [eu] at e2
            walk_at "rd"
            refine ⟨_, _, _, _, rfl, rfl, h3, atI_nat (j := 0) rfl, ?_⟩
            walk_at "rd"
            have ei : (0 : Int) + ((i : Nat) : Int) - 1 = ((i - 1 : Nat) : Int) := by omega
            refine ⟨_, _, _, _, rfl, rfl, hb, (by show atI zs (0 + ((i : Nat) : Int) - 1) = _; rw [ei]; exact atI_nat e2), ?_⟩
            walk_at "rd"
            refine ⟨_, _, _, _, rfl, rfl, hua, atI_nat (j := 0) rfl, ?_⟩
            walk_at "rd"
            refine ⟨_, _, _, _, rfl, rfl, hya, atI_nat (j := 0) rfl, ?_⟩
            walk_at "rd"
            refine ite2 (fun h4 => ?_) (fun h4 => ?_)
            · walk_at "rd"
              refine bad fun g => ?_
              have := (g y hy).2.2 u i0 hu
              simp [this] at h4
            · walk_at "rd"
              refine gi fun z _ hz' => ?_
              rw [hu] at hz'
              cases hz'
              by_cases l : u.1.cps.toList < y.1.cps.toList
              · exact l
              · simp [l] at h4
          · have i0 : i = 0 := by
              have z : ¬ (0 : Int) < 0 + ((i : Nat) : Int) := fun z => h2 (decide_eq_true z)
              omega
            walk_at "rd"
            exact gi fun z hz0 => absurd hz0 (by omega)
    · rintro σ H2 ⟨o2, o3, rfl, rfl, ok⟩
      rw [zl] at ok
      walk_at "rd"
      refine ⟨_, _, _, _, rfl, rfl, h3, atI_nat (j := 1) rfl, ?_⟩
      walk_at "rd"
      have e : validB ns c = decide (0 ≤ c.m) := by
        rw [Bool.eq_iff_iff, valid_iff, decide_eq_true_iff]
        exact ⟨fun h => h.2, fun h => ⟨ok, h⟩⟩
      rw [e] at q
      exact q
end
end K31
namespace K31
local macro_rules | `(tactic| walk_at "rd") => `(tactic| repeat (first | refine ⟨rfl, ?_⟩ | refine ⟨_, rfl, ?_⟩ | refine ⟨_, _, rfl, rfl, ?_⟩ | refine ⟨⟨_, rfl⟩, ?_⟩))
open PySem PySem.Spec PyProof.Rows L2 Bx TL Dx Zx Ow Sup NdefX Px T31 M31
theorem st_gi {t : TS} {i : Nat} {D : Ends} {rest : TS} {σ : List (Option V)} {H : Hp} (R : V → Hp → Prop) (h : ∀ D' : Ends, (∀ v H', R v H' → D'.nx (σ.set i (some v)) H') → t D' σ H) (k : ∀ v H', R v H' → rest D (σ.set i (some v)) H') : tSeq t rest D σ H :=
  h { D with nx := rest D } k
theorem sub_snoc {ms ns : List Str} {i : Nat} {n : Str} (h : ms.Sublist (ns.take i)) (hn : ns[i]? = some n) : (ms ++ [n]).Sublist (ns.take (i + 1)) := by
  rw [List.take_add_one, hn]
  exact h.append (List.Sublist.refl _)
theorem sub_skip {ms ns : List Str} {i : Nat} (h : ms.Sublist (ns.take i)) : ms.Sublist (ns.take (i + 1)) := by
  rw [List.take_add_one]
  exact h.trans (List.sublist_append_left _ _)
def pA : List Str := ["a", "a1", "b", "b.c", "c9", "q7", "zz"]
def pB : List Str := ["gate", "gate.x", "h", "h10", "h9", "w", "w.b.c"]
/-- the names that no pool has -/
def frs5 : List Str := ["aa", "b0", "h1", "m.x", "zz9"]
/-- a pool of names -/
structure Pool (p : List Str) : Prop where
  asc : Asc p
  n5 : ∀ z ∈ p, z ∈ N5
  ln : p.length = 7
  fr : ∀ z ∈ p, z ∉ frs5
theorem poolA : Pool pA := ⟨asc_of (by decide +kernel) (by decide +kernel), by decide +kernel, rfl, by decide +kernel⟩
theorem poolB : Pool pB := ⟨asc_of (by decide +kernel) (by decide +kernel), by decide +kernel, rfl, by decide +kernel⟩
/-- the law's names -/
structure Nm (ns : List Str) : Prop where
  asc : Asc ns
  n5 : ∀ z ∈ ns, z ∈ N5
  ln : ns.length ≤ 4
  fr : ∀ z ∈ ns, z ∉ frs5
section
variable {P : Program} {w : World} {K : PySem.W.Frag} {mg : Str → Option Value} {base : Heap}
@[irreducible] def spNames (K : PySem.W.Frag) : Sp := fun vs H Q _ => ∃ (s : Addr) (k : Int), vs = [.ref s, .int k] ∧ Src H s ∧ k ≤ 4 ∧ ∀ (r : Addr) (ns : List Str) (H' : Hp), SameBut s H H' → Src H' s → SqT K H' r (ns.map V.str) → Nm ns → Q (.ref r) H'
set_option maxHeartbeats 1000000 in
theorem ok_names {f : Addr} {fd : FuncData} (F : Fun K "_law_names" "_law_names" s__law_names f fd) (m_range : mg "range" = none) (m_len : mg "len" = none) (m_tuple : mg "tuple" = none) (C__law_draw : CDraw P w K mg base) : FnOk P w K mg base CX0 2 f fd ["_law_source_here", "_law_count"] (spNames K) := by
  refine F.ok sc__law_names (fun vs H Q E h => ?_) (fun cdv A outer s H vs Q E hr h => ?_)
  · unfold spNames at h
    obtain ⟨s, k, rfl, _⟩ := h
    rfl
  · unfold spNames at h
    obtain ⟨src, k, rfl, hA, k4, q⟩ := h
    refine ⟨_, (pss_cons (ps_set (i := 2) sc__law_names.nd rfl (Or.inl rfl) (pe_lst (pa_cons pe_str (pa_cons pe_str (pa_cons pe_str (pa_cons pe_str (pa_cons pe_str (pa_cons pe_str (pa_cons pe_str pa_nil)))))))))
    (pss_cons (ps_if (pt_cmpR op_eq (pe_cal C__law_draw (hr.mono (by decide)) (pa_cons (pv 0) (pa_cons pe_int pa_nil))) pe_int (nomark _))
      (pss_one (ps_set (i := 2) sc__law_names.nd rfl (Or.inl rfl) (pe_lst (pa_cons pe_str (pa_cons pe_str (pa_cons pe_str (pa_cons pe_str (pa_cons pe_str (pa_cons pe_str (pa_cons pe_str pa_nil))))))))))
      pss_nil)
    (pss_cons (ps_set (i := 3) sc__law_names.nd rfl (Or.inl rfl) (pe_lst pa_nil))
    (pss_cons (ps_for PassesOwn.never rfl (pi_range1 (by rfl) m_range (pa_cons pe_int pa_nil)) (pg_name (i := 4) sc__law_names.nd rfl (Or.inl rfl))
      (pss_cons (ps_set (i := 5) sc__law_names.nd rfl (Or.inl rfl) (pe_op op_sub (pv 1) (pe_callB call_len_seq (by rfl) m_len PySem.boot_len (pa_cons (pv 3) pa_nil))))
    (pss_one (ps_if (PW.pt (pw_and (pt_cmpR op_gt (pv 5) pe_int (nomark _)) (pw_and1 (PW.pt (pw_or (pt_cmpR op_le (pe_op op_sub pe_int (pv 4)) (pv 5) (nomark _)) (pw_or1 (pt_cmpR op_eq (pe_cal C__law_draw (hr.mono (by decide)) (pa_cons (pv 0) (pa_cons pe_int pa_nil))) pe_int (nomark _))))))))
      (pss_one (ps_expr (pe_bm PySem.F.plainAttrs_list PySem.F.slot_list_append PySem.F.type_list_append mt_append (pv 3) (pa_cons (pe_ix ix_list (pv 2) (pv 4) (fun _ _ => rfl)) pa_nil))))
      pss_nil))))
    (pss_one (ps_ret (pe_callTy (T := "tuple") call_tuple_of (by rfl) m_tuple (by decide +kernel) (pa_cons (pv 3) pa_nil)))))))), ?_⟩
    walk_at "rd"
    refine ⟨sz (by show 7 ≤ 100000; decide), fun l0 nl0 => ?_⟩
    have ls0 := src_ne hA nl0
    have u0 := same_new nl0 (o := .lst (pA.map V.str))
    have hl0 : (upd H l0 (.lst (pA.map V.str))) l0 = some (.lst (pA.map V.str)) := upd_same
    have hA0 := src_same hA u0
    dsimp only [gName]
    refine st_gi (i := 2) (fun v H' => SameBut src H H' ∧ Src H' src ∧ ∃ (l : Addr) (p : List Str), v = .ref l ∧ src ≠ l ∧ H' l = some (.lst (p.map V.str)) ∧ Pool p) (fun D' hD' => ?_) ?_
    · walk_at "rd"
      refine draw_of (lim := 2) hA0 (by decide) fun r H1 _ _ s1 hA1 => ?_
      have b01 := but_new nl0 s1
      walk_at "rd"
      refine ite2 (fun h => ?_) (fun h => ?_)
      · walk_at "rd"
        refine ⟨sz (by show 7 ≤ 100000; decide), fun l1 nl1 => ?_⟩
        have u1 := same_new nl1 (o := .lst (pB.map V.str))
        exact hD' (.ref l1) _ ⟨b01.trans (Bx.Same.but u1), src_same hA1 u1, l1, pB, rfl, src_ne hA1 nl1, upd_same, poolB⟩
      · walk_at "rd"
        exact hD' (.ref l0) H1 ⟨b01, hA1, l0, pA, rfl, ls0, s1 _ _ ls0.symm hl0, poolA⟩
    rintro v H2 ⟨s2, hA2, l, p, rfl, ls, hl, pl⟩
    walk_at "rd"
    refine ⟨sz (by decide), fun L nL => ?_⟩
    have Ls := src_ne hA2 nL
    have u3 := same_new nL (o := .lst ([] : List V))
    have hL3 := upd_same (H := H2) (a := L) (o := .lst ([] : List V))
    have hA3 := src_same hA2 u3
    have lL : l ≠ L := ne_of_none hl nL
    have hl3 := u3 _ _ hl
    walk_at "rd"
    refine ⟨by omega, by omega, for_it walk_range (fun i σ H' => ∃ (o4 o5 : Option V), σ = [some (.ref src), some (.int k), some (.ref l), some (.ref L), o4, o5] ∧ SameBut src H2 H' ∧ Src H' src ∧ H' l = some (.lst (p.map V.str)) ∧ ∃ ms : List Str, H' L = some (.lst (ms.map V.str)) ∧ ms.Sublist (p.take i) ∧ (ms = [] ∨ ((ms.length : Nat) : Int) ≤ k))
      ⟨none, none, rfl, Bx.Same.but u3, hA3, hl3, [], hL3, List.nil_sublist _, .inl rfl⟩ (fun _ _ _ _ _ => trivial) ?_ ?_⟩
    · rintro i x σ Ha H4 hi ⟨o4, o5, rfl, s4, hA4, hl4, ms, hL4, sb, le⟩ ⟨rfl, rfl⟩
      have hi7 : i < 7 := hi
      have pl7 := pl.ln
      have ei := List.getElem?_eq_getElem (show i < p.length by omega)
      have keep : ∀ {Hx : Hp}, SameBut src H4 Hx → Src Hx src → SameBut src H2 Hx ∧ Src Hx src ∧ Hx l = some (.lst (p.map V.str)) ∧ ∃ ms : List Str, Hx L = some (.lst (ms.map V.str)) ∧ ms.Sublist (p.take (i + 1)) ∧ (ms = [] ∨ ((ms.length : Nat) : Int) ≤ k) := fun {Hx} sx ax => ⟨s4.trans sx, ax, sx _ _ ls.symm hl4, ms, sx _ _ Ls.symm hL4, sub_skip sb, le⟩
      walk_at "rd"
      refine ⟨L, _, rfl, .inl (sq hL4), ?_⟩
      rw [List.length_map]
      walk_at "rd"
      refine ite2 (fun h1 => ?_) (fun h1 => ?_)
      · have l0 : (0 : Int) < k - ((ms.length : Nat) : Int) := of_decide_eq_true h1
        walk_at "rd"
        have fin : ∀ {Hx : Hp}, SameBut src H4 Hx → Src Hx src → SameBut src H2 (upd Hx L (.lst (ms.map V.str ++ [V.str p[i]]))) ∧ Src (upd Hx L (.lst (ms.map V.str ++ [V.str p[i]]))) src ∧ (upd Hx L (.lst (ms.map V.str ++ [V.str p[i]]))) l = some (.lst (p.map V.str)) ∧ ∃ ms' : List Str, (upd Hx L (.lst (ms.map V.str ++ [V.str p[i]]))) L = some (.lst (ms'.map V.str)) ∧ ms'.Sublist (p.take (i + 1)) ∧ (ms' = [] ∨ ((ms'.length : Nat) : Int) ≤ k) := fun {Hx} sx ax => by
          refine ⟨but_at nL (s4.trans sx), src_upd ax Ls, by rw [upd_ne lL]; exact sx _ _ ls.symm hl4, ms ++ [p[i]], ?_, sub_snoc sb ei, .inr ?_⟩
          · rw [upd_same, List.map_append]
            rfl
          · rw [List.length_append]
            show (((ms.length + 1 : Nat)) : Int) ≤ k
            omega
        have ml : ms.length ≤ 7 := by
          have := sb.length_le
          have := List.length_take_le' i p
          omega
        refine ite2 (fun h2 => ?_) (fun h2 => ?_)
        · walk_at "rd"
          refine ⟨.inl ⟨rfl, _, sq hL4⟩, ?_⟩
          walk_at "rd"
          refine ⟨_, _, _, _, rfl, rfl, sq hl4, by rw [Int.zero_add]; exact atI_nat (by rw [List.getElem?_map, ei]; rfl), ?_⟩
          refine ⟨L, _, _, rfl, rfl, hL4, szl (by rw [List.length_map]; omega), ?_⟩
          exact ⟨_, _, rfl, fin (SameBut.refl _ _) hA4⟩
        · walk_at "rd"
          refine draw_of (lim := 2) hA4 (by decide) fun r H5 _ _ s5 hA5 => ?_
          walk_at "rd"
          refine ite2 (fun h3 => ?_) (fun h3 => ?_)
          · have hL5 := s5 _ _ Ls.symm hL4
            walk_at "rd"
            refine ⟨.inl ⟨rfl, _, sq hL5⟩, ?_⟩
            walk_at "rd"
            refine ⟨_, _, _, _, rfl, rfl, sq (s5 _ _ ls.symm hl4), by rw [Int.zero_add]; exact atI_nat (by rw [List.getElem?_map, ei]; rfl), ?_⟩
            refine ⟨L, _, _, rfl, rfl, hL5, szl (by rw [List.length_map]; omega), ?_⟩
            exact ⟨_, _, rfl, fin s5 hA5⟩
          · walk_at "rd"
            exact ⟨_, _, rfl, keep s5 hA5⟩
      · walk_at "rd"
        exact ⟨_, _, rfl, keep (SameBut.refl _ _) hA4⟩
    · rintro σ H4 ⟨o4, o5, rfl, s4, hA4, hl4, ms, hL4, sb, le⟩
      have sb2 : ms.Sublist p := sb.trans (List.take_sublist _ _)
      walk_at "rd"
      refine ⟨L, _, rfl, .inl ⟨sq hL4, fun r nr => ?_⟩⟩
      have sr := same_new nr (o := .tup (ms.map V.str))
      refine q r ms _ (s2.trans (s4.trans (Bx.Same.but sr))) (src_same hA4 sr) (sqt upd_same) ⟨List.Pairwise.sublist sb2 pl.asc, fun z hz => pl.n5 z (sb2.subset hz), ?_, fun z hz => pl.fr z (sb2.subset hz)⟩
      rcases le with e | e
      · rw [e]
        exact Nat.zero_le _
      · omega
end
end K31
namespace K31
local macro_rules | `(tactic| walk_at "rd") => `(tactic| repeat (first | refine ⟨rfl, ?_⟩ | refine ⟨_, rfl, ?_⟩ | refine ⟨_, _, rfl, rfl, ?_⟩ | refine ⟨⟨_, rfl⟩, ?_⟩))
open PySem PySem.Spec PyProof.Rows L2 Bx TL Dx Zx Ow Sup NdefX Px T31 M31
theorem put_new {kvs : List (Key × V)} {k : Key} {v : V} (h : ∀ kv ∈ kvs, kv.1 ≠ k) : putK kvs k v = kvs ++ [(k, v)] := by
  unfold putK
  have e : (kvs.any fun kv => decide (kv.1 = k)) = false := by
    rw [List.any_eq_false]
    intro kv hk
    simp only [decide_eq_true_eq]
    exact h kv hk
  rw [e]
  rfl
abbrev As := List (Str × Int)
def asV (l : As) : List (Key × V) := l.map fun p => (.inr p.1, .int p.2)
def vl (l : As) (z : Str) : Int := ((l.find? fun p => decide (p.1 = z)).map (·.2)).getD 0
theorem val_as : ∀ (l : As) (z : Str), valV (asV l) (.inr z) = ((l.find? fun p => decide (p.1 = z)).map (·.2)).map V.int
  | [], _ => rfl
  | p :: r, z => by
    have ih := val_as r z
    by_cases e : p.1 = z
    · have e2 : ((.inr p.1 : Key), V.int p.2).1 = .inr z := congrArg Sum.inr e
      show valV (((.inr p.1 : Key), V.int p.2) :: asV r) (.inr z) = _
      rw [valV_pos e2, List.find?_cons, decide_eq_true e]
      rfl
    · have e2 : ¬ ((.inr p.1 : Key), V.int p.2).1 = .inr z := fun h => e (Sum.inr.inj h)
      show valV (((.inr p.1 : Key), V.int p.2) :: asV r) (.inr z) = _
      rw [valV_neg e2, List.find?_cons, decide_eq_false e]
      exact ih
theorem has_as {l : As} {z : Str} (h : z ∈ l.map (·.1)) : valV (asV l) (.inr z) = some (.int (vl l z)) := by
  rw [val_as]
  unfold vl
  cases e : l.find? fun p => decide (p.1 = z) with
  | none =>
    obtain ⟨p, hp, rfl⟩ := List.mem_map.mp h
    have := List.find?_eq_none.mp e p hp
    simp at this
  | some p => rfl
theorem put_as {l : As} {z : Str} {v : Int} (h : z ∉ l.map (·.1)) : putK (asV l) (.inr z) (.int v) = asV (l ++ [(z, v)]) := by
  rw [put_new fun kv hk => ?_]
  · unfold asV
    rw [List.map_append]
    rfl
  · obtain ⟨p, hp, rfl⟩ := List.mem_map.mp hk
    exact fun z2 => h (List.mem_map.mpr ⟨p, hp, Sum.inr.inj z2⟩)
theorem nd_take {α : Type} {l : List α} (nd : l.Nodup) {i : Nat} {c : α} (h : l[i]? = some c) : c ∉ l.take i := by
  intro m
  rw [← List.take_append_drop i l] at nd
  exact (List.nodup_append.mp nd).2.2 c m c (List.mem_iff_getElem?.mpr ⟨0, by rw [List.getElem?_drop]; exact h⟩) rfl
theorem put_as2 {l : As} {z : Str} {v v' : Int} (h : z ∉ l.map (·.1)) : putK (asV (l ++ [(z, v)])) (.inr z) (.int v') = asV (l ++ [(z, v')]) := by
  rw [← put_as h]
  have e : putK (putK (asV l) (.inr z) (.int v)) (.inr z) (.int v') = putK (asV l) (.inr z) (.int v') := by
    have n : ∀ kv ∈ asV l, kv.1 ≠ .inr z := fun kv hk => by
      obtain ⟨p, hp, rfl⟩ := List.mem_map.mp hk
      exact fun z2 => h (List.mem_map.mpr ⟨p, hp, Sum.inr.inj z2⟩)
    rw [put_new n, put_new n]
    unfold putK
    rw [if_pos (by simp), List.map_append]
    congr 1
    · refine (List.map_congr_left fun kv hk => ?_).trans (List.map_id _)
      rw [if_neg (n kv hk)]
      rfl
    · simp
  rw [e, put_as h]
theorem vl_size {l : As} {B : Nat} (h : ∀ p ∈ l, p.2.natAbs ≤ B) (z : Str) : (vl l z).natAbs ≤ B := by
  unfold vl
  cases e : l.find? fun p => decide (p.1 = z) with
  | none => exact Nat.zero_le _
  | some p => exact h p (List.mem_of_find?_eq_some e)
section
variable {P : Program} {w : World} {K : PySem.W.Frag} {mg : Str → Option Value} {base : Heap}
theorem vat_of {H : Hp} {d : Addr} {l : As} {zs : List Str} (hd : H d = some (.dK (asV l))) (hk : ∀ z ∈ zs, z ∈ l.map (·.1)) (hs : ∀ p ∈ l, p.2.natAbs ≤ 2 ^ 40) : VAt H d (vl l) zs :=
  ⟨asV l, hd, fun z hz => ⟨has_as (hk z hz), Nat.lt_of_le_of_lt (vl_size hs z) (by decide)⟩⟩
@[irreducible] def spTerms (K : PySem.W.Frag) : Sp := fun vs H Q _ => ∃ (s na : Addr) (ns : List Str), vs = [.ref s, .ref na] ∧ Src H s ∧ SqT K H na (ns.map V.str) ∧ ns.length ≤ 10 ∧ ∀ (r : Addr) (zs : List V) (l : List Tr5) (H' : Hp), SameBut s H H' → Src H' s → SqT K H' r zs → DpAll K H' zs (l.map tmD) → (l.map (·.1)).Sublist ns → (∀ x ∈ l, x.2 ≠ 0 ∧ x.2.natAbs ≤ 9) → Q (.ref r) H'
set_option maxHeartbeats 1000000 in
theorem ok_terms {f : Addr} {fd : FuncData} (F : Fun K "_law_terms" "_law_terms" s__law_terms f fd) (m_tuple : mg "tuple" = none) (C__law_draw : CDraw P w K mg base) : FnOk P w K mg base CX0 2 f fd ["_law_source_here", "_law_names_here"] (spTerms K) := by
  refine F.ok sc__law_terms (fun vs H Q E h => ?_) (fun cdv A outer s H vs Q E hr h => ?_)
  · unfold spTerms at h
    obtain ⟨s, na, ns, rfl, _⟩ := h
    rfl
  · unfold spTerms at h
    obtain ⟨src, na, ns, rfl, hA, hna, nl, q⟩ := h
    refine ⟨_, (pss_cons (ps_set (i := 2) sc__law_terms.nd rfl (Or.inl rfl) (pe_ix ix_list (pe_lst (pa_cons pe_int (pa_cons pe_int (pa_cons pe_int (pa_cons pe_int pa_nil))))) (pe_cal C__law_draw (hr.mono (by decide)) (pa_cons (pv 0) (pa_cons pe_int pa_nil))) (fun _ _ => rfl)))
    (pss_cons (ps_set (i := 3) sc__law_terms.nd rfl (Or.inl rfl) (pe_lst pa_nil))
    (pss_cons (ps_for PassesOwn.never rfl (pi_tup (pv 1)) (pg_name (i := 4) sc__law_terms.nd rfl (Or.inl rfl))
      (pss_cons (ps_set (i := 5) sc__law_terms.nd rfl (Or.inl rfl) (pe_op op_sub (pe_cal C__law_draw (hr.mono (by decide)) (pa_cons (pv 0) (pa_cons (pe_op op_add (pe_op op_mul pe_int (pv 2)) pe_int) pa_nil))) (pv 2)))
    (pss_one (ps_if (pt_cmpR op_ne (pv 5) pe_int (nomark _))
      (pss_one (ps_expr (pe_bm PySem.F.plainAttrs_list PySem.F.slot_list_append PySem.F.type_list_append mt_append (pv 3) (pa_cons (pe_tup (pa_cons (pv 4) (pa_cons (pv 5) pa_nil))) pa_nil))))
      pss_nil))))
    (pss_one (ps_ret (pe_callTy (T := "tuple") call_tuple_of (by rfl) m_tuple (by decide +kernel) (pa_cons (pv 3) pa_nil))))))), ?_⟩
    walk_at "rd"
    refine ⟨sz (by show 4 ≤ 100000; decide), fun l0 nl0 => ?_⟩
    have nl0s := src_ne hA nl0
    have hl0 := upd_same (H := H) (a := l0) (o := .lst ([1, 2, 3, 9].map V.int))
    walk_at "rd"
    refine draw_of (lim := 4) (src_upd hA nl0s) (by decide) fun r4 H1 h2 h3 s1 hA1 => ?_
    have b01 := but_new nl0 s1
    have hl1 := s1 _ _ nl0s.symm hl0
    obtain ⟨m, rfl⟩ := Int.eq_ofNat_of_zero_le h2
    have hm4 : m < [(1 : Int), 2, 3, 9].length := by
      show m < 4
      omega
    refine ⟨_, _, _, _, rfl, rfl, sq hl1, int_at (k := m) hm4, ?_⟩
    have he : (1 : Int) ≤ [(1 : Int), 2, 3, 9][m] ∧ [(1 : Int), 2, 3, 9][m] ≤ 9 := by
      have a : ∀ x ∈ [(1 : Int), 2, 3, 9], 1 ≤ x ∧ x ≤ 9 := by decide
      exact a _ (List.getElem_mem hm4)
    generalize [(1 : Int), 2, 3, 9][m] = R at he ⊢
    walk_at "rd"
    refine ⟨sz (by decide), fun M nM => ?_⟩
    have nMs := src_ne hA1 nM
    have sM := same_new nM (o := .lst ([] : List V))
    have hM0 := upd_same (H := H1) (a := M) (o := .lst ([] : List V))
    have hna1 := sqt_but hA b01 hna
    walk_at "rd"
    refine ⟨⟨_, Bx.Same.tup sM hna1⟩, for_it walk_tup (fun j σ H' => ∃ (o4 o5 : Option V) (vs : List V) (ls : List Tr5), σ = [some (.ref src), some (.ref na), some (.int R), some (.ref M), o4, o5] ∧ SameBut src H1 H' ∧ Src H' src ∧ H' M = some (.lst vs) ∧ DpAll K H' vs (ls.map tmD) ∧ (ls.map (·.1)).Sublist (ns.take j) ∧ ∀ x ∈ ls, x.2 ≠ 0 ∧ x.2.natAbs ≤ 9)
      ⟨none, none, [], [], rfl, Bx.Same.but sM, src_same hA1 sM, hM0, .nil, List.nil_sublist _, fun x hx => (nomatch hx)⟩ (fun _ _ _ _ ⟨_, _, _, _, _, s, _⟩ => sqt_but hA1 s hna1) ?_ ?_⟩
    · rintro j x σ H3a H3 hj ⟨o4, o5, vs, ls, rfl, s3, hA3, hM3, hd3, sub3, sg3⟩ ⟨rfl, hx⟩
      obtain ⟨n, hn, rfl⟩ := at_map hx
      walk_at "rd"
      refine ⟨.inl (pow64 (by decide)), ?_⟩
      walk_at "rd"
      refine draw_of (lim := 2 * R + 1) hA3 (by omega) fun r H4 h4 h5 s4 hA4 => ?_
      have hM4 := s4 _ _ nMs.symm hM3
      have hd4 := da_tk (tk_but hA3 s4) _ _ (tup_tms _) hd3
      walk_at "rd"
      refine ite2 (fun h6 => ?_) (fun h6 => ?_)
      · have h7 : r - R ≠ 0 := int_nt h6
        walk_at "rd"
        refine ⟨.inl ⟨rfl, _, sq hM4⟩, ?_⟩
        walk_at "rd"
        refine ⟨sz (by show 2 ≤ 100000; decide), fun T nT => ?_⟩
        have sT := same_new nT (o := .tup [.str n, .int (r - R)])
        have hT := upd_same (H := H4) (a := T) (o := .tup [.str n, .int (r - R)])
        have hA5 := src_same hA4 sT
        have hM5 := sT _ _ hM4
        have hd5 := dpAll_same sT hd4
        have s5 := (s3.trans s4).trans (Bx.Same.but sT)
        generalize upd H4 T (.tup [.str n, .int (r - R)]) = H5 at hT hA5 hM5 hd5 s5 ⊢
        have ll : ls.length ≤ 10 := by
          have z := sub3.length_le
          have z2 := List.length_take_le' j ns
          rw [List.length_map] at z
          omega
        have vl5 : vs.length = ls.length := by rw [da_len hd3, List.length_map]
        refine ⟨M, _, _, rfl, rfl, hM5, szl (by omega), ?_⟩
        have tk := tk_lst (K := K) (o := .lst (vs ++ [.ref T])) hM5
        refine ⟨_, _, vs ++ [.ref T], ls ++ [(n, r - R)], rfl, but_at nM s5, src_upd hA5 nMs, upd_same, ?_, ?_, fun x hx => ?_⟩
        · rw [List.map_append]
          exact da_app (da_tk tk _ _ (tup_tms _) hd5) (da_one (dp_tk tk _ _ rfl (tm_dp (x := (n, r - R)) (sqt hT))))
        · rw [List.map_append]
          exact sub_snoc sub3 hn
        · rcases List.mem_append.mp hx with h | h
          · exact sg3 x h
          · rw [List.mem_singleton.mp h]
            exact ⟨h7, by show (r - R).natAbs ≤ 9; omega⟩
      · walk_at "rd"
        exact ⟨_, _, vs, ls, rfl, s3.trans s4, hA4, hM4, hd4, sub_skip sub3, sg3⟩
    · rintro σ H3 ⟨o4, o5, vs, ls, rfl, s3, hA3, hM3, hd3, sub3, sg3⟩
      rw [List.length_map, List.take_length] at sub3
      walk_at "rd"
      refine ⟨M, _, rfl, .inl ⟨sq hM3, fun t nt => ?_⟩⟩
      have st := same_new nt (o := .tup vs)
      exact q t vs ls _ (b01.trans (s3.trans (Bx.Same.but st))) (src_same hA3 st) (sqt upd_same) (dpAll_same st hd3) sub3 sg3
@[irreducible] def spModu : Sp := fun vs H Q _ => ∃ s : Addr, vs = [.ref s] ∧ Src H s ∧ ∀ (m : Int) (H' : Hp), SameBut s H H' → Src H' s → 0 ≤ m → m ≤ 12 → Q (.int m) H'
theorem ok_modulus {f : Addr} {fd : FuncData} (F : Fun K "_law_modulus" "_law_modulus" s__law_modulus f fd) (C__law_draw : CDraw P w K mg base) : FnOk P w K mg base CX0 2 f fd ["_law_source_here"] spModu := by
  refine F.ok sc__law_modulus (fun vs H Q E h => ?_) (fun cdv A outer s H vs Q E hr h => ?_)
  · unfold spModu at h
    obtain ⟨s, rfl, _⟩ := h
    rfl
  · unfold spModu at h
    obtain ⟨src, rfl, hA, q⟩ := h
    refine ⟨_, (pss_cons (ps_if (pt_cmpR op_eq (pe_cal C__law_draw (hr.mono (by decide)) (pa_cons (pv 0) (pa_cons pe_int pa_nil))) pe_int (nomark _))
      (pss_one (ps_ret pe_int))
      pss_nil)
    (pss_one (ps_ret (pe_op op_add pe_int (pe_cal C__law_draw (hr.mono (by decide)) (pa_cons (pv 0) (pa_cons pe_int pa_nil))))))), ?_⟩
    walk_at "rd"
    refine draw_of (lim := 5) hA (by decide) fun r H1 _ _ s1 hA1 => ?_
    walk_at "rd"
    refine ite2 (fun h => ?_) (fun h => ?_)
    · walk_at "rd"
      exact q 0 H1 s1 hA1 (by decide) (by decide)
    · walk_at "rd"
      refine draw_of (lim := 12) hA1 (by decide) fun r2 H2 h0 h1 s2 hA2 => ?_
      walk_at "rd"
      exact q (1 + r2) H2 (s1.trans s2) hA2 (by omega) (by omega)
@[irreducible] def spVals (K : PySem.W.Frag) : Sp := fun vs H Q _ => ∃ (s na : Addr) (ns : List Str), vs = [.ref s, .ref na] ∧ Src H s ∧ SqT K H na (ns.map V.str) ∧ ns.length ≤ 10 ∧ ns.Nodup ∧ ∀ (d : Addr) (l : As) (H' : Hp), SameBut s H H' → Src H' s → H d = none → H' d = some (.dK (asV l)) → l.map (·.1) = ns → (∀ p ∈ l, p.2.natAbs ≤ 1000001000000) → Q (.ref d) H'
set_option maxHeartbeats 1000000 in
theorem ok_values {f : Addr} {fd : FuncData} (F : Fun K "_law_values" "_law_values" s__law_values f fd) (C__law_draw : CDraw P w K mg base) : FnOk P w K mg base CX0 2 f fd ["_law_source_here", "_law_names_here"] (spVals K) := by
  refine F.ok sc__law_values (fun vs H Q E h => ?_) (fun cdv A outer s H vs Q E hr h => ?_)
  · unfold spVals at h
    obtain ⟨s, na, ns, rfl, _⟩ := h
    rfl
  · unfold spVals at h
    obtain ⟨src, na, ns, rfl, hA, hna, nl, nd, q⟩ := h
    have hu := hu_of hr
    refine ⟨_, (pss_cons (ps_set (i := 2) sc__law_values.nd rfl (Or.inl rfl) pe_dnewK)
    (pss_cons (ps_for PassesOwn.never rfl (pi_tup (pv 1)) (pg_name (i := 3) sc__law_values.nd rfl (Or.inl rfl))
      (pss_cons (ps_dput hu (pv 2) (pv 3) (pe_op op_sub (pe_cal C__law_draw (hr.mono (by decide)) (pa_cons (pv 0) (pa_cons pe_int pa_nil))) pe_int) rfl)
    (pss_one (ps_if (pt_cmpR op_eq (pe_cal C__law_draw (hr.mono (by decide)) (pa_cons (pv 0) (pa_cons pe_int pa_nil))) pe_int (nomark _))
      (pss_one (ps_dput hu (pv 2) (pv 3) (pe_op op_add (pe_ix ix_list (pe_lst (pa_cons (pe_op op_pow pe_int pe_int) (pa_cons (pe_un un_neg (pe_op op_pow pe_int pe_int)) pa_nil))) (pe_cal C__law_draw (hr.mono (by decide)) (pa_cons (pv 0) (pa_cons pe_int pa_nil))) (fun _ _ => rfl)) (pe_cal C__law_draw (hr.mono (by decide)) (pa_cons (pv 0) (pa_cons (pe_op op_pow pe_int pe_int) pa_nil)))) rfl))
      pss_nil))))
    (pss_one (ps_ret (pv 2))))), ?_⟩
    walk_at "rd"
    refine fun m nm => ?_
    have ms1 := src_ne hA nm
    have um := same_new nm (o := .dK [])
    have hm0 : (upd H m (.dK [])) m = some (.dK (asV [])) := upd_same
    have hA1 := src_same hA um
    walk_at "rd"
    generalize upd H m (.dK []) = H1 at um hm0 hA1 ⊢
    refine ⟨⟨_, Bx.Same.tup um hna⟩, for_it walk_tup (fun i σ H' => ∃ (o3 : Option V), σ = [some (.ref src), some (.ref na), some (.ref m), o3] ∧ SameBut src H H' ∧ Src H' src ∧ ∃ l : As, H' m = some (.dK (asV l)) ∧ l.map (·.1) = ns.take i ∧ ∀ p ∈ l, p.2.natAbs ≤ 1000001000000)
      ⟨none, rfl, Bx.Same.but um, hA1, [], hm0, rfl, fun p hp => (nomatch hp)⟩ (fun _ _ _ _ ⟨_, _, s, _⟩ => sqt_but hA s hna) ?_ ?_⟩
    · rintro i x σ Ha Hb hi ⟨o3, rfl, sb, hAb, l, hm, lk, lb⟩ ⟨rfl, hx⟩
      obtain ⟨z, hz, rfl⟩ := at_map hx
      have ll : l.length ≤ 10 := by
        have z1 := congrArg List.length lk
        rw [List.length_map] at z1
        have := List.length_take_le' i ns
        omega
      have nz : z ∉ l.map (·.1) := by
        rw [lk]
        exact nd_take nd hz
      have one : ∀ (v : Int), v.natAbs ≤ 1000001000000 → (l ++ [(z, v)]).map (·.1) = ns.take (i + 1) ∧ ∀ p ∈ l ++ [(z, v)], p.2.natAbs ≤ 1000001000000 := fun v hv => by
        refine ⟨?_, fun p hp => ?_⟩
        · rw [List.map_append, lk, List.take_add_one, hz]
          rfl
        · rcases List.mem_append.mp hp with h | h
          · exact lb p h
          · rw [List.mem_singleton.mp h]
            exact hv
      walk_at "rd"
      refine draw_of (lim := 5) hAb (by decide) fun r Hc h0 h1 sc' hAc => ?_
      have hmc := sc' _ _ ms1.symm hm
      walk_at "rd"
      refine ⟨m, _, rfl, DPut.k (k := .inr z) (v := .int (r - 2)) hmc (szl (by unfold asV; rw [List.length_map]; omega)), ?_⟩
      rw [put_as nz]
      have bd := but_at (o := .dK (asV (l ++ [(z, r - 2)]))) nm (sb.trans sc')
      have ad := src_upd (u := .dK (asV (l ++ [(z, r - 2)]))) hAc ms1
      have hd := upd_same (H := Hc) (a := m) (o := .dK (asV (l ++ [(z, r - 2)])))
      generalize upd Hc m (.dK (asV (l ++ [(z, r - 2)]))) = Hd at bd ad hd ⊢
      walk_at "rd"
      refine draw_of (lim := 4) ad (by decide) fun r2 He _ _ se hAe => ?_
      have hme := se _ _ ms1.symm hd
      walk_at "rd"
      refine ite2 (fun h => ?_) (fun h => ?_)
      · walk_at "rd"
        refine ⟨⟨by decide, by decide, by decide⟩, ?_⟩
        walk_at "rd"
        refine ⟨⟨by decide, by decide, by decide⟩, ?_⟩
        walk_at "rd"
        refine ⟨sz (by show 2 ≤ 100000; decide), fun l0 nl0 => ?_⟩
        have e12 : (10 : Int) ^ (Int.toNat 12) = 1000000000000 := by decide +kernel
        have nl0s := src_ne hAe nl0
        have u0 := same_new nl0 (o := .lst [V.int (10 ^ Int.toNat 12), V.int (-(10 ^ Int.toNat 12))])
        have hl0 : (upd He l0 (.lst [V.int (10 ^ Int.toNat 12), V.int (-(10 ^ Int.toNat 12))])) l0 = some (.lst ([(1000000000000 : Int), -1000000000000].map V.int)) := by
          rw [upd_same, e12]
          rfl
        have hA0 := src_same hAe u0
        have hm0 := u0 _ _ hme
        walk_at "rd"
        generalize upd He l0 (.lst [V.int (10 ^ Int.toNat 12), V.int (-(10 ^ Int.toNat 12))]) = Hf at u0 hl0 hA0 hm0 ⊢
        refine draw_of (lim := 2) hA0 (by decide) fun r3 Hg h3 h4 sg hAg => ?_
        obtain ⟨j, rfl⟩ := Int.eq_ofNat_of_zero_le h3
        have hj2 : j < [(1000000000000 : Int), -1000000000000].length := by
          show j < 2
          omega
        refine ⟨_, _, _, _, rfl, rfl, sq (sg _ _ nl0s.symm hl0), int_at (k := j) hj2, ?_⟩
        have he : [(1000000000000 : Int), -1000000000000][j].natAbs = 1000000000000 := by
          have a : ∀ x ∈ [(1000000000000 : Int), -1000000000000], x.natAbs = 1000000000000 := by decide
          exact a _ (List.getElem_mem hj2)
        generalize [(1000000000000 : Int), -1000000000000][j] = big at he ⊢
        walk_at "rd"
        refine ⟨⟨by decide, by decide, by decide⟩, ?_⟩
        have e6 : (10 : Int) ^ (Int.toNat 6) = 1000000 := by decide +kernel
        walk_at "rd"
        refine draw_of (lim := 10 ^ Int.toNat 6) hAg (by rw [e6]; decide) fun r5 Hh h5 h6 sh hAh => ?_
        rw [e6] at h6
        have hmh := sh _ _ ms1.symm (sg _ _ ms1.symm hm0)
        walk_at "rd"
        refine ⟨m, _, rfl, DPut.k (k := .inr z) (v := .int (big + r5)) hmh (szl (by unfold asV; rw [List.length_map, List.length_append]; show l.length + 1 < 100000; omega)), ?_⟩
        rw [put_as2 nz]
        obtain ⟨e1, e2⟩ := one (big + r5) (by omega)
        exact ⟨_, rfl, but_at nm (bd.trans (se.trans ((Bx.Same.but u0).trans (sg.trans sh)))), src_upd hAh ms1, _, upd_same, e1, e2⟩
      · walk_at "rd"
        obtain ⟨e1, e2⟩ := one (r - 2) (by omega)
        exact ⟨bd.trans se, hAe, _, hme, e1, e2⟩
    · rintro σ Hb ⟨o3, rfl, sb, hAb, l, hm, lk, lb⟩
      rw [List.length_map, List.take_length] at lk
      walk_at "rd"
      exact q m l Hb sb hAb nm hm lk lb
/-- a constraint over these names -/
structure Lc (ns : List Str) (c : Con) : Prop where
  ok : Ok c
  sub : (names c).Sublist ns
  nz : ∀ x ∈ c.t, x.2 ≠ 0
@[irreducible] def spCons (K : PySem.W.Frag) : Sp := fun vs H Q _ => ∃ (s na d : Addr) (ns : List Str) (g : Str → Int), vs = [.ref s, .ref na, .ref d] ∧ Src H s ∧ SqT K H na (ns.map V.str) ∧ Nm ns ∧ VAt H d g ns ∧ ∀ (p : Addr) (c : Con) (H' : Hp), SameBut s H H' → Src H' s → Dp K H' (.ref p) (coD c) → Lc ns c → Q (.ref p) H'
set_option maxHeartbeats 1000000 in
theorem ok_cons {f : Addr} {fd : FuncData} (F : Fun K "_law_constraint" "_law_constraint" s__law_constraint f fd) (m_int : mg "int" = none) (m_abs : mg "abs" = none) (C__law_draw : CDraw P w K mg base) (C__law_terms : Cal P w K mg base "_law_terms" 2 ["_law_source_here", "_law_names_here"] (spTerms K)) (C__law_modulus : Cal P w K mg base "_law_modulus" 2 ["_law_source_here"] spModu) (C__law_sum : Cal P w K mg base "_law_sum" 1 ["_law_terms_here", "_law_values_here"] (spSum K)) : FnOk P w K mg base CX0 3 f fd ["_law_source_here", "_law_names_here", "_law_values_here"] (spCons K) := by
  refine F.ok sc__law_constraint (fun vs H Q E h => ?_) (fun cdv A outer s H vs Q E hr h => ?_)
  · unfold spCons at h
    obtain ⟨s, na, d, ns, g, rfl, _⟩ := h
    rfl
  · unfold spCons at h
    obtain ⟨src, na, d, ns, g, rfl, hA, hna, nm, va, q⟩ := h
    have nl := nm.ln
    refine ⟨_, (pss_cons (ps_set (i := 3) sc__law_constraint.nd rfl (Or.inl rfl) (pe_cal C__law_terms (hr.mono (by decide)) (pa_cons (pv 0) (pa_cons (pv 1) pa_nil))))
    (pss_cons (ps_set (i := 4) sc__law_constraint.nd rfl (Or.inl rfl) (pe_cal C__law_modulus (hr.mono (by decide)) (pa_cons (pv 0) pa_nil)))
    (pss_cons (ps_set (i := 5) sc__law_constraint.nd rfl (Or.inl rfl) (pe_cal C__law_sum (hr.mono (by decide)) (pa_cons (pv 3) (pa_cons (pv 2) pa_nil))))
    (pss_cons (ps_if (pt_cmpR op_gt (pv 4) pe_int (nomark _))
      (pss_one (ps_set (i := 5) sc__law_constraint.nd rfl (Or.inl rfl) (pe_op op_add (pe_op op_mod (pe_callTy (T := "int") call_int1 (by rfl) m_int (by decide +kernel) (pa_cons (pv 5) pa_nil)) (pv 4)) (pe_op op_mul (pv 4) (pe_op op_sub (pe_cal C__law_draw (hr.mono (by decide)) (pa_cons (pv 0) (pa_cons pe_int pa_nil))) pe_int)))))
      pss_nil)
    (pss_cons (ps_if (pt_cmpR op_eq (pe_cal C__law_draw (hr.mono (by decide)) (pa_cons (pv 0) (pa_cons pe_int pa_nil))) pe_int (nomark _))
      (pss_one (ps_set (i := 5) sc__law_constraint.nd rfl (Or.inl rfl) (pe_op op_add (pv 5) (pe_ix ix_list (pe_lst (pa_cons pe_int (pa_cons (pe_un un_neg pe_int) (pa_cons pe_int pa_nil)))) (pe_cal C__law_draw (hr.mono (by decide)) (pa_cons (pv 0) (pa_cons pe_int pa_nil))) (fun _ _ => rfl)))))
      pss_nil)
    (pss_cons (ps_if (pt_cmpR op_gt (pe_callB call_abs (by rfl) m_abs (by decide +kernel) (pa_cons (pv 5) pa_nil)) pe_int (nomark _))
      (pss_one (ps_set (i := 5) sc__law_constraint.nd rfl (Or.inl rfl) (pe_op op_sub (pe_cal C__law_draw (hr.mono (by decide)) (pa_cons (pv 0) (pa_cons pe_int pa_nil))) pe_int)))
      pss_nil)
    (pss_one (ps_ret (pe_tup (pa_cons (pv 3) (pa_cons (pv 4) (pa_cons (pv 5) pa_nil)))))))))))), ?_⟩
    walk_at "rd"
    show spTerms K _ _ _ _
    unfold spTerms
    refine ⟨src, na, ns, rfl, hA, hna, by omega, fun r zs l H1 s1 hA1 hr1 dz sub nz => ?_⟩
    have ds : d ≠ src := fun e => by
      obtain ⟨kvs, hd, _⟩ := va
      obtain ⟨_, _, h⟩ := hA
      rw [e, h] at hd
      cases hd
    have va1 : VAt H1 d g ns := by
      obtain ⟨kvs, hd, v⟩ := va
      exact ⟨kvs, s1 _ _ ds hd, v⟩
    walk_at "rd"
    show spModu _ _ _ _
    unfold spModu
    refine ⟨src, rfl, hA1, fun m H2 s2 hA2 m0 m12 => ?_⟩
    have tk2 := tk_but (K := K) hA1 s2
    have va2 : VAt H2 d g ns := by
      obtain ⟨kvs, hd, v⟩ := va1
      exact ⟨kvs, s2 _ _ ds hd, v⟩
    have ll : l.length ≤ 4 := by
      have z := sub.length_le
      rw [List.length_map] at z
      omega
    have hr2 := tk2 _ _ hr1
    have dz2 := da_tk tk2 _ _ (tup_tms l) dz
    walk_at "rd"
    show spSum K _ _ _ _
    unfold spSum
    refine ⟨.ref r, d, l, g, rfl, .inr (.tup hr2 dz2), by omega, fun x hx => (nz x hx).2, va2.sub fun y hy => sub.subset hy, fun H3 s3 => ?_⟩
    have hA3 := src_same hA2 s3
    have hr3 := Bx.Same.tup s3 hr2
    have dz3 := dpAll_same s3 dz2
    have b03 := s1.trans (s2.trans (Bx.Same.but s3))
    generalize lin g l = S
    clear va va1 va2 s3 s2 s1 tk2 hr1 dz hr2 dz2
    dsimp only [gName]
    refine st_gi (i := 5) (fun v H' => SameBut src H3 H' ∧ Src H' src ∧ ∃ r : Int, v = .int r) (fun D' hD' => ?_) ?_
    · walk_at "rd"
      refine ite2 (fun h => ?_) (fun h => ?_)
      · have mp : 0 < m := of_decide_eq_true h
        walk_at "rd"
        refine .inl ⟨_, rfl, ?_⟩
        walk_at "rd"
        refine ⟨mp, ?_⟩
        walk_at "rd"
        refine draw_of (lim := 5) hA3 (by decide) fun r5 H4 _ _ s4 hA4 => ?_
        walk_at "rd"
        refine ⟨.inl (pow64 (by omega)), ?_⟩
        walk_at "rd"
        exact hD' _ H4 ⟨s4, hA4, _, rfl⟩
      · walk_at "rd"
        exact hD' _ H3 ⟨SameBut.refl _ _, hA3, _, rfl⟩
    rintro v H4 ⟨s4, hA4, r4, rfl⟩
    refine st_gi (i := 5) (fun v H' => SameBut src H4 H' ∧ Src H' src ∧ ∃ r : Int, v = .int r) (fun D' hD' => ?_) ?_
    · walk_at "rd"
      refine draw_of (lim := 8) hA4 (by decide) fun r5 H5 _ _ s5 hA5 => ?_
      walk_at "rd"
      refine ite2 (fun h => ?_) (fun h => ?_)
      · walk_at "rd"
        refine ⟨sz (by show 3 ≤ 100000; decide), fun l0 nl0 => ?_⟩
        have nl0s := src_ne hA5 nl0
        have u0 := same_new nl0 (o := .lst ([(1 : Int), -1, 2].map V.int))
        have hl0 : (upd H5 l0 (.lst ([(1 : Int), -1, 2].map V.int))) l0 = some (.lst ([(1 : Int), -1, 2].map V.int)) := upd_same
        have hA6 := src_same hA5 u0
        walk_at "rd"
        refine draw_of (lim := 3) hA6 (by decide) fun r6 H7 h6 h7 s7 hA7 => ?_
        obtain ⟨j, rfl⟩ := Int.eq_ofNat_of_zero_le h6
        have hj : j < [(1 : Int), -1, 2].length := by
          show j < 3
          omega
        refine ⟨_, _, _, _, rfl, rfl, sq (s7 _ _ nl0s.symm hl0), int_at (k := j) hj, ?_⟩
        walk_at "rd"
        exact hD' _ H7 ⟨s5.trans ((Bx.Same.but u0).trans s7), hA7, _, rfl⟩
      · walk_at "rd"
        exact hD' _ H5 ⟨s5, hA5, _, rfl⟩
    rintro v H5 ⟨s5, hA5, r5, rfl⟩
    refine st_gi (i := 5) (fun v H' => SameBut src H5 H' ∧ Src H' src ∧ ∃ r : Int, v = .int r ∧ r.natAbs ≤ 99) (fun D' hD' => ?_) ?_
    · walk_at "rd"
      refine ite2 (fun h => ?_) (fun h => ?_)
      · walk_at "rd"
        refine draw_of (lim := 199) hA5 (by decide) fun r6 H6 h0 h1 s6 hA6 => ?_
        walk_at "rd"
        exact hD' _ H6 ⟨s6, hA6, _, rfl, by omega⟩
      · have le : ¬ (99 : Int) < (if r5 < 0 then -r5 else r5) := fun z => h (decide_eq_true z)
        walk_at "rd"
        refine hD' _ H5 ⟨SameBut.refl _ _, hA5, r5, rfl, ?_⟩
        split at le <;> omega
    rintro v H6 ⟨s6, hA6, r6, rfl, r99⟩
    walk_at "rd"
    refine ⟨sz (by show 3 ≤ 100000; decide), fun p np => ?_⟩
    have up := same_new np (o := .tup [.ref r, .int m, .int r6])
    have tk : Tk K H3 H6 := (tk_but hA3 s4).trans ((tk_but hA4 s5).trans (tk_but hA5 s6))
    have dzz := dpAll_same up (da_tk tk _ _ (tup_tms l) dz3)
    refine q p ⟨l, m, r6⟩ _ (b03.trans (s4.trans (s5.trans (s6.trans (Bx.Same.but up))))) (src_same hA6 up) (dp_co (c := ⟨l, m, r6⟩) (sqt upd_same) (Bx.Same.tup up (tk _ _ hr3)) dzz) ⟨⟨fun x hx => nm.n5 _ (sub.subset (List.mem_map.mpr ⟨x, hx, rfl⟩)), fun x hx => (nz x hx).2, by show l.length ≤ 10; omega, m0, m12, r99⟩, sub, fun x hx => (nz x hx).1⟩
end
end K31
namespace K31
local macro_rules | `(tactic| walk_at "rd") => `(tactic| repeat (first | refine ⟨rfl, ?_⟩ | refine ⟨_, rfl, ?_⟩ | refine ⟨_, _, rfl, rfl, ?_⟩ | refine ⟨⟨_, rfl⟩, ?_⟩))
open PySem PySem.Spec PyProof.Rows L2 Bx TL Dx Zx Ow Sup NdefX Px T31 M31
theorem ixN_nat {n i : Nat} (h : i < n) : ixN n (i : Int) = some i := by
  unfold ixN
  simp [h]
theorem st_ss {t : TS} {D : Ends} {rest : TS} {σ : List (Option V)} {H : Hp} (R : List (Option V) → Hp → Prop) (h : ∀ D' : Ends, (∀ σ' H', R σ' H' → D'.nx σ' H') → t D' σ H) (k : ∀ σ' H', R σ' H' → rest D σ' H') : tSeq t rest D σ H :=
  h { D with nx := rest D } k
theorem cut_suf (xs : List V) (k : Nat) : cutV xs (some (k : Int)) none = xs.drop k := by
  unfold cutV
  rw [HT.sIx_nat]
  show (xs.drop (min k xs.length)).take (xs.length - min k xs.length) = xs.drop k
  have e : (xs.drop (min k xs.length)).length = xs.length - min k xs.length := List.length_drop
  rw [← e, List.take_length]
  rcases Nat.le_total k xs.length with h | h
  · rw [Nat.min_eq_left h]
  · rw [Nat.min_eq_right h, List.drop_length, List.drop_eq_nil_of_le h]
theorem cut_pre (xs : List V) (k : Nat) : cutV xs none (some (k : Int)) = xs.take k := by
  unfold cutV
  rw [HT.sIx_nat]
  show (xs.drop 0).take (min k xs.length - 0) = xs.take k
  rw [List.drop_zero, Nat.sub_zero, ← List.take_eq_take_min]
theorem da_take {K : PySem.W.Frag} {H : Hp} : ∀ (k : Nat) {xs : List V} {ds : List PyData}, DpAll K H xs ds → DpAll K H (xs.take k) (ds.take k)
  | 0, _, _, _ => .nil
  | k + 1, _, _, .nil => .nil
  | k + 1, _, _, .cons h t => .cons h (da_take k t)
theorem da_drop {K : PySem.W.Frag} {H : Hp} : ∀ (k : Nat) {xs : List V} {ds : List PyData}, DpAll K H xs ds → DpAll K H (xs.drop k) (ds.drop k)
  | 0, _, _, h => h
  | k + 1, _, _, .nil => .nil
  | k + 1, _, _, .cons h t => da_drop k t
theorem da_set {K : PySem.W.Frag} {H : Hp} : ∀ (k : Nat) {xs : List V} {ds : List PyData} {v : V} {d : PyData}, DpAll K H xs ds → Dp K H v d → DpAll K H (xs.set k v) (ds.set k d)
  | _, _, _, _, _, .nil, _ => .nil
  | 0, _, _, _, _, .cons _ t, h => .cons h t
  | k + 1, _, _, _, _, .cons a t, h => .cons a (da_set k t h)
theorem but_free {s p : Addr} {Hb H : Hp} (b : SameBut s Hb H) (n : H p = none) (a : Src H s) : Hb p = none := by
  cases e : Hb p with
  | none => rfl
  | some o =>
    have ne : p ≠ s := fun z => by
      obtain ⟨_, _, h⟩ := a
      rw [← z, n] at h
      cases h
    rw [b _ _ ne e] at n
    cases n
/-- the law's terms while it spoils them: base heap Hb, the source, the kind at k -/
structure Sp1 (K : PySem.W.Frag) (C src na p k : Addr) (ch : Int) (Hb : Hp) (B : Nat) (σ : List (Option V)) (H : Hp) : Prop where
  ex : ∃ (dk tl lf : Addr) (us : List V) (l : List Tr5) (m : Int) (ls : List Str) (i : Nat), σ = [some (.ref src), some (.ref na), some (.ref p), some (.int ch), some (.ref k), some (.ref tl), some (.int m), some (.ref lf), some (.int (i : Int)), none, none] ∧ SameBut src Hb H ∧ Src H src ∧ H k = some (.ins C dk []) ∧ H tl = some (.lst us) ∧ Hb tl = none ∧ Hb lf = none ∧ lf ≠ tl ∧ DpAll K H us (l.map tmD) ∧ l.length ≤ B ∧ (∀ x ∈ l, PyData.strOk x.1 = true) ∧ H lf = some (.lst (ls.map V.str)) ∧ ls.length ≤ 10
section
variable {P : Program} {w : World} {K : PySem.W.Frag} {mg : Str → Option Value} {base : Heap}
@[irreducible] def spTold (K : PySem.W.Frag) : Sp := fun vs H Q _ => ∃ (s na p : Addr) (ch : Nat) (ns : List Str) (c : Con), vs = [.ref s, .ref na, .ref p, .int (ch : Int)] ∧ Src H s ∧ SqT K H na (ns.map V.str) ∧ Dp K H (.ref p) (coD c) ∧ Nm ns ∧ Lc ns c ∧ ∀ H', SameBut s H H' → Src H' s → Q (.bl true) H'
theorem n5_ok : ∀ z ∈ N5, PyData.strOk z = true := by decide +kernel
set_option maxHeartbeats 2000000 in
theorem ok_told {C : Addr} {f : Addr} {fd : FuncData} (F : Fun K "_law_told_apart" "_law_told_apart" s__law_told_apart f fd) (m_list : mg "list" = none) (m_len : mg "len" = none) (m_tuple : mg "tuple" = none) (B_Wholes : Mk0.Bare K mg "Wholes" C) (M_is_valid : MthC P w K mg base C "is_valid" 4 ["self", "names", "constraint"] (spSV K C)) (C__law_draw : CDraw P w K mg base) (C__law_says : Cal P w K mg base "_law_says" 1 ["_law_actual", "_law_due"] spSays) (C__law_valid : Cal P w K mg base "_law_valid" 1 ["_law_names_here", "_law_constraint_here"] (spLValid K)) : FnOk P w K mg base CX0 5 f fd ["_law_source_here", "_law_names_here", "_law_constraint_here", "_law_choice"] (spTold K) := by
  refine F.ok sc__law_told_apart (fun vs H Q E h => ?_) (fun cdv A outer s H vs Q E hr h => ?_)
  · unfold spTold at h
    obtain ⟨s, na, p, ch, ns, c, rfl, _⟩ := h
    rfl
  · unfold spTold at h
    obtain ⟨src, na, p, ch, ns, c, rfl, hA, hna, hp, nm, lc, q⟩ := h
    obtain ⟨p', b, zs, ep, h3, hb, hz⟩ := co_dp hp
    cases ep
    have zl : zs.length = c.t.length := by rw [da_len hz, List.length_map]
    have nl := nm.ln
    have tl10 := lc.ok.ln
    have okz : ∀ x ∈ c.t, PyData.strOk x.1 = true := fun x hx => n5_ok _ (lc.ok.i5 x hx)
    refine ⟨_, (pss_cons (ps_set (i := 4) sc__law_told_apart.nd rfl (Or.inl rfl) (Mk0.pe_bare B_Wholes))
    (pss_cons (ps_set (i := 5) sc__law_told_apart.nd rfl (Or.inr rfl) (pe_callTy (T := "list") call_list_of (by rfl) m_list (by decide +kernel) (pa_cons (pe_ix ix_tup (pv 2) pe_int (fun _ _ => rfl)) pa_nil)))
    (pss_cons (ps_set (i := 6) sc__law_told_apart.nd rfl (Or.inl rfl) (pe_ix ix_tup (pv 2) pe_int (fun _ _ => rfl)))
    (pss_cons (ps_set (i := 7) sc__law_told_apart.nd rfl (Or.inl rfl) (pe_callTy (T := "list") call_list_of (by rfl) m_list (by decide +kernel) (pa_cons (pv 1) pa_nil)))
    (pss_cons (ps_set (i := 8) sc__law_told_apart.nd rfl (Or.inr rfl) (pe_cal C__law_draw (hr.mono (by decide)) (pa_cons (pv 0) (pa_cons (pe_op op_add (pe_callB call_len_seq (by rfl) m_len PySem.boot_len (pa_cons (pv 5) pa_nil)) pe_int) pa_nil))))
    (pss_cons (ps_if (pt_cmpR op_eq (pv 3) pe_int (nomark _))
      (pss_one (ps_set (i := 6) sc__law_told_apart.nd rfl (Or.inl rfl) (pe_op op_sub (pe_un un_neg pe_int) (pe_cal C__law_draw (hr.mono (by decide)) (pa_cons (pv 0) (pa_cons pe_int pa_nil))))))
      pss_nil)
    (pss_cons (ps_if (pt_cmpR op_eq (pv 3) pe_int (nomark _))
      (pss_one (ps_set (i := 5) sc__law_told_apart.nd rfl (Or.inr rfl) (pe_op op_cat (pe_op op_cat (pe_slice sl_list (pv 5) po_none (po_some (pv 8))) (pe_lst (pa_cons (pe_tup (pa_cons pe_str (pa_cons pe_int pa_nil))) pa_nil))) (pe_slice sl_list (pv 5) (po_some (pv 8)) po_none))))
      pss_nil)
    (pss_cons (ps_if (PW.pt (pw_and (pt_cmpR op_eq (pv 3) pe_int (nomark _)) (pw_and1 (pt_cmpR op_lt (pv 8) (pe_callB call_len_seq (by rfl) m_len PySem.boot_len (pa_cons (pv 5) pa_nil)) (nomark _)))))
      (pss_one (ps_asg (pe_tup (pa_cons (pe_ix ix_tup (pe_ix ix_list (pv 5) (pv 8) (fun _ _ => rfl)) pe_int (fun _ _ => rfl)) (pa_cons pe_int pa_nil))) (pg_sub (pv 5) (pv 8) set_list)))
      pss_nil)
    (pss_cons (ps_if (PW.pt (pw_and (pt_cmpR op_eq (pv 3) pe_int (nomark _)) (pw_and1 (pt_cmpR op_lt (pv 8) (pe_callB call_len_seq (by rfl) m_len PySem.boot_len (pa_cons (pv 5) pa_nil)) (nomark _)))))
      (pss_one (ps_set (i := 5) sc__law_told_apart.nd rfl (Or.inr rfl) (pe_op op_cat (pe_op op_cat (pe_slice sl_list (pv 5) po_none (po_some (pe_op op_add (pv 8) pe_int))) (pe_lst (pa_cons (pe_tup (pa_cons (pe_ix ix_tup (pe_ix ix_list (pv 5) (pv 8) (fun _ _ => rfl)) pe_int (fun _ _ => rfl)) (pa_cons (pe_op op_add pe_int (pe_cal C__law_draw (hr.mono (by decide)) (pa_cons (pv 0) (pa_cons pe_int pa_nil)))) pa_nil))) pa_nil))) (pe_slice sl_list (pv 5) (po_some (pe_op op_add (pv 8) pe_int)) po_none))))
      pss_nil)
    (pss_cons (ps_if (PW.pt (pw_and (pt_cmpR op_eq (pv 3) pe_int (nomark _)) (pw_and1 (pt_cmpR op_lt (pe_op op_add (pv 8) pe_int) (pe_callB call_len_seq (by rfl) m_len PySem.boot_len (pa_cons (pv 5) pa_nil)) (nomark _)))))
      (pss_one (ps_set (i := 5) sc__law_told_apart.nd rfl (Or.inr rfl) (pe_op op_cat (pe_op op_cat (pe_slice sl_list (pv 5) po_none (po_some (pv 8))) (pe_lst (pa_cons (pe_ix ix_list (pv 5) (pe_op op_add (pv 8) pe_int) (fun _ _ => rfl)) (pa_cons (pe_ix ix_list (pv 5) (pv 8) (fun _ _ => rfl)) pa_nil)))) (pe_slice sl_list (pv 5) (po_some (pe_op op_add (pv 8) pe_int)) po_none))))
      pss_nil)
    (pss_cons (ps_if (PW.pt (pw_and (pt_cmpR op_eq (pv 3) pe_int (nomark _)) (pw_and1 (pt_cmpR op_lt (pv 8) (pe_callB call_len_seq (by rfl) m_len PySem.boot_len (pa_cons (pv 5) pa_nil)) (nomark _)))))
      (pss_one (ps_setLc (i := 7) (own := [("_law_name", 10)]) rfl sc__law_told_apart.nd rfl rfl (sw_true rfl rfl rfl (by decide +kernel)) (pi_tup (pv 1)) (blkOk_by (N := n__law_told_apart) (sc := defScope s__law_told_apart) (by decide +kernel)) (fun _ _ _ _ _ => pg_name (i := 10) sc__law_told_apart.nd rfl (Or.inl rfl)) (fun _ _ _ _ _ => pts_one (pt_cmpR op_ne (pv 10) (pe_ix (ix_tupK (K := K) rfl) (pe_ix (ix_listK (K := K) rfl) (pv 5) (pv 8) (fun _ _ => rfl)) pe_int (fun _ _ => rfl)) (nomark _))) (fun _ _ _ _ _ => (pv 10))))
      pss_nil)
    (pss_cons (ps_if (pt_cmpR op_eq (pv 3) pe_int (nomark _))
      (pss_one (ps_set (i := 6) sc__law_told_apart.nd rfl (Or.inl rfl) (pe_ix ix_list (pe_lst (pa_cons pe_int (pa_cons pe_int (pa_cons pe_int pa_nil)))) (pe_cal C__law_draw (hr.mono (by decide)) (pa_cons (pv 0) (pa_cons pe_int pa_nil))) (fun _ _ => rfl))))
      pss_nil)
    (pss_cons (ps_set (i := 9) sc__law_told_apart.nd rfl (Or.inl rfl) (pe_tup (pa_cons (pe_callTy (T := "tuple") call_tuple_of (by rfl) m_tuple (by decide +kernel) (pa_cons (pv 5) pa_nil)) (pa_cons (pv 6) (pa_cons (pe_ix ix_tup (pv 2) pe_int (fun _ _ => rfl)) pa_nil)))))
    (pss_one (ps_ret (pe_cal C__law_says (hr.mono (by decide)) (pa_cons (pe_mth M_is_valid (hr.mono (by decide)) (pv 4) (pa_cons (pe_callTy (T := "tuple") call_tuple_of (by rfl) m_tuple (by decide +kernel) (pa_cons (pv 7) pa_nil)) (pa_cons (pv 9) pa_nil))) (pa_cons (pe_cal C__law_valid (hr.mono (by decide)) (pa_cons (pv 7) (pa_cons (pv 9) pa_nil))) pa_nil)))))))))))))))))), ?_⟩
    walk_at "rd"
    refine fun k dk nk nd ne => ?_
    obtain ⟨u1, hk⟩ := bare_new (C := C) nk nd ne
    generalize upd (upd H dk (.own k)) k (.ins C dk []) = H1 at u1 hk ⊢
    walk_at "rd"
    refine ⟨_, _, _, _, rfl, rfl, Bx.Same.tup u1 h3, atI_nat (j := 0) rfl, ?_⟩
    refine ⟨b, zs, rfl, .inr (Bx.Same.tup u1 hb), fun tl ntl => ?_⟩
    have u2 := same_new ntl (o := .lst zs)
    have htl := upd_same (H := H1) (a := tl) (o := .lst zs)
    generalize upd H1 tl (.lst zs) = H2 at u2 htl ⊢
    walk_at "rd"
    have u12 := u1.trans u2
    refine ⟨_, _, _, _, rfl, rfl, Bx.Same.tup u12 h3, atI_nat (j := 1) rfl, ?_⟩
    walk_at "rd"
    refine ⟨na, _, rfl, .inr (Bx.Same.tup u12 hna), fun lf nlf => ?_⟩
    have u3 := same_new nlf (o := .lst (ns.map V.str))
    have hlf := upd_same (H := H2) (a := lf) (o := .lst (ns.map V.str))
    generalize upd H2 lf (.lst (ns.map V.str)) = H3 at u3 hlf ⊢
    have u13 := u12.trans u3
    have htl3 := u3 _ _ htl
    have hA3 := src_same hA u13
    walk_at "rd"
    refine ⟨tl, _, rfl, .inl (sq htl3), ?_⟩
    walk_at "rd"
    refine draw_of (lim := (zs.length : Nat) + 1) hA3 (by omega) fun r H4 h0 h1 s4 hA4 => ?_
    obtain ⟨at1, rfl⟩ := Int.eq_ofNat_of_zero_le h0
    have ls : src ≠ tl := src_ne (src_same hA u1) ntl
    have lfs : src ≠ lf := src_ne (src_same hA u12) nlf
    have ks : k ≠ src := fun e => by
      obtain ⟨_, _, h⟩ := hA
      rw [← e, nk] at h
      cases h
    have tk4 : Tk K H H4 := fun _ _ h => sqt_but hA3 s4 (Bx.Same.tup u13 h)
    have S0 : Sp1 K C src na p k ch H 10 [some (.ref src), some (.ref na), some (.ref p), some (.int ch), some (.ref k), some (.ref tl), some (.int c.m), some (.ref lf), some (.int (at1 : Int)), none, none] H4 :=
      ⟨dk, tl, lf, zs, c.t, c.m, ns, at1, rfl, (Bx.Same.but u13).trans s4, hA4, s4 _ _ ks ((u2.trans u3) _ _ hk), s4 _ _ ls.symm htl3, u1.free ntl, u12.free nlf, (ne_of_none htl nlf).symm, da_tk tk4 _ _ (tup_tms _) hz, by omega, okz, s4 _ _ lfs.symm hlf, by omega⟩
    dsimp only [gName]
    show tSeq _ _ _ ([some (.ref src), some (.ref na), some (.ref p), some (.int ch), some (.ref k), some (.ref tl), some (.int c.m), some (.ref lf), some (.int (at1 : Int)), none, none] : List (Option V)) H4
    generalize ([some (.ref src), some (.ref na), some (.ref p), some (.int ch), some (.ref k), some (.ref tl), some (.int c.m), some (.ref lf), some (.int (at1 : Int)), none, none] : List (Option V)) = σ0 at S0 ⊢
    have q9 := fun H' (s : SameBut src H4 H') => q H' (((Bx.Same.but u13).trans s4).trans s)
    refine st_ss (Sp1 K C src na p k ch H 10) (fun D' hD' => ?_) ?_
    · obtain ⟨dk, tl, lf, us, l, m, ls, i, rfl, sb, hA5, hk5, htl5, ntl5, nlf5, lfn, dl, ll, okl, hlf5, lsl⟩ := S0.ex
      have ts : tl ≠ src := (src_ne hA ntl5).symm
      have fs : lf ≠ src := (src_ne hA nlf5).symm
      have hna5 := sqt_but hA sb hna
      have ul : us.length = l.length := by rw [da_len dl, List.length_map]
      have keep := hD' _ _ ⟨dk, tl, lf, us, l, m, ls, i, rfl, sb, hA5, hk5, htl5, ntl5, nlf5, lfn, dl, by omega, okl, hlf5, lsl⟩
      walk_at "rd"
      refine ite2 (fun hc => ?_) (fun hc => ?_)
      · walk_at "rd"
        refine draw_of (lim := 12) hA5 (by decide) fun r H6 _ _ s6 hA6 => ?_
        walk_at "rd"
        exact hD' _ H6 ⟨dk, tl, lf, us, l, _, ls, i, rfl, sb.trans s6, hA6, s6 _ _ ks hk5, s6 _ _ ts htl5, ntl5, nlf5, lfn, da_tk (tk_but hA5 s6) _ _ (tup_tms _) dl, ll, okl, s6 _ _ fs hlf5, lsl⟩
      · walk_at "rd"
        exact keep
    rintro σ1 H5 S
    refine st_ss (Sp1 K C src na p k ch H 11) (fun D' hD' => ?_) ?_
    · obtain ⟨dk, tl, lf, us, l, m, ls, i, rfl, sb, hA5, hk5, htl5, ntl5, nlf5, lfn, dl, ll, okl, hlf5, lsl⟩ := S.ex
      have ts : tl ≠ src := (src_ne hA ntl5).symm
      have fs : lf ≠ src := (src_ne hA nlf5).symm
      have hna5 := sqt_but hA sb hna
      have ul : us.length = l.length := by rw [da_len dl, List.length_map]
      have keep := hD' _ _ ⟨dk, tl, lf, us, l, m, ls, i, rfl, sb, hA5, hk5, htl5, ntl5, nlf5, lfn, dl, by omega, okl, hlf5, lsl⟩
      walk_at "rd"
      refine ite2 (fun hc => ?_) (fun hc => ?_)
      · walk_at "rd"
        refine ⟨tl, us, rfl, sq htl5, fun q1 nq1 => ?_⟩
        rw [cut_pre]
        have v1 := same_new nq1 (o := .lst (us.take i))
        have hq1 := upd_same (H := H5) (a := q1) (o := .lst (us.take i))
        generalize upd H5 q1 (.lst (us.take i)) = H6 at v1 hq1 ⊢
        walk_at "rd"
        refine ⟨sz (by show 2 ≤ 100000; decide), fun T nT => ?_⟩
        have v2 := same_new nT (o := .tup [V.str (Str.ofString "zebra"), .int 3])
        have hT := upd_same (H := H6) (a := T) (o := .tup [V.str (Str.ofString "zebra"), .int 3])
        generalize upd H6 T (.tup [V.str (Str.ofString "zebra"), .int 3]) = H7 at v2 hT ⊢
        walk_at "rd"
        refine ⟨sz (by show 1 ≤ 100000; decide), fun q2 nq2 => ?_⟩
        have v3 := same_new nq2 (o := .lst ([V.ref T]))
        have hq2 := upd_same (H := H7) (a := q2) (o := .lst ([V.ref T]))
        generalize upd H7 q2 (.lst ([V.ref T])) = H8 at v3 hq2 ⊢
        refine ⟨q1, q2, us.take i, [V.ref T], rfl, rfl, (v2.trans v3) _ _ hq1, hq2, sz (by rw [List.length_take]; show min i us.length + 1 ≤ 100000; omega), fun q3 nq3 => ?_⟩
        have v4 := same_new nq3 (o := .lst (us.take i ++ [V.ref T]))
        have hq3 := upd_same (H := H8) (a := q3) (o := .lst (us.take i ++ [V.ref T]))
        generalize upd H8 q3 (.lst (us.take i ++ [V.ref T])) = H9 at v4 hq3 ⊢
        have v59 := v1.trans (v2.trans (v3.trans v4))
        walk_at "rd"
        unfold tNoPart
        dsimp only
        refine ⟨tl, us, rfl, sq (v59 _ _ htl5), fun q4 nq4 => ?_⟩
        rw [cut_suf]
        have v5 := same_new nq4 (o := .lst (us.drop i))
        have hq4 := upd_same (H := H9) (a := q4) (o := .lst (us.drop i))
        generalize upd H9 q4 (.lst (us.drop i)) = H10 at v5 hq4 ⊢
        refine ⟨q3, q4, _, _, rfl, rfl, v5 _ _ hq3, hq4, sz (by rw [List.length_append, List.length_take, List.length_drop]; show min i us.length + 1 + (us.length - i) ≤ 100000; omega), fun q5 nq5 => ?_⟩
        have v6 := same_new nq5 (o := .lst ((us.take i ++ [V.ref T]) ++ us.drop i))
        have hq5 := upd_same (H := H10) (a := q5) (o := .lst ((us.take i ++ [V.ref T]) ++ us.drop i))
        generalize upd H10 q5 (.lst ((us.take i ++ [V.ref T]) ++ us.drop i)) = H11 at v6 hq5 ⊢
        have v511 := v59.trans (v5.trans v6)
        walk_at "rd"
        refine hD' _ H11 ⟨dk, q5, lf, _, (l.take i ++ [((Str.ofString "zebra", 3) : Tr5)]) ++ l.drop i, m, ls, i, rfl, sb.trans (Bx.Same.but v511), src_same hA5 v511, v511 _ _ hk5, hq5, but_free sb ((v59.trans v5).free nq5) hA5, nlf5, (fun e => by rw [← e, (v59.trans v5) _ _ hlf5] at nq5; cases nq5), ?_, ?_, fun x hx => ?_, v511 _ _ hlf5, lsl⟩
        · have dl2 := dpAll_same v511 dl
          rw [List.map_append, List.map_append, List.map_take, List.map_drop]
          exact da_app (da_app (da_take i dl2) (da_one (tm_dp (x := (Str.ofString "zebra", 3)) (sqt ((v3.trans (v4.trans (v5.trans v6))) _ _ hT))))) (da_drop i dl2)
        · rw [List.length_append, List.length_append, List.length_take, List.length_drop]
          show min i l.length + 1 + (l.length - i) ≤ 11
          omega
        · rcases List.mem_append.mp hx with h | h
          · rcases List.mem_append.mp h with h | h
            · exact okl x (List.mem_of_mem_take h)
            · rw [List.mem_singleton.mp h]
              decide +kernel
          · exact okl x (List.mem_of_mem_drop h)
      · walk_at "rd"
        exact keep
    rintro σ2 H5 S
    refine st_ss (Sp1 K C src na p k ch H 11) (fun D' hD' => ?_) ?_
    · obtain ⟨dk, tl, lf, us, l, m, ls, i, rfl, sb, hA5, hk5, htl5, ntl5, nlf5, lfn, dl, ll, okl, hlf5, lsl⟩ := S.ex
      have ts : tl ≠ src := (src_ne hA ntl5).symm
      have fs : lf ≠ src := (src_ne hA nlf5).symm
      have hna5 := sqt_but hA sb hna
      have ul : us.length = l.length := by rw [da_len dl, List.length_map]
      have keep := hD' _ _ ⟨dk, tl, lf, us, l, m, ls, i, rfl, sb, hA5, hk5, htl5, ntl5, nlf5, lfn, dl, by omega, okl, hlf5, lsl⟩
      walk_at "rd"
      refine ite2 (fun hc => ?_) (fun hc => ?_)
      · walk_at "rd"
        refine ⟨tl, us, rfl, .inl (sq htl5), ?_⟩
        walk_at "rd"
        refine ite2 (fun hc2 => ?_) (fun hc2 => ?_)
        · have il : i < us.length := by
            have z := of_decide_eq_true hc2
            omega
          obtain ⟨y, hy, ya, ey, hya⟩ := tm_at dl (List.getElem?_eq_getElem il)
          have eu : us[i]? = some (.ref ya) := by rw [List.getElem?_eq_getElem il, ey]
          walk_at "rd"
          refine ⟨_, _, _, _, rfl, rfl, sq htl5, atI_nat eu, ?_⟩
          walk_at "rd"
          refine ⟨_, _, _, _, rfl, rfl, hya, atI_nat (j := 0) rfl, ?_⟩
          walk_at "rd"
          refine ⟨sz (by show 2 ≤ 100000; decide), fun T nT => ?_⟩
          have v1 := same_new nT (o := .tup [V.str y.1, .int 0])
          have hT := upd_same (H := H5) (a := T) (o := .tup [V.str y.1, .int 0])
          generalize upd H5 T (.tup [V.str y.1, .int 0]) = H6 at v1 hT ⊢
          walk_at "rd"
          have htl6 := v1 _ _ htl5
          refine ⟨tl, us, (i : Int), i, rfl, rfl, htl6, ixN_nat il, ?_⟩
          have tk := tk_lst (K := K) (o := .lst (us.set i (.ref T))) htl6
          have kt : k ≠ tl := fun e => by
            rw [e, htl5] at hk5
            cases hk5
          refine hD' _ _ ⟨dk, tl, lf, us.set i (.ref T), l.set i (y.1, 0), m, ls, i, rfl, but_at ntl5 (sb.trans (Bx.Same.but v1)), src_upd (src_same hA5 v1) ts.symm, by rw [upd_ne kt]; exact v1 _ _ hk5, upd_same, ntl5, nlf5, lfn, ?_, by rw [List.length_set]; exact ll, fun x hx => ?_, by rw [upd_ne lfn]; exact v1 _ _ hlf5, lsl⟩
          · have e : (l.set i (y.1, 0)).map tmD = (l.map tmD).set i (tmD (y.1, 0)) := List.map_set
            rw [e]
            exact da_set i (da_tk tk _ _ (tup_tms _) (dpAll_same v1 dl)) (dp_tk tk _ _ rfl (tm_dp (x := (y.1, 0)) (sqt hT)))
          · rcases List.mem_or_eq_of_mem_set hx with h | h
            · exact okl x h
            · rw [h]
              exact okl y (List.mem_of_getElem? hy)
        · walk_at "rd"
          exact keep
      · walk_at "rd"
        exact keep
    rintro σ3 H5 S
    refine st_ss (Sp1 K C src na p k ch H 12) (fun D' hD' => ?_) ?_
    · obtain ⟨dk, tl, lf, us, l, m, ls, i, rfl, sb, hA5, hk5, htl5, ntl5, nlf5, lfn, dl, ll, okl, hlf5, lsl⟩ := S.ex
      have ts : tl ≠ src := (src_ne hA ntl5).symm
      have fs : lf ≠ src := (src_ne hA nlf5).symm
      have hna5 := sqt_but hA sb hna
      have ul : us.length = l.length := by rw [da_len dl, List.length_map]
      have keep := hD' _ _ ⟨dk, tl, lf, us, l, m, ls, i, rfl, sb, hA5, hk5, htl5, ntl5, nlf5, lfn, dl, by omega, okl, hlf5, lsl⟩
      walk_at "rd"
      refine ite2 (fun hc => ?_) (fun hc => ?_)
      · walk_at "rd"
        refine ⟨tl, us, rfl, .inl (sq htl5), ?_⟩
        walk_at "rd"
        refine ite2 (fun hc2 => ?_) (fun hc2 => ?_)
        · have il : i < us.length := by
            have z := of_decide_eq_true hc2
            omega
          obtain ⟨y, hy, ya, ey, hya⟩ := tm_at dl (List.getElem?_eq_getElem il)
          have eu : us[i]? = some (.ref ya) := by rw [List.getElem?_eq_getElem il, ey]
          walk_at "rd"
          refine ⟨tl, us, rfl, sq htl5, fun q1 nq1 => ?_⟩
          have ei : (i : Int) + 1 = ((i + 1 : Nat) : Int) := rfl
          rw [ei, cut_pre]
          have v1 := same_new nq1 (o := .lst (us.take (i + 1)))
          have hq1 := upd_same (H := H5) (a := q1) (o := .lst (us.take (i + 1)))
          generalize upd H5 q1 (.lst (us.take (i + 1))) = H6 at v1 hq1 ⊢
          walk_at "rd"
          refine ⟨_, _, _, _, rfl, rfl, sq (v1 _ _ htl5), atI_nat eu, ?_⟩
          walk_at "rd"
          refine ⟨_, _, _, _, rfl, rfl, Bx.Same.tup v1 hya, atI_nat (j := 0) rfl, ?_⟩
          walk_at "rd"
          refine draw_of (lim := 9) (src_same hA5 v1) (by decide) fun r H7 h0 h1 s7 hA7 => ?_
          have b57 := (Bx.Same.but v1).trans s7
          have q1s : q1 ≠ src := (src_ne hA5 nq1).symm
          have tk57 := tk_but (K := K) hA5 b57
          walk_at "rd"
          refine ⟨sz (by show 2 ≤ 100000; decide), fun T nT => ?_⟩
          have v2 := same_new nT (o := .tup [V.str y.1, .int (1 + r)])
          have hT := upd_same (H := H7) (a := T) (o := .tup [V.str y.1, .int (1 + r)])
          generalize upd H7 T (.tup [V.str y.1, .int (1 + r)]) = H8 at v2 hT ⊢
          walk_at "rd"
          refine ⟨sz (by show 1 ≤ 100000; decide), fun q2 nq2 => ?_⟩
          have v3 := same_new nq2 (o := .lst ([V.ref T]))
          have hq2 := upd_same (H := H8) (a := q2) (o := .lst ([V.ref T]))
          generalize upd H8 q2 (.lst ([V.ref T])) = H9 at v3 hq2 ⊢
          have hq1' := (v2.trans v3) _ _ (s7 _ _ q1s hq1)
          refine ⟨q1, q2, us.take (i + 1), [V.ref T], rfl, rfl, hq1', hq2, sz (by rw [List.length_take]; show min (i + 1) us.length + 1 ≤ 100000; omega), fun q3 nq3 => ?_⟩
          have v4 := same_new nq3 (o := .lst (us.take (i + 1) ++ [V.ref T]))
          have hq3 := upd_same (H := H9) (a := q3) (o := .lst (us.take (i + 1) ++ [V.ref T]))
          generalize upd H9 q3 (.lst (us.take (i + 1) ++ [V.ref T])) = H10 at v4 hq3 ⊢
          have v710 := v2.trans (v3.trans v4)
          have htl10 := v710 _ _ (b57 _ _ ts htl5)
          walk_at "rd"
          unfold tNoPart
          dsimp only
          refine ⟨tl, us, rfl, sq htl10, fun q4 nq4 => ?_⟩
          rw [ei, cut_suf]
          have v5 := same_new nq4 (o := .lst (us.drop (i + 1)))
          have hq4 := upd_same (H := H10) (a := q4) (o := .lst (us.drop (i + 1)))
          generalize upd H10 q4 (.lst (us.drop (i + 1))) = H11 at v5 hq4 ⊢
          refine ⟨q3, q4, _, _, rfl, rfl, v5 _ _ hq3, hq4, sz (by rw [List.length_append, List.length_take, List.length_drop]; show min (i + 1) us.length + 1 + (us.length - (i + 1)) ≤ 100000; omega), fun q5 nq5 => ?_⟩
          have v6 := same_new nq5 (o := .lst ((us.take (i + 1) ++ [V.ref T]) ++ us.drop (i + 1)))
          have hq5 := upd_same (H := H11) (a := q5) (o := .lst ((us.take (i + 1) ++ [V.ref T]) ++ us.drop (i + 1)))
          generalize upd H11 q5 (.lst ((us.take (i + 1) ++ [V.ref T]) ++ us.drop (i + 1))) = H12 at v6 hq5 ⊢
          have v712 := v710.trans (v5.trans v6)
          have b512 := b57.trans (Bx.Same.but v712)
          walk_at "rd"
          refine hD' _ H12 ⟨dk, q5, lf, _, (l.take (i + 1) ++ [((y.1, 1 + r) : Tr5)]) ++ l.drop (i + 1), m, ls, i, rfl, sb.trans b512, src_same hA7 v712, v712 _ _ (b57 _ _ ks hk5), hq5, but_free (sb.trans b57) ((v710.trans v5).free nq5) hA7, nlf5, (fun e => by rw [← e, (v710.trans v5) _ _ (b57 _ _ fs hlf5)] at nq5; cases nq5), ?_, ?_, fun x hx => ?_, v712 _ _ (b57 _ _ fs hlf5), lsl⟩
          · have dl2 := dpAll_same v712 (da_tk tk57 _ _ (tup_tms _) dl)
            rw [List.map_append, List.map_append, List.map_take, List.map_drop]
            exact da_app (da_app (da_take (i + 1) dl2) (da_one (tm_dp (x := (y.1, 1 + r)) (sqt ((v3.trans (v4.trans (v5.trans v6))) _ _ hT))))) (da_drop (i + 1) dl2)
          · rw [List.length_append, List.length_append, List.length_take, List.length_drop]
            show min (i + 1) l.length + 1 + (l.length - (i + 1)) ≤ 12
            omega
          · rcases List.mem_append.mp hx with h | h
            · rcases List.mem_append.mp h with h | h
              · exact okl x (List.mem_of_mem_take h)
              · rw [List.mem_singleton.mp h]
                exact okl y (List.mem_of_getElem? hy)
            · exact okl x (List.mem_of_mem_drop h)
        · walk_at "rd"
          exact keep
      · walk_at "rd"
        exact keep
    rintro σ4 H5 S
    refine st_ss (Sp1 K C src na p k ch H 12) (fun D' hD' => ?_) ?_
    · obtain ⟨dk, tl, lf, us, l, m, ls, i, rfl, sb, hA5, hk5, htl5, ntl5, nlf5, lfn, dl, ll, okl, hlf5, lsl⟩ := S.ex
      have ts : tl ≠ src := (src_ne hA ntl5).symm
      have fs : lf ≠ src := (src_ne hA nlf5).symm
      have hna5 := sqt_but hA sb hna
      have ul : us.length = l.length := by rw [da_len dl, List.length_map]
      have keep := hD' _ _ ⟨dk, tl, lf, us, l, m, ls, i, rfl, sb, hA5, hk5, htl5, ntl5, nlf5, lfn, dl, by omega, okl, hlf5, lsl⟩
      walk_at "rd"
      refine ite2 (fun hc => ?_) (fun hc => ?_)
      · walk_at "rd"
        refine ⟨tl, us, rfl, .inl (sq htl5), ?_⟩
        walk_at "rd"
        refine ite2 (fun hc2 => ?_) (fun hc2 => ?_)
        · have il : i + 1 < us.length := by
            have z := of_decide_eq_true hc2
            omega
          have il0 : i < us.length := by omega
          obtain ⟨y, hy, ya, ey, hya⟩ := tm_at dl (List.getElem?_eq_getElem il0)
          have eu : us[i]? = some (.ref ya) := by rw [List.getElem?_eq_getElem il0, ey]
          obtain ⟨y2, hy2, ya2, ey2, hya2⟩ := tm_at dl (List.getElem?_eq_getElem il)
          have eu2 : us[i + 1]? = some (.ref ya2) := by rw [List.getElem?_eq_getElem il, ey2]
          have ei : (i : Int) + 1 = ((i + 1 : Nat) : Int) := rfl
          have ei2 : (i : Int) + 2 = ((i + 2 : Nat) : Int) := rfl
          walk_at "rd"
          refine ⟨tl, us, rfl, sq htl5, fun q1 nq1 => ?_⟩
          rw [cut_pre]
          have v1 := same_new nq1 (o := .lst (us.take i))
          have hq1 := upd_same (H := H5) (a := q1) (o := .lst (us.take i))
          generalize upd H5 q1 (.lst (us.take i)) = H6 at v1 hq1 ⊢
          walk_at "rd"
          refine ⟨_, _, _, _, rfl, rfl, sq (v1 _ _ htl5), (by show atI us ((i : Int) + 1) = _; rw [ei]; exact atI_nat eu2), ?_⟩
          walk_at "rd"
          refine ⟨_, _, _, _, rfl, rfl, sq (v1 _ _ htl5), atI_nat eu, ?_⟩
          walk_at "rd"
          refine ⟨sz (by show 2 ≤ 100000; decide), fun q2 nq2 => ?_⟩
          have v2 := same_new nq2 (o := .lst ([V.ref ya2, V.ref ya]))
          have hq2 := upd_same (H := H6) (a := q2) (o := .lst ([V.ref ya2, V.ref ya]))
          generalize upd H6 q2 (.lst ([V.ref ya2, V.ref ya])) = H7 at v2 hq2 ⊢
          refine ⟨q1, q2, us.take i, [V.ref ya2, V.ref ya], rfl, rfl, v2 _ _ hq1, hq2, sz (by rw [List.length_take]; show min i us.length + 2 ≤ 100000; omega), fun q3 nq3 => ?_⟩
          have v3 := same_new nq3 (o := .lst (us.take i ++ [V.ref ya2, V.ref ya]))
          have hq3 := upd_same (H := H7) (a := q3) (o := .lst (us.take i ++ [V.ref ya2, V.ref ya]))
          generalize upd H7 q3 (.lst (us.take i ++ [V.ref ya2, V.ref ya])) = H8 at v3 hq3 ⊢
          have v58 := v1.trans (v2.trans v3)
          walk_at "rd"
          unfold tNoPart
          dsimp only
          refine ⟨tl, us, rfl, sq (v58 _ _ htl5), fun q4 nq4 => ?_⟩
          rw [ei2, cut_suf]
          have v4 := same_new nq4 (o := .lst (us.drop (i + 2)))
          have hq4 := upd_same (H := H8) (a := q4) (o := .lst (us.drop (i + 2)))
          generalize upd H8 q4 (.lst (us.drop (i + 2))) = H9 at v4 hq4 ⊢
          refine ⟨q3, q4, _, _, rfl, rfl, v4 _ _ hq3, hq4, sz (by rw [List.length_append, List.length_take, List.length_drop]; show min i us.length + 2 + (us.length - (i + 2)) ≤ 100000; omega), fun q5 nq5 => ?_⟩
          have v5 := same_new nq5 (o := .lst ((us.take i ++ [V.ref ya2, V.ref ya]) ++ us.drop (i + 2)))
          have hq5 := upd_same (H := H9) (a := q5) (o := .lst ((us.take i ++ [V.ref ya2, V.ref ya]) ++ us.drop (i + 2)))
          generalize upd H9 q5 (.lst ((us.take i ++ [V.ref ya2, V.ref ya]) ++ us.drop (i + 2))) = H10 at v5 hq5 ⊢
          have v510 := v58.trans (v4.trans v5)
          walk_at "rd"
          refine hD' _ H10 ⟨dk, q5, lf, _, (l.take i ++ [y2, y]) ++ l.drop (i + 2), m, ls, i, rfl, sb.trans (Bx.Same.but v510), src_same hA5 v510, v510 _ _ hk5, hq5, but_free sb ((v58.trans v4).free nq5) hA5, nlf5, (fun e => by rw [← e, (v58.trans v4) _ _ hlf5] at nq5; cases nq5), ?_, ?_, fun x hx => ?_, v510 _ _ hlf5, lsl⟩
          · have dl2 := dpAll_same v510 dl
            rw [List.map_append, List.map_append, List.map_take, List.map_drop]
            exact da_app (da_app (da_take i dl2) (.cons (tm_dp (Bx.Same.tup v510 hya2)) (da_one (tm_dp (Bx.Same.tup v510 hya))))) (da_drop (i + 2) dl2)
          · rw [List.length_append, List.length_append, List.length_take, List.length_drop]
            show min i l.length + 2 + (l.length - (i + 2)) ≤ 12
            omega
          · rcases List.mem_append.mp hx with h | h
            · rcases List.mem_append.mp h with h | h
              · exact okl x (List.mem_of_mem_take h)
              · rcases List.mem_cons.mp h with rfl | h
                · exact okl _ (List.mem_of_getElem? hy2)
                · rw [List.mem_singleton.mp h]
                  exact okl y (List.mem_of_getElem? hy)
            · exact okl x (List.mem_of_mem_drop h)
        · walk_at "rd"
          exact keep
      · walk_at "rd"
        exact keep
    rintro σ5 H5 S
    refine st_ss (Sp1 K C src na p k ch H 12) (fun D' hD' => ?_) ?_
    · obtain ⟨dk, tl, lf, us, l, m, ls, i, rfl, sb, hA5, hk5, htl5, ntl5, nlf5, lfn, dl, ll, okl, hlf5, lsl⟩ := S.ex
      have ts : tl ≠ src := (src_ne hA ntl5).symm
      have fs : lf ≠ src := (src_ne hA nlf5).symm
      have hna5 := sqt_but hA sb hna
      have ul : us.length = l.length := by rw [da_len dl, List.length_map]
      have keep := hD' _ _ ⟨dk, tl, lf, us, l, m, ls, i, rfl, sb, hA5, hk5, htl5, ntl5, nlf5, lfn, dl, by omega, okl, hlf5, lsl⟩
      walk_at "rd"
      refine ite2 (fun hc => ?_) (fun hc => ?_)
      · walk_at "rd"
        refine ⟨tl, us, rfl, .inl (sq htl5), ?_⟩
        walk_at "rd"
        refine ite2 (fun hc2 => ?_) (fun hc2 => ?_)
        · have il : i < us.length := by
            have z := of_decide_eq_true hc2
            omega
          obtain ⟨y, hy, ya, ey, hya⟩ := tm_at dl (List.getElem?_eq_getElem il)
          have eu : us[i]? = some (.ref ya) := by rw [List.getElem?_eq_getElem il, ey]
          walk_at "rd"
          refine ⟨⟨_, hna5⟩, fun D hD => ?_⟩
          refine lc_it walk_tup (fun j H' => Same H5 H' ∧ H' D = some (.lst (((ns.take j).filter fun z => decide (z ≠ y.1)).map V.str))) ⟨same_new hD, upd_same⟩ (fun j H' _ h => Bx.Same.tup h.1 hna5) ?_ ?_
          · rintro j x Ha H6 hj ⟨s6, hM⟩ ⟨rfl, hx⟩
            obtain ⟨z, hz, rfl⟩ := at_map hx
            refine ⟨rfl, ?_⟩
            walk_at "rd"
            refine ⟨_, _, _, _, rfl, rfl, sq (s6 _ _ htl5), atI_nat eu, ?_⟩
            walk_at "rd"
            refine ⟨_, _, _, _, rfl, rfl, Bx.Same.tup s6 hya, atI_nat (j := 0) rfl, ?_⟩
            walk_at "rd"
            have eg : ((ns.take (j + 1)).filter fun z => decide (z ≠ y.1)) = ((ns.take j).filter fun z => decide (z ≠ y.1)) ++ if z = y.1 then [] else [z] := by
              rw [List.take_add_one, hz, List.filter_append]
              congr 1
              by_cases m : z = y.1 <;> simp [m]
            rw [eg]
            refine ite2 (fun m => ?_) (fun m => ?_)
            · have ne : z ≠ y.1 := fun e => ne_t m (congrArg V.str e)
              rw [if_neg ne]
              walk_at "rd"
              refine ⟨_, hM, ?_, same_at hD s6, ?_⟩
              · rw [List.length_map]
                have z1 := List.length_filter_le (fun z => decide (z ≠ y.1)) (ns.take j)
                have z2 := List.length_take_le' j ns
                exact szl (by omega)
              · rw [upd_same, List.map_append]
                rfl
            · have e : z = y.1 := V.str.inj (ne_f m)
              rw [if_pos e, List.append_nil]
              exact ⟨s6, hM⟩
          rintro H6 ⟨s6, hM⟩
          rw [List.length_map, List.take_length] at hM
          walk_at "rd"
          refine hD' _ H6 ⟨dk, tl, D, us, l, m, ns.filter fun z => decide (z ≠ y.1), i, rfl, sb.trans (Bx.Same.but s6), src_same hA5 s6, s6 _ _ hk5, s6 _ _ htl5, ntl5, but_free sb hD hA5, (fun e => by rw [e, htl5] at hD; cases hD), dpAll_same s6 dl, ll, okl, hM, Nat.le_trans (List.length_filter_le _ _) (by omega)⟩
        · walk_at "rd"
          exact keep
      · walk_at "rd"
        exact keep
    rintro σ6 H5 S
    refine st_ss (Sp1 K C src na p k ch H 12) (fun D' hD' => ?_) ?_
    · obtain ⟨dk, tl, lf, us, l, m, ls, i, rfl, sb, hA5, hk5, htl5, ntl5, nlf5, lfn, dl, ll, okl, hlf5, lsl⟩ := S.ex
      have ts : tl ≠ src := (src_ne hA ntl5).symm
      have fs : lf ≠ src := (src_ne hA nlf5).symm
      have hna5 := sqt_but hA sb hna
      have ul : us.length = l.length := by rw [da_len dl, List.length_map]
      have keep := hD' _ _ ⟨dk, tl, lf, us, l, m, ls, i, rfl, sb, hA5, hk5, htl5, ntl5, nlf5, lfn, dl, by omega, okl, hlf5, lsl⟩
      walk_at "rd"
      refine ite2 (fun hc => ?_) (fun hc => ?_)
      · walk_at "rd"
        refine ⟨sz (by show 3 ≤ 100000; decide), fun l0 nl0 => ?_⟩
        have nl0s := src_ne hA5 nl0
        have u0 := same_new nl0 (o := .lst ([(0 : Int), 1, 12].map V.int))
        have hl0 : (upd H5 l0 (.lst ([(0 : Int), 1, 12].map V.int))) l0 = some (.lst ([(0 : Int), 1, 12].map V.int)) := upd_same
        have hA6 := src_same hA5 u0
        walk_at "rd"
        refine draw_of (lim := 3) hA6 (by decide) fun r6 H7 h6 h7 s7 hA7 => ?_
        obtain ⟨j, rfl⟩ := Int.eq_ofNat_of_zero_le h6
        have hj : j < [(0 : Int), 1, 12].length := by
          show j < 3
          omega
        refine ⟨_, _, _, _, rfl, rfl, sq (s7 _ _ nl0s.symm hl0), int_at (k := j) hj, ?_⟩
        have b57 := (Bx.Same.but u0).trans s7
        walk_at "rd"
        exact hD' _ H7 ⟨dk, tl, lf, us, l, _, ls, i, rfl, sb.trans b57, hA7, b57 _ _ ks hk5, b57 _ _ ts htl5, ntl5, nlf5, lfn, da_tk (tk_but hA5 b57) _ _ (tup_tms _) dl, ll, okl, b57 _ _ fs hlf5, lsl⟩
      · walk_at "rd"
        exact keep
    rintro σ7 H5 S
    obtain ⟨dk, tl, lf, us, l, m, ls, i, rfl, sb, hA5, hk5, htl5, ntl5, nlf5, lfn, dl, ll, okl, hlf5, lsl⟩ := S.ex
    have hp5 : SqT K H5 p [.ref b, .int c.m, .int c.r] := sqt_but hA sb h3
    walk_at "rd"
    refine ⟨tl, us, rfl, .inl ⟨sq htl5, fun tt ntt => ?_⟩⟩
    have w1 := same_new ntt (o := .tup us)
    have htt := upd_same (H := H5) (a := tt) (o := .tup us)
    generalize upd H5 tt (.tup us) = H6 at w1 htt ⊢
    walk_at "rd"
    refine ⟨_, _, _, _, rfl, rfl, Bx.Same.tup w1 hp5, atI_nat (j := 2) rfl, ?_⟩
    walk_at "rd"
    refine ⟨sz (by show 3 ≤ 100000; decide), fun sp nsp => ?_⟩
    have w2 := same_new nsp (o := .tup [.ref tt, .int m, .int c.r])
    have hsp := upd_same (H := H6) (a := sp) (o := .tup [.ref tt, .int m, .int c.r])
    generalize upd H6 sp (.tup [.ref tt, .int m, .int c.r]) = H7 at w2 hsp ⊢
    have w57 := w1.trans w2
    have dsp : Dp K H7 (.ref sp) (coD ⟨l, m, c.r⟩) := dp_co (c := ⟨l, m, c.r⟩) (sqt hsp) (sqt (w2 _ _ htt)) (dpAll_same w57 dl)
    walk_at "rd"
    refine ⟨k, dk, _, rfl, w57 _ _ hk5, rfl, ?_⟩
    walk_at "rd"
    refine ⟨lf, _, rfl, .inl ⟨sq (w57 _ _ hlf5), fun tn ntn => ?_⟩⟩
    have w3 := same_new ntn (o := .tup (ls.map V.str))
    have htn := upd_same (H := H7) (a := tn) (o := .tup (ls.map V.str))
    generalize upd H7 tn (.tup (ls.map V.str)) = H8 at w3 htn ⊢
    have w58 := w57.trans w3
    walk_at "rd"
    show spSV K C _ _ _ _
    unfold spSV
    refine ⟨k, dk, tn, sp, [], ls, ⟨l, m, c.r⟩, rfl, w58 _ _ hk5, rfl, sqt htn, dp_same w3 dsp, (show l.length ≤ 60 by omega), okl, fun H9 s9 => ?_⟩
    have w79 := w3.trans s9
    walk_at "rd"
    show spLValid K _ _ _ _
    unfold spLValid
    refine ⟨lf, sp, ls, ⟨l, m, c.r⟩, rfl, sq ((w58.trans s9) _ _ hlf5), dp_same w79 dsp, (show l.length ≤ 60 by omega), ?_⟩
    walk_at "rd"
    show spSays _ _ _ _
    unfold spSays
    refine ⟨_, _, rfl, ?_⟩
    rw [decide_eq_true rfl]
    exact q H9 (sb.trans (Bx.Same.but (w58.trans s9))) (src_same hA5 (w58.trans s9))
end
end K31
namespace K31
local macro_rules | `(tactic| walk_at "rd") => `(tactic| repeat (first | refine ⟨rfl, ?_⟩ | refine ⟨_, rfl, ?_⟩ | refine ⟨_, _, rfl, rfl, ?_⟩ | refine ⟨⟨_, rfl⟩, ?_⟩))
open PySem PySem.Spec PyProof.Rows L2 Bx TL Dx Zx Ow Sup NdefX Px T31 M31
theorem valid_lc {ns : List Str} {c : Con} (nm : Nm ns) (lc : Lc ns c) : validB ns c = true := by
  refine valid_iff.mpr ⟨fun j hj x hx => ?_, lc.ok.m0⟩
  have xm := List.mem_of_getElem? hx
  refine ⟨lc.nz x xm, lc.sub.subset (List.mem_map.mpr ⟨x, xm, rfl⟩), fun y j0 hy => ?_⟩
  refine asc_at (List.Pairwise.sublist lc.sub nm.asc) (j := j - 1) (x := y.1) (y := x.1) ?_ ?_
  · unfold names
    rw [List.getElem?_map, hy]
    rfl
  · unfold names
    rw [Nat.sub_add_cancel (by omega), List.getElem?_map, hx]
    rfl
def upl (l : As) (z : Str) (v : Int) : As := l.map fun p => if p.1 = z then (p.1, v) else p
theorem upl_keys (l : As) (z : Str) (v : Int) : (upl l z v).map (·.1) = l.map (·.1) := by
  unfold upl
  rw [List.map_map]
  refine List.map_congr_left fun p _ => ?_
  show (if p.1 = z then (p.1, v) else p).1 = p.1
  split <;> rfl
theorem put_up {l : As} {z : Str} {v : Int} (h : z ∈ l.map (·.1)) : putK (asV l) (.inr z) (.int v) = asV (upl l z v) := by
  unfold putK
  rw [if_pos]
  · unfold asV upl
    rw [List.map_map, List.map_map]
    refine List.map_congr_left fun p _ => ?_
    show (if (Sum.inr p.1 : Key) = .inr z then ((.inr p.1 : Key), V.int v) else (.inr p.1, .int p.2)) = ((.inr (if p.1 = z then (p.1, v) else p).1 : Key), V.int (if p.1 = z then (p.1, v) else p).2)
    by_cases e : p.1 = z
    · rw [if_pos (congrArg Sum.inr e), if_pos e]
    · rw [if_neg (fun z2 => e (Sum.inr.inj z2)), if_neg e]
  · obtain ⟨p, hp, e⟩ := List.mem_map.mp h
    rw [List.any_eq_true]
    exact ⟨(.inr p.1, .int p.2), List.mem_map.mpr ⟨p, hp, rfl⟩, decide_eq_true (congrArg Sum.inr e)⟩
theorem upl_size {l : As} {z : Str} {v : Int} {B : Nat} (h : ∀ p ∈ l, p.2.natAbs ≤ B) (hv : v.natAbs ≤ B) : ∀ p ∈ upl l z v, p.2.natAbs ≤ B := fun p hp => by
  obtain ⟨q, hq, rfl⟩ := List.mem_map.mp hp
  split
  · exact hv
  · exact h q hq
theorem own_as : ∀ {l : As}, (l.map (·.1)).Nodup → ∀ p ∈ asV l, valV (asV l) p.1 = some p.2 ∧ flatB p.2 = true
  | [], _, _, hp => nomatch hp
  | x :: l, nd, p, hp => by
    obtain ⟨n1, n2⟩ := List.nodup_cons.mp nd
    show valV (((.inr x.1 : Key), V.int x.2) :: asV l) p.1 = _ ∧ _
    rcases List.mem_cons.mp hp with rfl | hp
    · exact ⟨valV_pos rfl, rfl⟩
    · have z := own_as n2 p hp
      refine ⟨?_, z.2⟩
      rw [valV_neg fun e => n1 ?_]
      · exact z.1
      · obtain ⟨q, hq, rfl⟩ := List.mem_map.mp hp
        exact List.mem_map.mpr ⟨q, hq, (Sum.inr.inj e).symm⟩
theorem eqOk_strs {ns : List Str} (h : ∀ z ∈ ns, PyData.strOk z = true) (l : ns.length ≤ 1000) (k : Nat) : eqOk (k + 1) (.tuple (ns.map PyData.str)) := by
  refine ⟨by rw [List.length_map]; exact l, fun d hd => ?_⟩
  obtain ⟨z, hz, rfl⟩ := List.mem_map.mp hd
  cases k <;> exact h z hz
section
variable {P : Program} {w : World} {K : PySem.W.Frag} {mg : Str → Option Value} {base : Heap}
theorem names_dp {H : Hp} {a : Addr} {ns : List Str} (h : SqT K H a (ns.map V.str)) : Dp K H (.ref a) (.tuple (ns.map PyData.str)) := .tup h (dp_strs ns)
@[irreducible] def spJudged (K : PySem.W.Frag) : Sp := fun vs H Q _ => ∃ (s na p : Addr) (ns : List Str) (c : Con), vs = [.ref s, .ref na, .ref p] ∧ Src H s ∧ SqT K H na (ns.map V.str) ∧ Dp K H (.ref p) (coD c) ∧ Nm ns ∧ Lc ns c ∧ ∀ H', SameBut s H H' → Src H' s → Q (.bl true) H'
set_option maxHeartbeats 1000000 in
theorem ok_judged {C : Addr} {f : Addr} {fd : FuncData} (F : Fun K "_law_judged_right" "_law_judged_right" s__law_judged_right f fd) (m_tuple : mg "tuple" = none) (m_range : mg "range" = none) (B_Wholes : Mk0.Bare K mg "Wholes" C) (M_is_valid : MthC P w K mg base C "is_valid" 4 ["self", "names", "constraint"] (spSV K C)) (M_names_in : MthC P w K mg base C "names_in" 1 ["self", "constraint"] (spNI K)) (C__law_equal : Cal P w K mg base "_law_equal" 8 ["_law_actual", "_law_due"] (spEq K 6)) (C__law_told_apart : Cal P w K mg base "_law_told_apart" 5 ["_law_source_here", "_law_names_here", "_law_constraint_here", "_law_choice"] (spTold K)) : FnOk P w K mg base CX0 9 f fd ["_law_source_here", "_law_names_here", "_law_constraint_here"] (spJudged K) := by
  refine F.ok sc__law_judged_right (fun vs H Q E h => ?_) (fun cdv A outer s H vs Q E hr h => ?_)
  · unfold spJudged at h
    obtain ⟨s, na, p, ns, c, rfl, _⟩ := h
    rfl
  · unfold spJudged at h
    obtain ⟨src, na, p, ns, c, rfl, hA, hna, hp, nm, lc, q⟩ := h
    obtain ⟨p', b, zs, ep, h3, hb, hz⟩ := co_dp hp
    cases ep
    have zl : zs.length = c.t.length := by rw [da_len hz, List.length_map]
    have tl10 := lc.ok.ln
    have okz : ∀ x ∈ c.t, PyData.strOk x.1 = true := fun x hx => n5_ok _ (lc.ok.i5 x hx)
    have okn : ∀ z ∈ names c, PyData.strOk z = true := fun z hz => by
      obtain ⟨x, hx, rfl⟩ := List.mem_map.mp hz
      exact okz x hx
    refine ⟨_, (pss_cons (ps_set (i := 3) sc__law_judged_right.nd rfl (Or.inl rfl) (Mk0.pe_bare B_Wholes))
    (pss_cons (ps_if (pt_cmpR op_notBl (pe_mth M_is_valid (hr.mono (by decide)) (pv 3) (pa_cons (pv 1) (pa_cons (pv 2) pa_nil))) pe_bl (nomark _))
      (pss_one (ps_ret pe_bl))
      pss_nil)
    (pss_cons (ps_if (pt_not (pt_val (pe_cal C__law_equal (hr.mono (by decide)) (pa_cons (pe_mth M_names_in (hr.mono (by decide)) (pv 3) (pa_cons (pv 2) pa_nil)) (pa_cons (pe_callTy (T := "tuple") call_tuple_of (by rfl) m_tuple (by decide +kernel) (pa_cons (pe_lc (own := [("_law_pair", 5)]) (tt := tYes) rfl sc__law_judged_right.nd (pi_tup (pe_ix ix_tup (pv 2) pe_int (fun _ _ => rfl))) (blkOk_by (N := n__law_judged_right) (sc := defScope s__law_judged_right) (by decide +kernel)) (fun _ _ _ _ _ => pg_name (i := 5) sc__law_judged_right.nd rfl (Or.inl rfl)) (fun _ _ _ _ _ => pts_nil) (fun _ _ _ _ _ => (pe_ix (ix_tupK (K := K) rfl) (pv 5) pe_int (fun _ _ => rfl)))) pa_nil)) pa_nil)))))
      (pss_one (ps_ret pe_bl))
      pss_nil)
    (pss_cons (ps_for PassesOwn.never rfl (pi_range1 (by rfl) m_range (pa_cons pe_int pa_nil)) (pg_name (i := 4) sc__law_judged_right.nd rfl (Or.inl rfl))
      (pss_one (ps_if (pt_not (pt_val (pe_cal C__law_told_apart (hr.mono (by decide)) (pa_cons (pv 0) (pa_cons (pv 1) (pa_cons (pv 2) (pa_cons (pv 4) pa_nil)))))))
      (pss_one (ps_ret pe_bl))
      pss_nil)))
    (pss_one (ps_ret pe_bl)))))), ?_⟩
    walk_at "rd"
    refine fun k dk nk nd ne => ?_
    obtain ⟨u1, hk⟩ := bare_new (C := C) nk nd ne
    generalize upd (upd H dk (.own k)) k (.ins C dk []) = H1 at u1 hk ⊢
    walk_at "rd"
    refine ⟨k, dk, _, rfl, hk, rfl, ?_⟩
    walk_at "rd"
    show spSV K C _ _ _ _
    unfold spSV
    refine ⟨k, dk, na, p, [], ns, c, rfl, hk, rfl, Bx.Same.tup u1 hna, dp_same u1 hp, by omega, okz, fun H2 s2 => ?_⟩
    have u2 := u1.trans s2
    rw [valid_lc nm lc]
    walk_at "rd"
    refine ⟨k, dk, _, rfl, s2 _ _ hk, rfl, ?_⟩
    walk_at "rd"
    show spNI K _ _ _ _
    unfold spNI
    refine ⟨k, p, c, rfl, dp_same u2 hp, by omega, fun r H3 s3 nr hr3 => ?_⟩
    have u3 := u2.trans s3
    walk_at "rd"
    refine ⟨_, _, _, _, rfl, rfl, Bx.Same.tup u3 h3, atI_nat (j := 0) rfl, ?_⟩
    refine ⟨b, rfl, ⟨_, Bx.Same.tup u3 hb⟩, fun D hD => ?_⟩
    have hz3 := dpAll_same u3 hz
    refine lc_it walk_tup (fun i H' => Same H3 H' ∧ H' D = some (.lst (((c.t.take i).map (·.1)).map V.str))) ⟨same_new hD, upd_same⟩ (fun i H' _ h => Bx.Same.tup h.1 (Bx.Same.tup u3 hb)) ?_ ?_
    · rintro i x Ha H4 hi ⟨s4, hM⟩ ⟨rfl, hx⟩
      obtain ⟨y, hy, ya, rfl, hya⟩ := tm_at hz3 hx
      refine ⟨rfl, ?_⟩
      walk_at "rd"
      refine ⟨_, _, _, _, rfl, rfl, Bx.Same.tup s4 hya, atI_nat (j := 0) rfl, ?_⟩
      refine ⟨_, hM, ?_, same_at hD s4, ?_⟩
      · rw [List.length_map, List.length_map]
        have := List.length_take_le' i c.t
        exact szl (by omega)
      · rw [upd_same, List.take_add_one, hy, List.map_append, List.map_append]
        rfl
    rintro H4 ⟨s4, hM⟩
    rw [zl, List.take_length] at hM
    walk_at "rd"
    refine ⟨D, _, rfl, .inl ⟨sq hM, fun r2 nr2 => ?_⟩⟩
    have s5 := same_new nr2 (o := .tup ((c.t.map (·.1)).map V.str))
    have hr2 := upd_same (H := H4) (a := r2) (o := .tup ((c.t.map (·.1)).map V.str))
    generalize upd H4 r2 (.tup ((c.t.map (·.1)).map V.str)) = H5 at s5 hr2 ⊢
    have u5 := u3.trans (s4.trans s5)
    walk_at "rd"
    refine ⟨.ref r, .ref r2, .tuple ((names c).map PyData.str), rfl, names_dp (sqt ((s4.trans s5) _ _ hr3)), names_dp (ns := names c) (sqt hr2), eqOk_strs okn (by unfold names; rw [List.length_map]; omega) 4, fun H6 s6 => ?_⟩
    have u6 := u5.trans s6
    walk_at "rd"
    refine ⟨by omega, by omega, for_it walk_range (fun i σ H' => ∃ (o4 : Option V), σ = [some (.ref src), some (.ref na), some (.ref p), some (.ref k), o4, none] ∧ SameBut src H H' ∧ Src H' src) ⟨none, rfl, Bx.Same.but u6, src_same hA u6⟩ (fun _ _ _ _ _ => trivial) ?_ ?_⟩
    · rintro i x σ Ha H7 hi ⟨o4, rfl, s7, hA7⟩ ⟨rfl, rfl⟩
      walk_at "rd"
      show spTold K _ _ _ _
      unfold spTold
      refine ⟨src, na, p, i, ns, c, by show [V.ref src, V.ref na, V.ref p, V.int (0 + ((i : Nat) : Int))] = _; rw [Int.zero_add], hA7, sqt_but hA s7 hna, dp_tk (tk_but hA s7) _ _ (tup_co c) hp, nm, lc, fun H8 s8 hA8 => ?_⟩
      walk_at "rd"
      exact ⟨s7.trans s8, hA8⟩
    · rintro σ H7 ⟨o4, rfl, s7, hA7⟩
      walk_at "rd"
      exact q H7 s7 hA7
end
end K31
namespace K31
local macro_rules | `(tactic| walk_at "rd") => `(tactic| repeat (first | refine ⟨rfl, ?_⟩ | refine ⟨_, rfl, ?_⟩ | refine ⟨_, _, rfl, rfl, ?_⟩ | refine ⟨⟨_, rfl⟩, ?_⟩))
open PySem PySem.Spec PyProof.Rows L2 Bx TL Dx Zx Ow Sup NdefX Px T31 M31
/-- the law's values -/
structure Vl (ns : List Str) (l : As) : Prop where
  k : l.map (·.1) = ns
  s : ∀ p ∈ l, p.2.natAbs ≤ 1000001000000
section
variable {P : Program} {w : World} {K : PySem.W.Frag} {mg : Str → Option Value} {base : Heap}
theorem vat_vl {H : Hp} {d : Addr} {l : As} {ks zs : List Str} (hk : l.map (·.1) = ks) (hs : ∀ p ∈ l, p.2.natAbs ≤ 2 ^ 40) (hd : H d = some (.dK (asV l))) (h : ∀ z ∈ zs, z ∈ ks) : VAt H d (vl l) zs := vat_of hd (fun z hz => by rw [hk]; exact h z hz) hs
@[irreducible] def spHR (K : PySem.W.Frag) : Sp := fun vs H Q _ => ∃ (s na p d : Addr) (ns : List Str) (c : Con) (l : As), vs = [.ref s, .ref na, .ref p, .ref d] ∧ Src H s ∧ SqT K H na (ns.map V.str) ∧ Dp K H (.ref p) (coD c) ∧ Nm ns ∧ Lc ns c ∧ H d = some (.dK (asV l)) ∧ Vl ns l ∧ ∀ H', SameBut s H H' → Src H' s → Q (.bl true) H'
set_option maxHeartbeats 2000000 in
theorem ok_hr {C : Addr} {f : Addr} {fd : FuncData} (F : Fun K "_law_holds_right" "_law_holds_right" s__law_holds_right f fd) (m_dict : mg "dict" = none) (m_len : mg "len" = none) (B_Wholes : Mk0.Bare K mg "Wholes" C) (M_holds : MthC P w K mg base C "holds" 4 ["self", "constraint", "assignment"] (spHolds K)) (C__law_draw : CDraw P w K mg base) (C__law_says : Cal P w K mg base "_law_says" 1 ["_law_actual", "_law_due"] spSays) (C__law_holds : Cal P w K mg base "_law_holds" 2 ["_law_constraint_here", "_law_values_here"] (spLHolds K)) : FnOk P w K mg base CX0 5 f fd ["_law_source_here", "_law_names_here", "_law_constraint_here", "_law_values_here"] (spHR K) := by
  refine F.ok sc__law_holds_right (fun vs H Q E h => ?_) (fun cdv A outer s H vs Q E hr h => ?_)
  · unfold spHR at h
    obtain ⟨s, na, p, d, ns, c, l, rfl, _⟩ := h
    rfl
  · unfold spHR at h
    obtain ⟨src, na, p, d, ns, c, l, rfl, hA, hna, hp, nm, lc, hd, hv, q⟩ := h
    obtain ⟨p', b, zs, ep, h3, hb, hz⟩ := co_dp hp
    cases ep
    have hu := hu_of hr
    have nl := nm.ln
    have subn : ∀ z ∈ names c, z ∈ ns := fun z hz => lc.sub.subset hz
    have l4 : l.length ≤ 4 := by
      have z := congrArg List.length hv.k
      rw [List.length_map] at z
      omega
    have sz40 : ∀ p ∈ l, p.2.natAbs ≤ 2 ^ 40 := fun p hp => Nat.le_trans (hv.s p hp) (by decide)
    have ndn := asc_nodup nm.asc
    refine ⟨_, (pss_cons (ps_set (i := 4) sc__law_holds_right.nd rfl (Or.inl rfl) (Mk0.pe_bare B_Wholes))
    (pss_cons (ps_set (i := 5) sc__law_holds_right.nd rfl (Or.inl rfl) (pe_callTy (T := "dict") call_dictD (by rfl) m_dict (by decide +kernel) (pa_cons (pv 3) pa_nil)))
    (pss_cons (ps_if (pt_not (pt_val (pe_cal C__law_says (hr.mono (by decide)) (pa_cons (pe_mth M_holds (hr.mono (by decide)) (pv 4) (pa_cons (pv 2) (pa_cons (pv 5) pa_nil))) (pa_cons (pe_cal C__law_holds (hr.mono (by decide)) (pa_cons (pv 2) (pa_cons (pv 3) pa_nil))) pa_nil)))))
      (pss_one (ps_ret pe_bl))
      pss_nil)
    (pss_cons (ps_if (pt_cmpR op_gt (pe_callB call_len_seq (by rfl) m_len PySem.boot_len (pa_cons (pv 1) pa_nil)) pe_int (nomark _))
      (pss_cons (ps_set (i := 7) sc__law_holds_right.nd rfl (Or.inl rfl) (pe_ix ix_tup (pv 1) (pe_cal C__law_draw (hr.mono (by decide)) (pa_cons (pv 0) (pa_cons (pe_callB call_len_seq (by rfl) m_len PySem.boot_len (pa_cons (pv 1) pa_nil)) pa_nil))) (fun _ _ => rfl)))
    (pss_one (ps_dput hu (pv 5) (pv 7) (pe_op op_add (pe_dget hu (pv 5) (pv 7) (fun _ _ => rfl)) (pe_ix ix_list (pe_lst (pa_cons pe_int (pa_cons (pe_un un_neg pe_int) (pa_cons (pe_ix ix_tup (pv 2) pe_int (fun _ _ => rfl)) (pa_cons (pe_un un_neg pe_int) pa_nil))))) (pe_cal C__law_draw (hr.mono (by decide)) (pa_cons (pv 0) (pa_cons pe_int pa_nil))) (fun _ _ => rfl))) rfl)))
      pss_nil)
    (pss_cons (ps_set (i := 6) sc__law_holds_right.nd rfl (Or.inl rfl) (pe_callTy (T := "dict") call_dictD (by rfl) m_dict (by decide +kernel) (pa_cons (pv 5) pa_nil)))
    (pss_one (ps_ret (pe_and (pe_cal C__law_says (hr.mono (by decide)) (pa_cons (pe_mth M_holds (hr.mono (by decide)) (pv 4) (pa_cons (pv 2) (pa_cons (pv 5) pa_nil))) (pa_cons (pe_cal C__law_holds (hr.mono (by decide)) (pa_cons (pv 2) (pa_cons (pv 6) pa_nil))) pa_nil))) (pe_one (pe_cmpR (op_eq_dictA (Nat.lt_of_le_of_lt (Nat.le_add_right _ _) hr.units)) (pv 5) (pv 6) (nomark _))))))))))), ?_⟩
    walk_at "rd"
    refine fun k dk nk nd ne => ?_
    obtain ⟨u1, hk⟩ := bare_new (C := C) nk nd ne
    generalize upd (upd H dk (.own k)) k (.ins C dk []) = H1 at u1 hk ⊢
    walk_at "rd"
    refine ⟨d, _, rfl, .inl (u1 _ _ hd), fun e ne1 => ?_⟩
    have u2 := same_new ne1 (o := .dK (asV l))
    have he := upd_same (H := H1) (a := e) (o := .dK (asV l))
    generalize upd H1 e (.dK (asV l)) = H2 at u2 he ⊢
    have u12 := u1.trans u2
    walk_at "rd"
    refine ⟨k, dk, _, rfl, u2 _ _ hk, rfl, ?_⟩
    walk_at "rd"
    show spHolds K _ _ _ _
    unfold spHolds
    refine ⟨k, p, e, c, vl l, rfl, dp_same u12 hp, lc.ok, vat_vl hv.k sz40 he subn, fun H3 s3 => ?_⟩
    have u13 := u12.trans s3
    walk_at "rd"
    show spLHolds K _ _ _ _
    unfold spLHolds
    refine ⟨p, d, c, vl l, rfl, dp_same u13 hp, lc.ok, vat_vl hv.k sz40 (u13 _ _ hd) subn, fun H4 s4 => ?_⟩
    have u14 := u13.trans s4
    walk_at "rd"
    show spSays _ _ _ _
    unfold spSays
    refine ⟨_, _, rfl, ?_⟩
    rw [decide_eq_true rfl]
    have hk4 := (u2.trans (s3.trans s4)) _ _ hk
    have he4 := (s3.trans s4) _ _ he
    have hna4 := Bx.Same.tup u14 hna
    have hp4 := dp_same u14 hp
    have hA4 := src_same hA u14
    have h34 := Bx.Same.tup u14 h3
    have hb4 : SameBut src H H4 := Bx.Same.but u14
    have es : e ≠ src := fun z => by
      obtain ⟨_, _, h⟩ := src_same hA u1
      rw [← z, ne1] at h
      cases h
    have ks : k ≠ src := fun z => by
      obtain ⟨_, _, h⟩ := hA
      rw [← z, nk] at h
      cases h
    have ke : k ≠ e := ne_of_none hk ne1
    have hne : H e = none := u1.free ne1
    clear s3 s4 u2 u12 u13 u14 u1 hk he hna hp h3 hd
    refine ⟨_, rfl, ?_⟩
    dsimp only
    rw [if_neg (show ¬ (!true) = true by decide)]
    unfold tNext
    dsimp only
    refine st_ss (fun σ' H' => ∃ (o7 : Option V) (l' : As), σ' = [some (.ref src), some (.ref na), some (.ref p), some (.ref d), some (.ref k), some (.ref e), none, o7] ∧ SameBut src H H' ∧ Src H' src ∧ H' k = some (.ins C dk []) ∧ H' e = some (.dK (asV l')) ∧ Dp K H' (.ref p) (coD c) ∧ l'.map (·.1) = ns ∧ ∀ p ∈ l', p.2.natAbs ≤ 2 ^ 40) (fun D' hD' => ?_) ?_
    · have keep := hD' _ _ ⟨none, l, rfl, hb4, hA4, hk4, he4, hp4, hv.k, sz40⟩
      walk_at "rd"
      refine ⟨na, _, rfl, .inr hna4, ?_⟩
      rw [List.length_map]
      walk_at "rd"
      refine ite2 (fun h0 => ?_) (fun h0 => ?_)
      · have n0 : 0 < ns.length := by
          have z : (0 : Int) < ((ns.length : Nat) : Int) := of_decide_eq_true h0
          omega
        walk_at "rd"
        refine ⟨na, _, rfl, .inr hna4, ?_⟩
        rw [List.length_map]
        walk_at "rd"
        refine draw_of (lim := (ns.length : Nat)) hA4 (by omega) fun r H5 h1 h2 s5 hA5 => ?_
        obtain ⟨j, rfl⟩ := Int.eq_ofNat_of_zero_le h1
        have hj : j < ns.length := by omega
        have hna5 := sqt_but hA4 s5 hna4
        refine ⟨_, _, _, _, rfl, rfl, hna5, atI_nat (by rw [List.getElem?_map, List.getElem?_eq_getElem hj]; rfl), ?_⟩
        have zin : ns[j] ∈ ns := List.getElem_mem hj
        generalize ns[j] = z at zin ⊢
        have zl : z ∈ l.map (·.1) := by rw [hv.k]; exact zin
        have he5 := s5 _ _ es he4
        have h35 := sqt_but hA4 s5 h34
        walk_at "rd"
        refine ⟨e, .int (vl l z), rfl, by rw [← has_as zl]; exact DGet.k (k := .inr z) he5, ?_⟩
        walk_at "rd"
        refine ⟨_, _, _, _, rfl, rfl, h35, atI_nat (j := 1) rfl, ?_⟩
        walk_at "rd"
        refine ⟨sz (by show 4 ≤ 100000; decide), fun l0 nl0 => ?_⟩
        have nl0s := src_ne hA5 nl0
        have u0 := same_new nl0 (o := .lst ([(1 : Int), -1, c.m, -3].map V.int))
        have hl0 : (upd H5 l0 (.lst ([(1 : Int), -1, c.m, -3].map V.int))) l0 = some (.lst ([(1 : Int), -1, c.m, -3].map V.int)) := upd_same
        have hA6 := src_same hA5 u0
        walk_at "rd"
        refine draw_of (lim := 4) hA6 (by decide) fun r6 H7 h6 h7 s7 hA7 => ?_
        obtain ⟨i, rfl⟩ := Int.eq_ofNat_of_zero_le h6
        have hi : i < [(1 : Int), -1, c.m, -3].length := by
          show i < 4
          omega
        refine ⟨_, _, _, _, rfl, rfl, sq (s7 _ _ nl0s.symm hl0), int_at (k := i) hi, ?_⟩
        have m0 := lc.ok.m0
        have m12 := lc.ok.m1
        have he' : [(1 : Int), -1, c.m, -3][i].natAbs ≤ 12 := by
          have a : ∀ x ∈ [(1 : Int), -1, c.m, -3], x.natAbs ≤ 12 := by
            intro x hx
            simp only [List.mem_cons, List.not_mem_nil, or_false] at hx
            omega
          exact a _ (List.getElem_mem hi)
        generalize [(1 : Int), -1, c.m, -3][i] = g at he' ⊢
        have b57 := s5.trans ((Bx.Same.but u0).trans s7)
        have he7 := ((Bx.Same.but u0).trans s7) _ _ es he5
        walk_at "rd"
        refine ⟨e, _, rfl, DPut.k (k := .inr z) (v := .int (vl l z + g)) he7 (szl (by unfold asV; rw [List.length_map]; omega)), ?_⟩
        rw [put_up zl]
        have vz := vl_size hv.s z
        have tk7 : Tk K H4 (upd H7 e (.dK (asV (upl l z (vl l z + g))))) := fun a ys h => by
          have z1 := sqt_but hA4 b57 h
          exact sqt_dk he7 z1
        refine hD' _ _ ⟨_, upl l z (vl l z + g), rfl, but_at hne (hb4.trans b57), src_upd hA7 es.symm, by rw [upd_ne ke]; exact b57 _ _ ks hk4, upd_same, dp_tk tk7 _ _ (tup_co c) hp4, by rw [upl_keys]; exact hv.k, upl_size sz40 (by omega)⟩
      · walk_at "rd"
        exact keep
    rintro σ' H5 ⟨o7, l', rfl, b5, hA5, hk5, he5, hp5, kl', s40⟩
    have nd' : (l'.map (·.1)).Nodup := by rw [kl']; exact ndn
    walk_at "rd"
    refine ⟨e, _, rfl, .inl he5, fun kp nkp => ?_⟩
    have v1 := same_new nkp (o := .dK (asV l'))
    have hkp := upd_same (H := H5) (a := kp) (o := .dK (asV l'))
    generalize upd H5 kp (.dK (asV l')) = H6 at v1 hkp ⊢
    walk_at "rd"
    refine ⟨k, dk, _, rfl, v1 _ _ hk5, rfl, ?_⟩
    walk_at "rd"
    refine ⟨k, p, e, c, vl l', rfl, dp_same v1 hp5, lc.ok, vat_vl kl' s40 (v1 _ _ he5) subn, fun H7 s7 => ?_⟩
    have v17 := v1.trans s7
    walk_at "rd"
    refine ⟨p, kp, c, vl l', rfl, dp_same v17 hp5, lc.ok, vat_vl kl' s40 (s7 _ _ hkp) subn, fun H8 s8 => ?_⟩
    walk_at "rd"
    refine ⟨_, _, rfl, ?_⟩
    rw [decide_eq_true rfl]
    walk_at "rd"
    refine ⟨e, kp, asV l', asV l', rfl, rfl, (v17.trans s8) _ _ he5, (s7.trans s8) _ _ hkp, rfl, own_as nd', ?_⟩
    exact q H8 (b5.trans (Bx.Same.but (v17.trans s8))) (src_same hA5 (v17.trans s8))
end
end K31
namespace M31
theorem dvd_mul_iff {A m u : Int} (hm : 0 < m) : m ∣ A * u ↔ m / (Int.gcd A m : Int) ∣ u := by
  have g0 : Int.gcd A m ≠ 0 := fun z => by
    have := (Int.gcd_eq_zero_iff.mp z).2
    omega
  have gm := Int.gcd_dvd_right A m
  have ga := Int.gcd_dvd_left A m
  have cop : Int.gcd (A / (Int.gcd A m : Int)) (m / (Int.gcd A m : Int)) = 1 := Int.gcd_ediv_gcd_ediv_gcd (Nat.pos_of_ne_zero g0)
  have gp : (Int.gcd A m : Int) ≠ 0 := by omega
  generalize hg : (Int.gcd A m : Int) = g at *
  obtain ⟨a', rfl⟩ := ga
  obtain ⟨m', rfl⟩ := gm
  rw [Int.mul_ediv_cancel_left _ gp] at cop ⊢
  rw [Int.mul_ediv_cancel_left _ gp] at cop
  rw [Int.mul_assoc]
  constructor
  · intro d
    exact cop_dvd cop (Int.dvd_of_mul_dvd_mul_left gp d)
  · intro d
    exact Int.mul_dvd_mul_left g (Int.dvd_trans d (Int.dvd_mul_left _ _))
/-- one more congruence: the least step that fits -/
theorem step_fit {f v s l m t0 : Int} (hs : 0 < s) (hm : 0 < m) (hv0 : 0 ≤ v) (hv1 : v < s) (t0p : 0 ≤ t0) (ht : m ∣ f * (v + s * t0) - l) (least : ∀ t, 0 ≤ t → t < t0 → ¬ m ∣ f * (v + s * t) - l) :
    (∀ x, (s ∣ x - v ∧ m ∣ f * x - l) ↔ s * (m / (Int.gcd (f * s) m : Int)) ∣ x - (v + s * t0)) ∧ 0 < s * (m / (Int.gcd (f * s) m : Int)) ∧ 0 ≤ v + s * t0 ∧ v + s * t0 < s * (m / (Int.gcd (f * s) m : Int)) := by
  have g0 : Int.gcd (f * s) m ≠ 0 := fun z => by
    have := (Int.gcd_eq_zero_iff.mp z).2
    omega
  have gm := Int.gcd_dvd_right (f * s) m
  have qp : 0 < m / (Int.gcd (f * s) m : Int) := Int.ediv_pos_of_pos_of_dvd hm (by omega) gm
  have key : ∀ u : Int, m ∣ f * (v + s * u) - l ↔ m / (Int.gcd (f * s) m : Int) ∣ u - t0 := fun u => by
    rw [← dvd_mul_iff hm]
    have e : f * (v + s * u) - l = (f * s) * (u - t0) + (f * (v + s * t0) - l) := by
      rw [Int.mul_sub, Int.mul_add, Int.mul_add, ← Int.mul_assoc, ← Int.mul_assoc]
      omega
    rw [e]
    exact Int.dvd_add_left ht
  have lt : t0 < m / (Int.gcd (f * s) m : Int) := by
    apply Classical.byContradiction
    intro n
    refine least (t0 - m / (Int.gcd (f * s) m : Int)) (by omega) (by omega) ((key _).mpr ?_)
    rw [show t0 - m / (Int.gcd (f * s) m : Int) - t0 = -(m / (Int.gcd (f * s) m : Int)) by omega]
    exact Int.dvd_neg.mpr (Int.dvd_refl _)
  generalize m / (Int.gcd (f * s) m : Int) = q at qp key lt ⊢
  have st : 0 ≤ s * t0 := Int.mul_nonneg (by omega) t0p
  refine ⟨fun x => ?_, Int.mul_pos hs qp, by omega, ?_⟩
  · constructor
    · rintro ⟨⟨u, hu⟩, d⟩
      have ex : x = v + s * u := by omega
      rw [ex] at d ⊢
      have d2 := (key u).mp d
      rw [show v + s * u - (v + s * t0) = s * (u - t0) by rw [Int.mul_sub]; omega]
      exact Int.mul_dvd_mul_left s d2
    · intro d
      have d1 : s ∣ x - (v + s * t0) := Int.dvd_trans (Int.dvd_mul_right _ _) d
      have d2 : s ∣ x - v := by
        have := Int.dvd_add d1 (Int.dvd_mul_right s t0)
        rw [show x - (v + s * t0) + s * t0 = x - v by omega] at this
        exact this
      obtain ⟨u, hu⟩ := d2
      have ex : x = v + s * u := by omega
      refine ⟨⟨u, hu⟩, ?_⟩
      rw [ex]
      refine (key u).mpr ?_
      rw [ex, show v + s * u - (v + s * t0) = s * (u - t0) by rw [Int.mul_sub]; omega] at d
      exact Int.dvd_of_mul_dvd_mul_left (by omega) d
  · have a : s * (t0 + 1) ≤ s * q := Int.mul_le_mul_of_nonneg_left (by omega) (by omega)
    rw [Int.mul_add, Int.mul_one] at a
    omega
/-- no step fits: nothing fits -/
theorem step_none {f v s l m : Int} (hm : 0 < m) (none : ∀ t, 0 ≤ t → t < m → ¬ m ∣ f * (v + s * t) - l) (x : Int) : ¬ (s ∣ x - v ∧ m ∣ f * x - l) := by
  rintro ⟨⟨u, hu⟩, d⟩
  have ex : x = v + s * u := by omega
  refine none (u % m) (Int.emod_nonneg _ (by omega)) (Int.emod_lt_of_pos _ hm) ?_
  rw [ex] at d
  have e : f * (v + s * (u % m)) - l = f * (v + s * u) - l - m * (f * s * (u / m)) := by
    have em := Int.emod_def u m
    rw [em, Int.mul_add, Int.mul_add, Int.mul_sub, Int.mul_sub, ← Int.mul_assoc f s u]
    have z : f * (s * (m * (u / m))) = m * (f * s * (u / m)) := by
      rw [← Int.mul_assoc s m, Int.mul_comm s m, Int.mul_assoc m s, Int.mul_left_comm, ← Int.mul_assoc f s]
    omega
  rw [e]
  exact Int.dvd_sub d (Int.dvd_mul_right _ _)
/-- the same solutions: the same least one -/
theorem prog_unique {M R M' R' : Int} (h : ∀ x, M ∣ x - R ↔ M' ∣ x - R') (hM : M = 0 ∨ (0 ≤ R ∧ R < M)) (hM' : M' = 0 ∨ (0 ≤ R' ∧ R' < M')) : R = R' := by
  have d1 : M' ∣ R - R' := (h R).mp (by rw [Int.sub_self]; exact Int.dvd_zero _)
  have d2 : M ∣ R' - R := (h R').mpr (by rw [Int.sub_self]; exact Int.dvd_zero _)
  have e1 : M' ∣ M := by
    have a := (h (R + M)).mp (by rw [show R + M - R = M by omega]; exact Int.dvd_refl _)
    have b := Int.dvd_sub a d1
    rw [show R + M - R' - (R - R') = M by omega] at b
    exact b
  have e2 : M ∣ M' := by
    have a := (h (R' + M')).mpr (by rw [show R' + M' - R' = M' by omega]; exact Int.dvd_refl _)
    have b := Int.dvd_sub a d2
    rw [show R' + M' - R - (R' - R) = M' by omega] at b
    exact b
  rcases hM with h0 | ⟨a, b⟩
  · rw [h0] at d2
    have := Int.zero_dvd.mp d2
    omega
  · rcases hM' with h0 | ⟨a', b'⟩
    · rw [h0] at d1
      have := Int.zero_dvd.mp d1
      omega
    · have em : M = M' := Int.dvd_antisymm (by omega) (by omega) e2 e1
      subst em
      obtain ⟨k, hk⟩ := d1
      have k0 : k = 0 := by
        apply Classical.byContradiction
        intro n
        rcases Int.lt_or_gt_of_ne n with l | l
        · have : M * k ≤ M * (-1) := Int.mul_le_mul_of_nonneg_left (by omega) (by omega)
          omega
        · have : M * 1 ≤ M * k := Int.mul_le_mul_of_nonneg_left (by omega) (by omega)
          omega
      rw [k0, Int.mul_zero] at hk
      omega
end M31
namespace K31
local macro_rules | `(tactic| walk_at "rd") => `(tactic| repeat (first | refine ⟨rfl, ?_⟩ | refine ⟨_, rfl, ?_⟩ | refine ⟨_, _, rfl, rfl, ?_⟩ | refine ⟨⟨_, rfl⟩, ?_⟩))
open PySem PySem.Spec PyProof.Rows L2 Bx TL Dx Zx Ow Sup NdefX Px T31 M31
abbrev fits1 (g : Str → Int) (z : Str) (c : Con) (x : Int) : Prop := c.m ∣ coef c.t z * x - lOf g c z
/-- what the law knows after some constraints -/
structure Fst (g : Str → Int) (z : Str) (cs : List Con) (v s : Int) (ys : List Int) (B : Int) : Prop where
  s0 : 0 < s
  s1 : s ≤ B
  v0 : 0 ≤ v
  v1 : v < s
  a : ∀ x, (∀ c ∈ cs, 0 < c.m → fits1 g z c x) ↔ s ∣ x - v
  b : ∀ x, (∀ c ∈ cs, c.m = 0 → fits1 g z c x) ↔ ∀ y ∈ ys, x = y
theorem fst_nil (g : Str → Int) (z : Str) : Fst g z [] 0 1 [] 1 := ⟨by decide, by decide, by decide, by decide, fun x => ⟨fun _ => Int.one_dvd _, fun _ c hc => (nomatch hc)⟩, fun x => ⟨fun _ y hy => (nomatch hy), fun _ c hc => (nomatch hc)⟩⟩
section
variable {g : Str → Int} {z : Str} {cs : List Con} {c : Con} {v s : Int} {ys : List Int} {B : Int}
theorem all_snoc {p : Con → Prop} : (∀ d ∈ cs ++ [c], p d) ↔ (∀ d ∈ cs, p d) ∧ p c := by
  constructor
  · exact fun h => ⟨fun d hd => h d (List.mem_append_left _ hd), h c (List.mem_append_right _ List.mem_cons_self)⟩
  · rintro ⟨h1, h2⟩ d hd
    rcases List.mem_append.mp hd with h | h
    · exact h1 d h
    · rw [List.mem_singleton.mp h]
      exact h2
theorem fst_zero (h : Fst g z cs v s ys B) (hm : c.m = 0) {ns : List Int} (k : ∀ x, fits1 g z c x ↔ ∀ y ∈ ns, x = y) : Fst g z (cs ++ [c]) v s (ys ++ ns) (B * 12) := by
  have b12 : B ≤ B * 12 := by have := h.s0; have := h.s1; omega
  refine ⟨h.s0, Int.le_trans h.s1 b12, h.v0, h.v1, fun x => ?_, fun x => ?_⟩
  · rw [all_snoc, h.a]
    exact ⟨fun z => z.1, fun z => ⟨z, fun q => absurd q (by omega)⟩⟩
  · rw [all_snoc, h.b, List.forall_mem_append, ← k x]
    exact ⟨fun z => ⟨z.1, z.2 hm⟩, fun z => ⟨z.1, fun _ => z.2⟩⟩
theorem fst_pos (h : Fst g z cs v s ys B) (hm : 0 < c.m) (m12 : c.m ≤ 12) {t0 : Int} (t0p : 0 ≤ t0) (ht : c.m ∣ coef c.t z * (v + s * t0) - lOf g c z) (least : ∀ t, 0 ≤ t → t < t0 → ¬ c.m ∣ coef c.t z * (v + s * t) - lOf g c z) :
    Fst g z (cs ++ [c]) (v + s * t0) (s * (c.m / (Int.gcd (coef c.t z * s) c.m : Int))) ys (B * 12) := by
  obtain ⟨k1, k2, k3, k4⟩ := step_fit h.s0 hm h.v0 h.v1 t0p ht least
  refine ⟨k2, ?_, k3, k4, fun x => ?_, fun x => ?_⟩
  · have a1 : c.m / (Int.gcd (coef c.t z * s) c.m : Int) ≤ c.m := Int.ediv_le_self _ (by omega)
    have a2 : s * (c.m / (Int.gcd (coef c.t z * s) c.m : Int)) ≤ s * 12 := Int.mul_le_mul_of_nonneg_left (by omega) (Int.le_of_lt h.s0)
    have := h.s1
    omega
  · rw [all_snoc, h.a, ← k1 x]
    exact ⟨fun z => ⟨z.1, z.2 hm⟩, fun z => ⟨z.1, fun _ => z.2⟩⟩
  · rw [all_snoc, h.b]
    exact ⟨fun z => z.1, fun z => ⟨z, fun q => absurd q (by omega)⟩⟩
theorem fst_all (h : Fst g z cs v s ys B) (m0 : ∀ c ∈ cs, 0 ≤ c.m) (x : Int) : Fz g z cs x ↔ s ∣ x - v ∧ ∀ y ∈ ys, x = y := by
  rw [← h.a, ← h.b]
  unfold Fz
  constructor
  · exact fun k => ⟨fun c hc _ => k c hc, fun c hc _ => k c hc⟩
  · rintro ⟨k1, k2⟩ c hc
    rcases Int.lt_or_eq_of_le (m0 c hc) with l | l
    · exact k1 c hc l
    · exact k2 c hc l.symm
end
theorem first_fit (p : Nat → Bool) : ∀ n, ((List.range n).filter p = [] ∧ ∀ t, t < n → p t = false) ∨ ∃ t0 rest, (List.range n).filter p = t0 :: rest ∧ t0 < n ∧ p t0 = true ∧ ∀ t, t < t0 → p t = false
  | 0 => .inl ⟨rfl, fun t h => by omega⟩
  | n + 1 => by
    rw [List.range_succ, List.filter_append]
    rcases first_fit p n with ⟨h1, h2⟩ | ⟨t0, rest, h1, h2, h3, h4⟩
    · rw [h1, List.nil_append]
      by_cases e : p n = true
      · right
        exact ⟨n, [], by rw [List.filter_cons, if_pos e, List.filter_nil], by omega, e, h2⟩
      · left
        refine ⟨by rw [List.filter_cons, if_neg e, List.filter_nil], fun t ht => ?_⟩
        rcases Nat.lt_or_eq_of_le (Nat.le_of_lt_succ ht) with h | h
        · exact h2 t h
        · rw [h]
          exact Bool.not_eq_true _ ▸ e
    · right
      rw [h1]
      exact ⟨t0, _, rfl, by omega, h3, h4⟩
def hitB (m f v s l : Int) (t : Nat) : Bool := decide (m ∣ f * (v + s * (t : Int)) - l)
theorem mul_le12 {a b : Int} {A B : Int} (ha : a.natAbs ≤ A.natAbs) (hb : b.natAbs ≤ B.natAbs) : (a * b).natAbs ≤ A.natAbs * B.natAbs := by
  rw [Int.natAbs_mul]
  exact Nat.mul_le_mul ha hb
section
variable {P : Program} {w : World} {K : PySem.W.Frag} {mg : Str → Option Value} {base : Heap}
@[irreducible] def spFirst (K : PySem.W.Frag) : Sp := fun vs H Q _ => ∃ (T na ca d : Addr) (xs : List V) (ns : List Str) (cs : List Con) (g : Str → Int) (z : Str), vs = [.ref T, .str z, .ref d] ∧ Th K H T na ca xs ns cs ∧ cs.length ≤ 4 ∧ (∀ c ∈ cs, Ok c) ∧ VAt H d g ((cs.map fun c => (others c.t z).map (·.1)).flatten) ∧
  ((∀ x, ¬ Fz g z cs x) → ∀ H', Same H H' → Q .non H') ∧ (∀ M R, Prog g z cs M R → ∀ H', Same H H' → Q (.int R) H')
set_option maxHeartbeats 2000000 in
theorem ok_first {f : Addr} {fd : FuncData} (F : Fun K "_law_first" "_law_first" s__law_first f fd) (m_int : mg "int" = none) (m_abs : mg "abs" = none) (m_len : mg "len" = none) (m_range : mg "range" = none) (C__law_factor : Cal P w K mg base "_law_factor" 1 ["_law_terms_here", "_law_name"] (spFactor K)) (C__law_sum : Cal P w K mg base "_law_sum" 1 ["_law_terms_here", "_law_values_here"] (spSum K)) (C__law_shared : Cal P w K mg base "_law_shared" 1 ["_law_first_here", "_law_second"] spShared) : FnOk P w K mg base CX0 2 f fd ["_law_theory", "_law_name", "_law_values_here"] (spFirst K) := by
  refine F.ok sc__law_first (fun vs H Q E h => ?_) (fun cdv A outer s H vs Q E hr h => ?_)
  · unfold spFirst at h
    obtain ⟨T, na, ca, d, xs, ns, cs, g, z, rfl, _⟩ := h
    rfl
  · unfold spFirst at h
    obtain ⟨T, na, ca, d, xs, ns, cs, g, z, rfl, th, cl, okc, va, q1, q2⟩ := h
    have xl : xs.length = cs.length := by rw [da_len th.d, List.length_map]
    have cm0 : ∀ c ∈ cs, 0 ≤ c.m := fun c hc => (okc c hc).m0
    refine ⟨_, (pss_cons (ps_set (i := 3) sc__law_first.nd rfl (Or.inl rfl) (pe_lst pa_nil))
    (pss_cons (ps_set (i := 4) sc__law_first.nd rfl (Or.inr rfl) pe_int)
    (pss_cons (ps_set (i := 5) sc__law_first.nd rfl (Or.inr rfl) pe_int)
    (pss_cons (ps_for PassesOwn.never rfl (pi_tup (pe_ix ix_tup (pv 0) pe_int (fun _ _ => rfl))) (pg_name (i := 6) sc__law_first.nd rfl (Or.inr rfl))
      (pss_cons (ps_set (i := 8) sc__law_first.nd rfl (Or.inr rfl) (pe_cal C__law_factor (hr.mono (by decide)) (pa_cons (pe_ix ix_tup (pv 6) pe_int (fun _ _ => rfl)) (pa_cons (pv 1) pa_nil))))
    (pss_cons (ps_setLc (i := 9) (own := [("_law_pair", 12)]) rfl sc__law_first.nd rfl rfl (sw_true rfl rfl rfl (by decide +kernel)) (pi_tup (pe_ix ix_tup (pv 6) pe_int (fun _ _ => rfl))) (blkOk_by (N := n__law_first) (sc := defScope s__law_first) (by decide +kernel)) (fun _ _ _ _ _ => pg_name (i := 12) sc__law_first.nd rfl (Or.inl rfl)) (fun _ _ _ _ _ => pts_one (pt_cmpR op_ne (pe_ix (ix_tupK (K := K) rfl) (pv 12) pe_int (fun _ _ => rfl)) (pv 1) (nomark _))) (fun _ _ _ _ _ => (pv 12)))
    (pss_cons (ps_set (i := 10) sc__law_first.nd rfl (Or.inr rfl) (pe_op op_sub (pe_ix ix_tup (pv 6) pe_int (fun _ _ => rfl)) (pe_cal C__law_sum (hr.mono (by decide)) (pa_cons (pv 9) (pa_cons (pv 2) pa_nil)))))
    (pss_cons (ps_if (PW.pt (pw_and (pt_cmpR op_eq (pe_ix ix_tup (pv 6) pe_int (fun _ _ => rfl)) pe_int (nomark _)) (pw_and (pt_cmpR op_eq (pv 8) pe_int (nomark _)) (pw_and1 (pt_cmpR op_ne (pv 10) pe_int (nomark _))))))
      (pss_one (ps_ret pe_non))
      pss_nil)
    (pss_cons (ps_if (PW.pt (pw_and (pt_cmpR op_eq (pe_ix ix_tup (pv 6) pe_int (fun _ _ => rfl)) pe_int (nomark _)) (pw_and1 (pt_cmpR op_ne (pv 8) pe_int (nomark _)))))
      (pss_cons (ps_if (pt_cmpR op_ne (pe_op op_mod (pe_callTy (T := "int") call_int1 (by rfl) m_int (by decide +kernel) (pa_cons (pv 10) pa_nil)) (pe_callB call_abs (by rfl) m_abs (by decide +kernel) (pa_cons (pv 8) pa_nil))) pe_int (nomark _))
      (pss_one (ps_ret pe_non))
      pss_nil)
    (pss_one (ps_expr (pe_bm PySem.F.plainAttrs_list PySem.F.slot_list_append PySem.F.type_list_append mt_append (pv 3) (pa_cons (pe_op Ow.op_fdivZ (pv 10) (pv 8)) pa_nil)))))
      pss_nil)
    (pss_one (ps_if (pt_cmpR op_gt (pe_ix ix_tup (pv 6) pe_int (fun _ _ => rfl)) pe_int (nomark _))
      (pss_cons (ps_setLc (i := 11) (own := [("_law_t", 13)]) rfl sc__law_first.nd rfl rfl (sw_true rfl rfl rfl (by decide +kernel)) (pi_range1 (by rfl) m_range (pa_cons (pe_ix ix_tup (pv 6) pe_int (fun _ _ => rfl)) pa_nil)) (blkOk_by (N := n__law_first) (sc := defScope s__law_first) (by decide +kernel)) (fun _ _ _ _ _ => pg_name (i := 13) sc__law_first.nd rfl (Or.inl rfl)) (fun _ _ _ _ _ => pts_one (pt_cmpR op_eq (pe_op op_mod (pe_callTy (T := "int") call_int1 (by rfl) m_int (by decide +kernel) (pa_cons (pe_op op_sub (pe_op op_mul (pv 8) (pe_op op_add (pv 4) (pe_op op_mul (pv 5) (pv 13)))) (pv 10)) pa_nil)) (pe_ix (ix_tupK (K := K) rfl) (pv 6) pe_int (fun _ _ => rfl))) pe_int (nomark _))) (fun _ _ _ _ _ => (pv 13)))
    (pss_cons (ps_if (pt_cmpR op_eq (pe_callB call_len_seq (by rfl) m_len PySem.boot_len (pa_cons (pv 11) pa_nil)) pe_int (nomark _))
      (pss_one (ps_ret pe_non))
      pss_nil)
    (pss_cons (ps_set (i := 4) sc__law_first.nd rfl (Or.inr rfl) (pe_op op_add (pv 4) (pe_op op_mul (pv 5) (pe_ix ix_list (pv 11) pe_int (fun _ _ => rfl)))))
    (pss_one (ps_set (i := 5) sc__law_first.nd rfl (Or.inr rfl) (pe_op op_mul (pv 5) (pe_op op_fdivW (pe_ix ix_tup (pv 6) pe_int (fun _ _ => rfl)) (pe_cal C__law_shared (hr.mono (by decide)) (pa_cons (pe_op op_mul (pv 8) (pv 5)) (pa_cons (pe_ix ix_tup (pv 6) pe_int (fun _ _ => rfl)) pa_nil))))))))))
      pss_nil))))))))
    (pss_cons (ps_for PassesOwn.never rfl (pi_list (pv 3)) (pg_name (i := 7) sc__law_first.nd rfl (Or.inl rfl))
      (pss_cons (ps_if (PW.pt (pw_or (pt_cmpR op_ne (pv 7) (pe_ix ix_list (pv 3) pe_int (fun _ _ => rfl)) (nomark _)) (pw_or1 (pt_cmpR op_ne (pe_op op_mod (pe_callTy (T := "int") call_int1 (by rfl) m_int (by decide +kernel) (pa_cons (pe_op op_sub (pv 7) (pv 4)) pa_nil)) (pv 5)) pe_int (nomark _)))))
      (pss_one (ps_ret pe_non))
      pss_nil)
    (pss_one (ps_set (i := 4) sc__law_first.nd rfl (Or.inr rfl) (pv 7)))))
    (pss_one (ps_ret (pv 4)))))))), ?_⟩
    walk_at "rd"
    refine ⟨sz (by decide), fun L nL => ?_⟩
    have sL := same_new nL (o := .lst ([] : List V))
    have hL := upd_same (H := H) (a := L) (o := .lst ([] : List V))
    generalize upd H L (.lst []) = H1 at sL hL ⊢
    walk_at "rd"
    refine ⟨_, _, _, _, rfl, rfl, Bx.Same.tup sL th.t, atI_nat (j := 1) rfl, ?_⟩
    refine ⟨ca, rfl, ⟨_, Bx.Same.tup sL th.c⟩, for_it walk_tup (fun i σ H' => ∃ (v s : Int) (o6 o8 o9 o10 o11 : Option V) (ys : List Int), σ = [some (.ref T), some (.str z), some (.ref d), some (.ref L), some (.int v), some (.int s), o6, none, o8, o9, o10, o11, none, none] ∧ Same H H' ∧ H' L = some (.lst (ys.map V.int)) ∧ ys.length ≤ i ∧ Fst g z (cs.take i) v s ys (12 ^ i))
      ⟨0, 1, none, none, none, none, none, [], rfl, sL, hL, Nat.le_refl _, (by rw [List.take_zero, Int.pow_zero]; exact fst_nil g z)⟩ (fun _ _ _ _ ⟨_, _, _, _, _, _, _, _, _, s, _⟩ => Bx.Same.tup s th.c) ?_ ?_⟩
    · rintro i x σ Ha H2 hi ⟨v, s, o6, o8, o9, o10, o11, ys, rfl, s2, hM, yl, fs⟩ ⟨rfl, hx⟩
      obtain ⟨c, hc, dc⟩ := da_co th.d hx
      obtain ⟨p, b, zs, rfl, hp, hb, hz⟩ := co_dp dc
      have cin := List.mem_of_getElem? hc
      have ok := okc c cin
      have zl : zs.length = c.t.length := by rw [da_len hz, List.length_map]
      have i4 : i < 4 := by omega
      have tk1 : cs.take (i + 1) = cs.take i ++ [c] := by
        rw [List.take_add_one, hc]
        rfl
      walk_at "rd"
      refine ⟨_, _, _, _, rfl, rfl, Bx.Same.tup s2 hp, atI_nat (j := 0) rfl, ?_⟩
      walk_at "rd"
      show spFactor K _ _ _ _
      unfold spFactor
      refine ⟨b, z, zs, c.t, rfl, Bx.Same.tup s2 hb, dpAll_same s2 hz, by have := ok.ln; omega, fun H3 s3 => ?_⟩
      have s23 := s2.trans s3
      walk_at "rd"
      refine ⟨_, _, _, _, rfl, rfl, Bx.Same.tup s23 hp, atI_nat (j := 0) rfl, ?_⟩
      have hb3 := Bx.Same.tup s23 hb
      have hz3 := dpAll_same s23 hz
      refine ⟨b, rfl, ⟨_, hb3⟩, fun D hD => ?_⟩
      refine lc_it walk_tup (fun j H' => Same H3 H' ∧ ∃ ws, H' D = some (.lst ws) ∧ DpAll K H3 ws ((others (c.t.take j) z).map tmD)) ⟨same_new hD, [], upd_same, .nil⟩ (fun j H' _ h => Bx.Same.tup h.1 hb3) ?_ ?_
      · rintro j x Hb H4 hj ⟨s4, ws, hW, hdw⟩ ⟨rfl, hx2⟩
        obtain ⟨y, hy, ya, rfl, hya⟩ := tm_at hz3 hx2
        have dy := (tm_dp hya : Dp K H3 (.ref ya) (tmD y))
        refine ⟨rfl, ?_⟩
        walk_at "rd"
        refine ⟨_, _, _, _, rfl, rfl, Bx.Same.tup s4 hya, atI_nat (j := 0) rfl, ?_⟩
        walk_at "rd"
        have wl : ws.length ≤ 10 := by
          rw [da_len hdw, List.length_map]
          exact Nat.le_trans (List.length_filter_le _ _) (Nat.le_trans (List.length_take_le' j c.t) ok.ln)
        have eg : others (c.t.take (j + 1)) z = others (c.t.take j) z ++ if y.1 = z then [] else [y] := by
          unfold others
          rw [List.take_add_one, hy, List.filter_append]
          congr 1
          by_cases m : y.1 = z <;> simp [m]
        rw [eg]
        refine ite2 (fun m => ?_) (fun m => ?_)
        · have ne : y.1 ≠ z := fun e => ne_t m (congrArg V.str e)
          rw [if_neg ne]
          walk_at "rd"
          refine ⟨ws, hW, szl (by omega), same_at hD s4, ws ++ [.ref ya], upd_same, ?_⟩
          rw [List.map_append]
          exact da_app hdw (da_one dy)
        · have e : y.1 = z := V.str.inj (ne_f m)
          rw [if_pos e, List.append_nil]
          exact ⟨s4, ws, hW, hdw⟩
      rintro H4 ⟨s4, ws, hW, hdw⟩
      rw [zl, List.take_length] at hdw
      have s24 := s23.trans s4
      walk_at "rd"
      refine ⟨_, _, _, _, rfl, rfl, Bx.Same.tup s24 hp, atI_nat (j := 2) rfl, ?_⟩
      walk_at "rd"
      show spSum K _ _ _ _
      unfold spSum
      have nm : ∀ y ∈ (others c.t z).map (·.1), y ∈ (cs.map fun c => (others c.t z).map (·.1)).flatten := fun y hy => List.mem_flatten.mpr ⟨_, List.mem_map.mpr ⟨c, cin, rfl⟩, hy⟩
      refine ⟨.ref D, d, others c.t z, g, rfl, .inl (.lst (sq hW) (dpAll_same s4 hdw)), Nat.le_trans (List.length_filter_le _ _) (by have := ok.ln; omega), fun y hy => ok.sm y (List.mem_filter.mp hy).1, (va.same s24).sub nm, fun H5 s5 => ?_⟩
      have s25 := s24.trans s5
      have hp5 := Bx.Same.tup s25 hp
      have hM5 := (s3.trans (s4.trans s5)) _ _ hM
      have elf : c.r - lin g (others c.t z) = lOf g c z := rfl
      have fl : ∀ x, fits1 g z c x ↔ c.m ∣ coef c.t z * x - lOf g c z := fun x => Iff.rfl
      generalize hF : coef c.t z = f at *
      have lsz := l_size (g := g) (z := z) ok
      generalize hl : lOf g c z = l at *
      have fst' := fs
      rw [tk1]
      have p12 : (12 : Int) ^ (i + 1) = 12 ^ i * 12 := Int.pow_succ ..
      rw [p12]
      have m0 := ok.m0
      have m12 := ok.m1
      walk_at "rd"
      dsimp only
      rw [elf]
      refine ⟨_, _, _, _, rfl, rfl, hp5, atI_nat (j := 1) rfl, ?_⟩
      walk_at "rd"
      -- the three cases
      by_cases hm : c.m = 0
      · refine ite2 (fun _ => ?_) (fun h => (int_f h hm).elim)
        walk_at "rd"
        by_cases hf : f = 0
        · refine ite2 (fun _ => ?_) (fun h => (int_f h hf).elim)
          walk_at "rd"
          by_cases h0 : l = 0
          · refine ite2 (fun h => ((int_nt h) h0).elim) (fun _ => ?_)
            walk_at "rd"
            refine ⟨_, _, _, _, rfl, rfl, hp5, atI_nat (j := 1) rfl, ?_⟩
            walk_at "rd"
            refine ite2 (fun _ => ?_) (fun h => (int_f h hm).elim)
            walk_at "rd"
            refine ite2 (fun h => ((int_nt h) hf).elim) (fun _ => ?_)
            walk_at "rd"
            refine ⟨_, _, _, _, rfl, rfl, hp5, atI_nat (j := 1) rfl, ?_⟩
            walk_at "rd"
            refine ite2 (fun h => absurd (of_decide_eq_true h) (by omega)) (fun _ => ?_)
            walk_at "rd"
            have k : ∀ x, fits1 g z c x ↔ ∀ y ∈ ([] : List Int), x = y := fun x => by
              rw [fl, hm, hf, h0]
              simp
            have nf := fst_zero fst' hm k
            rw [List.append_nil] at nf
            exact ⟨v, s, _, _, _, _, _, ys, rfl, s25, hM5, by omega, nf⟩
          · refine ite2 (fun _ => ?_) (fun h => (h0 (int_nf h)).elim)
            walk_at "rd"
            refine q1 (fun x hx => h0 ?_) H5 s25
            have k := (fl x).mp (hx c cin)
            rw [hm, hf, Int.zero_dvd] at k
            omega
        · refine ite2 (fun h => (hf (int_t h)).elim) (fun _ => ?_)
          walk_at "rd"
          refine ⟨_, _, _, _, rfl, rfl, hp5, atI_nat (j := 1) rfl, ?_⟩
          walk_at "rd"
          refine ite2 (fun _ => ?_) (fun h => (int_f h hm).elim)
          walk_at "rd"
          refine ite2 (fun _ => ?_) (fun h => (hf (int_nf h)).elim)
          walk_at "rd"
          refine .inl ⟨_, rfl, ?_⟩
          walk_at "rd"
          have ap : (0 : Int) < (if f < 0 then -f else f) := by split <;> omega
          have ad : ∀ w, (if f < 0 then -f else f) ∣ w ↔ f ∣ w := fun w => by
            split
            · exact Int.neg_dvd
            · exact Iff.rfl
          refine ⟨ap, ?_⟩
          walk_at "rd"
          have f0 : (0 : Int) ≠ (if f < 0 then -f else f) := by omega
          refine ite2 (fun h => ?_) (fun h => ?_)
          · have h1 := int_nt h
            walk_at "rd"
            refine q1 (fun x hx => h1 (Int.emod_eq_zero_of_dvd ((ad l).mpr ?_))) H5 s25
            have k := (fl x).mp (hx c cin)
            rw [hm, Int.zero_dvd] at k
            exact ⟨x, by omega⟩
          · have h1 : f ∣ l := (ad l).mp (Int.dvd_of_emod_eq_zero (int_nf h))
            obtain ⟨k, hk⟩ := h1
            have ek : l.fdiv f = k := by rw [hk, Int.mul_fdiv_cancel_left _ hf]
            walk_at "rd"
            refine ⟨.inl ⟨rfl, _, sq hM5⟩, ?_⟩
            walk_at "rd"
            refine ⟨⟨hf, ?_⟩, ?_⟩
            · have := coef_le ok z
              rw [hF] at this
              have e : f.natAbs < 2 ^ 7 := by omega
              exact (wide_divZ (i := 0) hf e (by decide) (by decide)).2
            dsimp only
            rw [ek]
            unfold tNil
            dsimp only
            refine ⟨L, _, _, rfl, rfl, hM5, szl (by rw [List.length_map]; omega), ?_⟩
            walk_at "rd"
            have h5p : SqT K (upd H5 L (.lst (ys.map V.int ++ [V.int k]))) p [.ref b, .int c.m, .int c.r] := tk_lst hM5 _ _ hp5
            refine ⟨_, _, _, _, rfl, rfl, h5p, atI_nat (j := 1) rfl, ?_⟩
            walk_at "rd"
            refine ite2 (fun h => absurd (of_decide_eq_true h) (by omega)) (fun _ => ?_)
            walk_at "rd"
            have kk : ∀ x, fits1 g z c x ↔ ∀ y ∈ [k], x = y := fun x => by
              rw [fl, hm, Int.zero_dvd, List.forall_mem_singleton]
              constructor
              · intro e
                have e2 : f * x = f * k := by omega
                exact Int.eq_of_mul_eq_mul_left hf e2
              · rintro rfl
                omega
            exact ⟨v, s, _, _, _, _, _, ys ++ [k], rfl, same_at nL s25, by rw [upd_same, List.map_append]; rfl, by rw [List.length_append]; show ys.length + 1 ≤ i + 1; omega, fst_zero fst' hm kk⟩
      · have mp : 0 < c.m := by omega
        refine ite2 (fun h => (hm (int_t h)).elim) (fun _ => ?_)
        walk_at "rd"
        refine ⟨_, _, _, _, rfl, rfl, hp5, atI_nat (j := 1) rfl, ?_⟩
        walk_at "rd"
        refine ite2 (fun h => (hm (int_t h)).elim) (fun _ => ?_)
        walk_at "rd"
        refine ⟨_, _, _, _, rfl, rfl, hp5, atI_nat (j := 1) rfl, ?_⟩
        walk_at "rd"
        refine ite2 (fun _ => ?_) (fun h => (h (decide_eq_true mp)).elim)
        walk_at "rd"
        have fle : f.natAbs ≤ 90 := by rw [← hF]; exact coef_le ok z
        have b12 : (12 : Int) ^ i ≤ 1728 := by
          have e3 : i = 0 ∨ i = 1 ∨ i = 2 ∨ i = 3 := by omega
          rcases e3 with rfl | rfl | rfl | rfl <;> decide
        have s1 := fs.s1
        have s0 := fs.s0
        have v0 := fs.v0
        have v1 := fs.v1
        have lb : l.natAbs < 2 ^ 50 := lsz fun x hx => by
          obtain ⟨kvs, _, hv⟩ := va
          exact (hv x.1 (nm _ (List.mem_map.mpr ⟨x, hx, rfl⟩))).2
        refine ⟨_, _, _, _, rfl, rfl, hp5, atI_nat (j := 1) rfl, ?_⟩
        walk_at "rd"
        refine ⟨by omega, by omega, fun D4 hD4 => ?_⟩
        refine lc_it walk_range (fun k H' => Same H5 H' ∧ H' D4 = some (.lst (((List.range k).filter (hitB c.m f v s l)).map fun t : Nat => V.int (t : Int)))) ⟨same_new hD4, upd_same⟩ (fun _ _ _ _ => trivial) ?_ ?_
        · rintro k y Ha Hb hk ⟨sa, hM⟩ ⟨rfl, rfl⟩
          have k12 : (k : Int) < 12 := by omega
          have sk : (s * (0 + (k : Int))).natAbs ≤ 1728 * 12 := mul_le12 (A := 1728) (B := 12) (by omega) (by omega)
          have hp6 := Bx.Same.tup sa hp5
          have fk : (f * (v + s * (0 + (k : Int)))).natAbs ≤ 90 * 40000 := mul_le12 (A := 90) (B := 40000) (by omega) (by omega)
          refine ⟨rfl, ?_⟩
          walk_at "rd"
          refine ⟨.inl (pow64 (by omega)), ?_⟩
          walk_at "rd"
          refine ⟨.inl (pow64 (by omega)), ?_⟩
          walk_at "rd"
          refine .inl ⟨_, rfl, ?_⟩
          walk_at "rd"
          refine ⟨_, _, _, _, rfl, rfl, hp6, atI_nat (j := 1) rfl, ?_⟩
          walk_at "rd"
          refine ⟨mp, ?_⟩
          walk_at "rd"
          have ze : (0 : Int) + (k : Int) = k := Int.zero_add _
          have tk2 : (List.range (k + 1)).filter (hitB c.m f v s l) = (List.range k).filter (hitB c.m f v s l) ++ if hitB c.m f v s l k = true then [k] else [] := by
            rw [List.range_succ, List.filter_append, List.filter_cons, List.filter_nil]
          rw [tk2]
          have kl : ((List.range k).filter (hitB c.m f v s l)).length ≤ 12 := Nat.le_trans (List.length_filter_le _ _) (by rw [List.length_range]; omega)
          refine ite2 (fun h => ?_) (fun h => ?_)
          · have h1 : hitB c.m f v s l k = true := decide_eq_true (Int.dvd_of_emod_eq_zero (ze ▸ int_t h))
            rw [if_pos h1, List.map_append]
            walk_at "rd"
            refine ⟨_, hM, szl (by rw [List.length_map]; omega), same_at hD4 sa, ?_⟩
            rw [upd_same]
            show some (HO.lst (_ ++ [V.int (0 + (k : Int))])) = _
            rw [ze]
            rfl
          · have h1 : ¬ hitB c.m f v s l k = true := fun q => int_f h (Int.emod_eq_zero_of_dvd (ze.symm ▸ of_decide_eq_true q))
            rw [if_neg h1, List.append_nil]
            exact ⟨sa, hM⟩
        rintro H6 ⟨s6, hM6⟩
        have s26 := s25.trans s6
        have hp6 := Bx.Same.tup s6 hp5
        have hM7 := s6 _ _ hM5
        walk_at "rd"
        rcases first_fit (hitB c.m f v s l) c.m.toNat with ⟨e1, nil1⟩ | ⟨t0, rest, e1, t0m, yes, no⟩
        · rw [e1] at hM6
          walk_at "rd"
          refine ⟨_, _, rfl, .inl (sq hM6), ?_⟩
          walk_at "rd"
          refine ite2 (fun _ => ?_) (fun h => (int_f h rfl).elim)
          walk_at "rd"
          refine q1 (fun x hx => ?_) H6 s26
          refine step_none mp (f := f) (l := l) (v := v) (s := s) (fun t t1 t2 => ?_) x ⟨(fs.a x).mp fun c' hc' _ => hx c' (List.mem_of_mem_take hc'), (fl x).mp (hx c cin)⟩
          have n1 := of_decide_eq_false (nil1 t.toNat (by omega))
          rwa [Int.toNat_of_nonneg t1] at n1
        · rw [e1] at hM6
          walk_at "rd"
          refine ⟨_, _, rfl, .inl (sq hM6), ?_⟩
          walk_at "rd"
          refine ⟨_, _, _, _, rfl, rfl, sq hM6, atI_nat (j := 0) rfl, ?_⟩
          walk_at "rd"
          have fits0 : c.m ∣ f * (v + s * (t0 : Int)) - l := of_decide_eq_true yes
          have least : ∀ t : Int, 0 ≤ t → t < t0 → ¬ c.m ∣ f * (v + s * t) - l := fun t t1 t2 => by
            have n1 := of_decide_eq_false (no t.toNat (by omega))
            rwa [Int.toNat_of_nonneg t1] at n1
          have fst2 := fst'
          have nf := fst_pos fst' mp m12 (Int.natCast_nonneg t0) (by rw [hF, hl]; exact fits0) (fun t t1 t2 => by rw [hF, hl]; exact least t t1 t2)
          rw [hF] at nf
          refine ⟨.inl (pow64 (by omega)), ?_⟩
          walk_at "rd"
          refine ⟨_, _, _, _, rfl, rfl, hp6, atI_nat (j := 1) rfl, ?_⟩
          walk_at "rd"
          refine ⟨.inl (pow64 (by omega)), ?_⟩
          walk_at "rd"
          refine ⟨_, _, _, _, rfl, rfl, hp6, atI_nat (j := 1) rfl, ?_⟩
          have fs2 : (f * s).natAbs ≤ 90 * 1728 := mul_le12 (A := 90) (B := 1728) (by omega) (by omega)
          walk_at "rd"
          unfold tNil
          dsimp only
          refine ⟨f * s, c.m, rfl, by omega, by omega, ?_⟩
          have gp : 0 < (Int.gcd (f * s) c.m : Int) := by
            have : Int.gcd (f * s) c.m ≠ 0 := fun q => by
              have := (Int.gcd_eq_zero_iff.mp q).2
              omega
            omega
          have gm : (Int.gcd (f * s) c.m : Int) ≤ c.m := Int.le_of_dvd mp (Int.gcd_dvd_right (f * s) c.m)
          have q1' : c.m / (Int.gcd (f * s) c.m : Int) ≤ c.m := Int.ediv_le_self _ m0
          have q0' : 0 ≤ c.m / (Int.gcd (f * s) c.m : Int) := Int.ediv_nonneg m0 (Int.le_of_lt gp)
          have sq' : (s * (c.m / (Int.gcd (f * s) c.m : Int))).natAbs ≤ 1728 * 12 := mul_le12 (A := 1728) (B := 12) (by omega) (by omega)
          walk_at "rd"
          refine ⟨wide_div gp (b := 62) (by omega) (by decide) (by decide), ?_⟩
          walk_at "rd"
          refine ⟨.inl (pow64 (by omega)), ?_⟩
          walk_at "rd"
          exact ⟨_, _, _, _, _, _, _, ys, rfl, s26, hM7, by omega, nf⟩
    · rintro σ H2 ⟨v, s, o6, o8, o9, o10, o11, ys, rfl, s2, hM, yl, fs⟩
      rw [xl, List.take_length] at fs
      have fa := fun x => fst_all fs cm0 x
      have s0 := fs.s0
      have v0 := fs.v0
      have v1 := fs.v1
      walk_at "rd"
      refine ⟨⟨_, sq hM⟩, for_it walk_list (fun i σ H' => ∃ (x : Int) (o7 : Option V), σ = [some (.ref T), some (.str z), some (.ref d), some (.ref L), some (.int x), some (.int s), o6, o7, o8, o9, o10, o11, none, none] ∧ H' = H2 ∧ (i = 0 → x = v) ∧ s ∣ x - v ∧ (∀ y ∈ ys.take i, y = x))
        ⟨v, none, rfl, rfl, fun _ => rfl, by rw [Int.sub_self]; exact Int.dvd_zero _, fun y hy => by rw [List.take_zero] at hy; exact nomatch hy⟩ (fun _ _ _ _ ⟨_, _, _, e, _⟩ => e ▸ sq hM) ?_ ?_⟩
      · rintro i y σ Ha H3 hi ⟨x, o7, rfl, rfl, x0, dx, al⟩ ⟨rfl, hy⟩
        obtain ⟨y, hy2, rfl⟩ := at_map hy
        have ym : y ∈ ys := List.mem_of_getElem? hy2
        walk_at "rd"
        have yp : 0 < ys.length := Nat.lt_of_le_of_lt (Nat.zero_le _) (List.getElem?_eq_some_iff.mp hy2).1
        have hz0 : ys[0]? = some ys[0] := List.getElem?_eq_getElem yp
        generalize ys[0] = y0 at hz0
        have y0m : y0 ∈ ys := List.mem_of_getElem? hz0
        refine ⟨_, _, _, _, rfl, rfl, sq hM, atI_nat (j := 0) (by rw [List.getElem?_map, hz0]; rfl), ?_⟩
        walk_at "rd"
        have dy0 : ∀ u, Fz g z cs u → u = y ∧ u = y0 ∧ s ∣ u - v := fun u hu => ⟨((fa u).mp hu).2 y ym, ((fa u).mp hu).2 y0 y0m, ((fa u).mp hu).1⟩
        refine ite2 (fun h => ?_) (fun h => ?_)
        · have h1 := int_nt h
          walk_at "rd"
          refine q1 (fun u hu => h1 ?_) H3 s2
          have := dy0 u hu
          omega
        · have h1 := int_nf h
          walk_at "rd"
          refine .inl ⟨_, rfl, ?_⟩
          walk_at "rd"
          refine ⟨s0, ?_⟩
          walk_at "rd"
          refine ite2 (fun h2 => ?_) (fun h2 => ?_)
          · have h3 := int_nt h2
            walk_at "rd"
            refine q1 (fun u hu => h3 (Int.emod_eq_zero_of_dvd ?_)) H3 s2
            have e := dy0 u hu
            have d := Int.dvd_sub e.2.2 dx
            rw [show u - v - (x - v) = y - x by omega] at d
            exact d
          · have h3 := Int.dvd_of_emod_eq_zero (int_nf h2)
            walk_at "rd"
            refine ⟨fun e => (nomatch e), ?_, fun y2 hy2' => ?_⟩
            · have d := Int.dvd_add h3 dx
              rw [show y - x + (x - v) = y - v by omega] at d
              exact d
            · rw [List.take_add_one, hy2] at hy2'
              rcases List.mem_append.mp hy2' with h4 | h4
              · rcases Nat.eq_zero_or_pos i with i0 | ip
                · rw [i0, List.take_zero] at h4
                  exact nomatch h4
                · have k1 := al y2 h4
                  have k0 := al y0 (List.mem_of_getElem? (i := 0) (by rw [List.getElem?_take_of_lt ip]; exact hz0))
                  omega
              · exact List.mem_singleton.mp h4
      · rintro σ H3 ⟨x, o7, rfl, rfl, x0, dx, al⟩
        rw [List.length_map, List.take_length] at al
        walk_at "rd"
        rcases Nat.eq_zero_or_pos ys.length with e0 | ep
        · have e := x0 (by rw [List.length_map]; exact e0)
          have yn := List.eq_nil_of_length_eq_zero e0
          subst e
          refine q2 s x ⟨fun u => (fa u).trans ⟨fun q => q.1, fun q => ⟨q, fun y hy => by rw [yn] at hy; exact nomatch hy⟩⟩, .inr ⟨v0, v1⟩⟩ H3 s2
        · have hz0 : ys[0]? = some ys[0] := List.getElem?_eq_getElem ep
          have e := al _ (List.mem_of_getElem? hz0)
          refine q2 0 x ⟨fun u => (fa u).trans ⟨fun q => ?_, fun q => ?_⟩, .inl rfl⟩ H3 s2
          · rw [q.2 _ (List.mem_of_getElem? hz0), e, Int.sub_self]
            exact Int.dvd_zero _
          · have e2 : u = x := by have := Int.zero_dvd.mp q; omega
            rw [e2]
            exact ⟨dx, fun y hy => (al y hy).symm⟩
end
end K31
namespace K31
local macro_rules | `(tactic| walk_at "rd") => `(tactic| repeat (first | refine ⟨rfl, ?_⟩ | refine ⟨_, rfl, ?_⟩ | refine ⟨_, _, rfl, rfl, ?_⟩ | refine ⟨⟨_, rfl⟩, ?_⟩))
open PySem PySem.Spec PyProof.Rows L2 Bx TL Dx Zx Ow Sup NdefX Px T31 M31
theorem same_none {H H' : Hp} {b : Addr} (s : Same H H') (h : H' b = none) : H b = none := by
  cases e : H b with
  | none => rfl
  | some o =>
    have := s _ _ e
    rw [h] at this
    cases this
section
variable {P : Program} {w : World} {K : PySem.W.Frag} {mg : Str → Option Value} {base : Heap}
/-- what lift answers, its refusal as a list -/
@[irreducible] def spLifted (K : PySem.W.Frag) : Sp := fun vs H Q _ => ∃ (T na ca d : Addr) (xs : List V) (ns : List Str) (cs : List Con) (g : Str → Int) (z : Str), vs = [.ref T, .str z, .ref d] ∧ Th K H T na ca xs ns cs ∧ cs.length ≤ 4 ∧ (∀ c ∈ cs, Ok c) ∧ VAt H d g ((cs.map fun c => (others c.t z).map (·.1)).flatten) ∧ z.length ≤ 100 ∧
  (∀ M R, Prog g z cs M R → ∀ H', Same H H' → Q (.int R) H') ∧ ((∀ x, ¬ Fz g z cs x) → ∀ r H', Same H H' → H r = none → H' r = some (.lst [.str "refused"]) → Q (.ref r) H')
theorem ok_lifted {C CF : Addr} (er : ErN K mg CF) (te : PySem.W.exmOne K (.ref CF) (.ref CF) = some true) {f : Addr} {fd : FuncData} (F : Fun K "_law_lifted" "_law_lifted" s__law_lifted f fd) (B_Wholes : Mk0.Bare K mg "Wholes" C) (M_lift : MthX P w K mg base C "lift" 5 ["self", "theory", "name", "assignment"] (spLift K CF)) : FnOk P w K mg base CX0 6 f fd ["_law_theory", "_law_name", "_law_values_here"] (spLifted K) := by
  refine F.ok sc__law_lifted (fun vs H Q E h => ?_) (fun cdv A outer s H vs Q E hr h => ?_)
  · unfold spLifted at h
    obtain ⟨T, na, ca, d, xs, ns, cs, g, z, rfl, _⟩ := h
    rfl
  · unfold spLifted at h
    obtain ⟨T, na, ca, d, xs, ns, cs, g, z, rfl, th, cl, okc, va, zl, q1, q2⟩ := h
    refine ⟨_, (pss_one (ps_try_only rfl rfl ⟨rfl, by decide, .inl er.gF⟩ takes0 (fun W pn xe tk po =>
      (pss_one (ps_ret (pe_mthX M_lift tk (hr.mono (by decide)) (Mk0.pe_bare B_Wholes) (pa_cons (pv 0) (pa_cons (pv 1) (pa_cons (pv 2) pa_nil))) (ht := mcall_of (abase_call (by decide +kernel)) (fun _ => rfl))))))
      (fun a oe cls d pn _ _ =>
      (pss_one (ps_ret (pe_lst (pa_cons pe_str pa_nil))))))), ?_⟩
    walk_at "rd"
    refine fun k dk nk nd ne => ?_
    obtain ⟨u2, hk⟩ := bare_new (C := C) nk nd ne
    generalize upd (upd H dk (.own k)) k (.ins C dk []) = H9 at u2 hk ⊢
    refine ⟨k, dk, [], rfl, hk, rfl, ?_⟩
    walk_at "rd"
    show spLift K CF _ _ _ _
    unfold spLift
    refine ⟨k, T, na, ca, d, xs, ns, cs, g, z, rfl, th.same u2, cl, okc, va.same u2, zl, fun M R pg H1 s1 => ?_, fun no H1 s1 => ?_⟩
    · exact q1 M R pg H1 (u2.trans s1)
    · refine ⟨true, te, fun _ a na => ?_, fun h => nomatch h⟩
      walk_at "rd"
      refine ⟨sz (by decide), fun r nr => ?_⟩
      exact q2 no r _ ((u2.trans s1).trans (same_new nr)) (same_none (u2.trans s1) nr) upd_same
end
end K31
namespace K31
local macro_rules | `(tactic| walk_at "rd") => `(tactic| repeat (first | refine ⟨rfl, ?_⟩ | refine ⟨_, rfl, ?_⟩ | refine ⟨_, _, rfl, rfl, ?_⟩ | refine ⟨⟨_, rfl⟩, ?_⟩))
open PySem PySem.Spec PyProof.Rows L2 Bx TL Dx Zx Ow Sup NdefX Px T31 M31
theorem prog_in {g : Str → Int} {z : Str} {cs : List Con} {M R : Int} (p : Prog g z cs M R) : Fz g z cs R := (p.1 R).mpr (by rw [Int.sub_self]; exact Int.dvd_zero _)
theorem prog_same {g : Str → Int} {z : Str} {cs : List Con} {M R M' R' : Int} (p : Prog g z cs M R) (p' : Prog g z cs M' R') : R = R' := prog_unique (fun x => (p.1 x).symm.trans (p'.1 x)) p.2 p'.2
section
variable {P : Program} {w : World} {K : PySem.W.Frag} {mg : Str → Option Value} {base : Heap}
@[irreducible] def spLR (K : PySem.W.Frag) : Sp := fun vs H Q _ => ∃ (T na ca d : Addr) (xs : List V) (ns : List Str) (cs : List Con) (l : As) (z : Str), vs = [.ref T, .str z, .ref d] ∧ Th K H T na ca xs ns cs ∧ cs.length ≤ 4 ∧ Nm ns ∧ (∀ c ∈ cs, Lc ns c) ∧ H d = some (.dK (asV l)) ∧ Vl ns l ∧ z ∈ ns ∧ ∀ H', Same H H' → Q (.bl true) H'
set_option maxHeartbeats 1000000 in
theorem ok_lr {f : Addr} {fd : FuncData} (F : Fun K "_law_lift_right" "_law_lift_right" s__law_lift_right f fd) (m_dict : mg "dict" = none) (C__law_first : Cal P w K mg base "_law_first" 2 ["_law_theory", "_law_name", "_law_values_here"] (spFirst K)) (C__law_lifted : Cal P w K mg base "_law_lifted" 6 ["_law_theory", "_law_name", "_law_values_here"] (spLifted K)) (C__law_is_int : Cal P w K mg base "_law_is_int" 1 ["_law_value"] spIsInt) : FnOk P w K mg base CX0 7 f fd ["_law_theory", "_law_name", "_law_values_here"] (spLR K) := by
  refine F.ok sc__law_lift_right (fun vs H Q E h => ?_) (fun cdv A outer s H vs Q E hr h => ?_)
  · unfold spLR at h
    obtain ⟨T, na, ca, d, xs, ns, cs, l, z, rfl, _⟩ := h
    rfl
  · unfold spLR at h
    obtain ⟨T, na, ca, d, xs, ns, cs, l, z, rfl, th, cl, nm, lc, hd, hv, zin, q⟩ := h
    have hu := hu_of hr
    have l4 : l.length ≤ 4 := by
      have z := congrArg List.length hv.k
      have := nm.ln
      rw [List.length_map] at z
      omega
    have ndn := asc_nodup nm.asc
    have z5 := nm.n5 z zin
    have z100 : z.length ≤ 100 := by
      have a : ∀ y ∈ N5, y.length ≤ 100 := by decide +kernel
      exact a z z5
    refine ⟨_, (pss_cons (ps_set (i := 3) sc__law_lift_right.nd rfl (Or.inl rfl) pe_dnewK)
    (pss_cons (ps_for PassesOwn.never rfl (pi_tup (pe_ix ix_tup (pv 0) pe_int (fun _ _ => rfl))) (pg_name (i := 4) sc__law_lift_right.nd rfl (Or.inl rfl))
      (pss_one (ps_if (pt_cmpR op_ne (pv 4) (pv 1) (nomark _))
      (pss_one (ps_dput hu (pv 3) (pv 4) (pe_dget hu (pv 2) (pv 4) (fun _ _ => rfl)) rfl))
      pss_nil)))
    (pss_cons (ps_set (i := 5) sc__law_lift_right.nd rfl (Or.inl rfl) (pe_callTy (T := "dict") call_dictD (by rfl) m_dict (by decide +kernel) (pa_cons (pv 3) pa_nil)))
    (pss_cons (ps_set (i := 6) sc__law_lift_right.nd rfl (Or.inl rfl) (pe_cal C__law_first (hr.mono (by decide)) (pa_cons (pv 0) (pa_cons (pv 1) (pa_cons (pv 3) pa_nil)))))
    (pss_cons (ps_set (i := 7) sc__law_lift_right.nd rfl (Or.inl rfl) (pe_cal C__law_lifted (hr.mono (by decide)) (pa_cons (pv 0) (pa_cons (pv 1) (pa_cons (pv 5) pa_nil)))))
    (pss_cons (ps_if (pt_cmpR (op_ne_dictA (Nat.lt_of_le_of_lt (Nat.le_add_right _ _) hr.units)) (pv 5) (pv 3) (nomark _))
      (pss_one (ps_ret pe_bl))
      pss_nil)
    (pss_cons (ps_if (pt_cmpR op_isN (pv 6) pe_non (nomark _))
      (pss_one (ps_ret (pe_cmpR (op_eqD hr.units) (pv 7) (pe_lst (pa_cons pe_str pa_nil)) (nomark _))))
      pss_nil)
    (pss_one (ps_ret (pe_and (pe_cal C__law_is_int (hr.mono (by decide)) (pa_cons (pv 7) pa_nil)) (pe_one (pe_cmpR op_eq (pv 7) (pv 6) (nomark _))))))))))))), ?_⟩
    walk_at "rd"
    refine fun m nm0 => ?_
    have um := same_new nm0 (o := .dK [])
    have hm0 := upd_same (H := H) (a := m) (o := .dK [])
    walk_at "rd"
    generalize upd H m (.dK []) = H1 at um hm0 ⊢
    refine ⟨_, _, _, _, rfl, rfl, Bx.Same.tup um th.t, atI_nat (j := 0) rfl, ?_⟩
    refine ⟨na, rfl, ⟨_, Bx.Same.tup um th.n⟩, for_it walk_tup (fun i σ H' => ∃ (o4 : Option V) (l' : As), σ = [some (.ref T), some (.str z), some (.ref d), some (.ref m), o4, none, none, none] ∧ Same H H' ∧ H' m = some (.dK (asV l')) ∧ l'.map (·.1) = (ns.take i).filter (fun y => decide (y ≠ z)) ∧ ∀ p ∈ l', p.2.natAbs ≤ 1000001000000)
      ⟨none, [], rfl, um, hm0, rfl, fun p hp => (nomatch hp)⟩ (fun _ _ _ _ ⟨_, _, _, s, _⟩ => Bx.Same.tup s th.n) ?_ ?_⟩
    · rintro i x σ Ha Hb hi ⟨o4, l', rfl, sb, hm, lk, lb⟩ ⟨rfl, hx⟩
      obtain ⟨y, hy, rfl⟩ := at_map hx
      have tk1 : (ns.take (i + 1)).filter (fun y => decide (y ≠ z)) = (ns.take i).filter (fun y => decide (y ≠ z)) ++ if y ≠ z then [y] else [] := by
        rw [List.take_add_one, hy, List.filter_append]
        congr 1
        by_cases e : y = z <;> simp [e]
      have ll : l'.length ≤ 4 := by
        have z1 := congrArg List.length lk
        rw [List.length_map] at z1
        have z2 : ((ns.take i).filter (fun y => decide (y ≠ z))).length ≤ ns.length := Nat.le_trans (List.length_filter_le _ _) (List.length_take_le' i ns)
        have := nm.ln
        omega
      walk_at "rd"
      rw [tk1]
      refine ite2 (fun h => ?_) (fun h => ?_)
      · have ne : y ≠ z := fun e => ne_t h (congrArg V.str e)
        rw [if_pos ne]
        have yn : y ∉ l'.map (·.1) := by
          rw [lk]
          exact fun q => nd_take ndn hy (List.mem_filter.mp q).1
        have yl : y ∈ l.map (·.1) := by rw [hv.k]; exact List.mem_of_getElem? hy
        walk_at "rd"
        refine ⟨d, .int (vl l y), rfl, by rw [← has_as yl]; exact DGet.k (k := .inr y) (sb _ _ hd), ?_⟩
        walk_at "rd"
        refine ⟨m, _, rfl, DPut.k (k := .inr y) (v := .int (vl l y)) hm (szl (by unfold asV; rw [List.length_map]; omega)), ?_⟩
        rw [put_as yn]
        refine ⟨_, l' ++ [(y, vl l y)], rfl, same_at nm0 sb, upd_same, by rw [List.map_append, lk]; rfl, fun p hp => ?_⟩
        rcases List.mem_append.mp hp with h | h
        · exact lb p h
        · rw [List.mem_singleton.mp h]
          exact vl_size hv.s y
      · have e : y = z := V.str.inj (ne_f h)
        rw [if_neg (fun q => q e), List.append_nil]
        walk_at "rd"
        exact ⟨_, l', rfl, sb, hm, lk, lb⟩
    rintro σ H2 ⟨o4, l', rfl, s2, hm, lk, lb⟩
    rw [List.length_map, List.take_length] at lk
    have lb40 : ∀ p ∈ l', p.2.natAbs ≤ 2 ^ 40 := fun p hp => Nat.le_trans (lb p hp) (by decide)
    have nd' : (l'.map (·.1)).Nodup := by rw [lk]; exact List.Pairwise.filter _ ndn
    have subz : ∀ y ∈ (cs.map fun c => (others c.t z).map (·.1)).flatten, y ∈ l'.map (·.1) := fun y hy => by
      obtain ⟨ys, h1, h2⟩ := List.mem_flatten.mp hy
      obtain ⟨c, hc, rfl⟩ := List.mem_map.mp h1
      obtain ⟨t, ht, rfl⟩ := List.mem_map.mp h2
      obtain ⟨t1, t2⟩ := List.mem_filter.mp ht
      rw [lk]
      exact List.mem_filter.mpr ⟨(lc c hc).sub.subset (List.mem_map.mpr ⟨t, t1, rfl⟩), t2⟩
    have okc : ∀ c ∈ cs, Ok c := fun c hc => (lc c hc).ok
    walk_at "rd"
    refine ⟨m, _, rfl, .inl hm, fun e ne1 => ?_⟩
    have u3 := same_new ne1 (o := .dK (asV l'))
    have he := upd_same (H := H2) (a := e) (o := .dK (asV l'))
    generalize upd H2 e (.dK (asV l')) = H3 at u3 he ⊢
    have s3 := s2.trans u3
    have hm3 := u3 _ _ hm
    walk_at "rd"
    show spFirst K _ _ _ _
    unfold spFirst
    refine ⟨T, na, ca, m, xs, ns, cs, vl l', z, rfl, th.same s3, cl, okc, vat_vl rfl lb40 hm3 subz, fun no H4 s4 => ?_, fun M R pg H4 s4 => ?_⟩
    · have s34 := s3.trans s4
      walk_at "rd"
      show spLifted K _ _ _ _
      unfold spLifted
      refine ⟨T, na, ca, e, xs, ns, cs, vl l', z, rfl, th.same s34, cl, okc, vat_vl rfl lb40 (s4 _ _ he) subz, z100, fun M R pg => (no R (prog_in pg)).elim, fun _ r H5 s5 nr hr5 => ?_⟩
      have s35 := s34.trans s5
      walk_at "rd"
      refine ⟨e, m, asV l', asV l', rfl, rfl, s5 _ _ (s4 _ _ he), (s4.trans s5) _ _ hm3, rfl, own_as nd', ?_⟩
      walk_at "rd"
      dsimp only
      walk_at "rd"
      refine ⟨sz (by decide), fun r2 nr2 => ?_⟩
      have s6 := same_new nr2 (o := .lst [V.str (Str.ofString "refused")])
      show rEqD K _ _ _ _
      refine ⟨.list [.str "refused"], .list [.str "refused"], .lst (sq (s6 _ _ hr5)) (da_one (.str _)), .lst (sq upd_same) (da_one (.str _)), by decide +kernel, by decide +kernel, ?_⟩
      rw [show PyData.eqv (.list [.str "refused"]) (.list [.str "refused"]) = true by decide +kernel]
      exact q _ (s35.trans s6)
    · have s34 := s3.trans s4
      walk_at "rd"
      show spLifted K _ _ _ _
      unfold spLifted
      refine ⟨T, na, ca, e, xs, ns, cs, vl l', z, rfl, th.same s34, cl, okc, vat_vl rfl lb40 (s4 _ _ he) subz, z100, fun M' R' pg' H5 s5 => ?_, fun no => (no R (prog_in pg)).elim⟩
      have s35 := s34.trans s5
      obtain rfl := prog_same pg pg'
      walk_at "rd"
      refine ⟨e, m, asV l', asV l', rfl, rfl, s5 _ _ (s4 _ _ he), (s4.trans s5) _ _ hm3, rfl, own_as nd', ?_⟩
      walk_at "rd"
      unfold tNil
      dsimp only
      unfold spIsInt
      refine ⟨R, rfl, true, rfl, ?_⟩
      rw [if_pos rfl]
      walk_at "rd"
      show Q (.bl (decide (V.int R = V.int R))) H5
      rw [decide_eq_true rfl]
      exact q _ s35
end
end K31
namespace K31
local macro_rules | `(tactic| walk_at "rd") => `(tactic| repeat (first | refine ⟨rfl, ?_⟩ | refine ⟨_, rfl, ?_⟩ | refine ⟨_, _, rfl, rfl, ?_⟩ | refine ⟨⟨_, rfl⟩, ?_⟩))
open PySem PySem.Spec PyProof.Rows L2 Bx TL Dx Zx Ow Sup NdefX Px T31 M31
/-- a constraint without its terms -/
def bareC (c : Con) : Con := ⟨[], c.m, c.r⟩
theorem bare_ok {c : Con} (h : Ok c) : Ok (bareC c) := ⟨fun x hx => (nomatch hx), fun x hx => (nomatch hx), Nat.zero_le _, h.m0, h.m1, h.r⟩
section
variable {P : Program} {w : World} {K : PySem.W.Frag} {mg : Str → Option Value} {base : Heap}
@[irreducible] def spGR (K : PySem.W.Frag) : Sp := fun vs H Q _ => ∃ (T na ca : Addr) (xs : List V) (ns : List Str) (cs : List Con), vs = [.ref T] ∧ Th K H T na ca xs ns cs ∧ cs.length ≤ 4 ∧ (∀ c ∈ cs, Ok c) ∧ ∀ H', Same H H' → Q (.bl true) H'
set_option maxHeartbeats 1000000 in
theorem ok_gr {C : Addr} {f : Addr} {fd : FuncData} (F : Fun K "_law_ground_right" "_law_ground_right" s__law_ground_right f fd) (m_tuple : mg "tuple" = none) (m_dict : mg "dict" = none) (m_len : mg "len" = none) (m_isinstance : mg "isinstance" = none) (B_Wholes : Mk0.Bare K mg "Wholes" C) (M_ground : MthC P w K mg base C "ground" 6 ["self", "theory"] (spGround K C)) (C__law_holds : Cal P w K mg base "_law_holds" 2 ["_law_constraint_here", "_law_values_here"] (spLHolds K)) : FnOk P w K mg base CX0 7 f fd ["_law_theory"] (spGR K) := by
  refine F.ok sc__law_ground_right (fun vs H Q E h => ?_) (fun cdv A outer s H vs Q E hr h => ?_)
  · unfold spGR at h
    obtain ⟨T, na, ca, xs, ns, cs, rfl, _⟩ := h
    rfl
  · unfold spGR at h
    obtain ⟨T, na, ca, xs, ns, cs, rfl, th, cl, okc, q⟩ := h
    have hu := hu_of hr
    have xl : xs.length = cs.length := by rw [da_len th.d, List.length_map]
    refine ⟨_, (pss_cons (ps_set (i := 1) sc__law_ground_right.nd rfl (Or.inl rfl) (pe_callTy (T := "tuple") call_tuple_of (by rfl) m_tuple (by decide +kernel) (pa_cons (pe_lc (own := [("_law_constraint_here", 4)]) (tt := tYes) rfl sc__law_ground_right.nd (pi_tup (pe_ix ix_tup (pv 0) pe_int (fun _ _ => rfl))) (blkOk_by (N := n__law_ground_right) (sc := defScope s__law_ground_right) (by decide +kernel)) (fun _ _ _ _ _ => pg_name (i := 4) sc__law_ground_right.nd rfl (Or.inl rfl)) (fun _ _ _ _ _ => pts_nil) (fun _ _ _ _ _ => (pe_tup (pa_cons (pe_tup pa_nil) (pa_cons (pe_ix (ix_tupK (K := K) rfl) (pv 4) pe_int (fun _ _ => rfl)) (pa_cons (pe_ix (ix_tupK (K := K) rfl) (pv 4) pe_int (fun _ _ => rfl)) pa_nil)))))) pa_nil)))
    (pss_cons (ps_setLc (i := 2) (own := [("_law_constraint_here", 4)]) rfl sc__law_ground_right.nd rfl rfl (sw_true rfl rfl rfl (by decide +kernel)) (pi_tup (pv 1)) (blkOk_by (N := n__law_ground_right) (sc := defScope s__law_ground_right) (by decide +kernel)) (fun _ _ _ _ _ => pg_name (i := 4) sc__law_ground_right.nd rfl (Or.inl rfl)) (fun _ _ _ _ _ => pts_one (pt_not (pt_val (pe_cal C__law_holds (hr.mono (by decide)) (pa_cons (pv 4) (pa_cons pe_dnewK pa_nil)))))) (fun _ _ _ _ _ => (pv 4)))
    (pss_cons (ps_set (i := 3) sc__law_ground_right.nd rfl (Or.inl rfl) (pe_mth M_ground (hr.mono (by decide)) (Mk0.pe_bare B_Wholes) (pa_cons (pe_tup (pa_cons (pe_tup pa_nil) (pa_cons (pv 1) pa_nil))) pa_nil) (ht := mcall_of (abase_call (by decide +kernel)) (fun _ => rfl))))
    (pss_cons (ps_if (pt_cmpR op_gt (pe_callB call_len_seq (by rfl) m_len PySem.boot_len (pa_cons (pv 2) pa_nil)) pe_int (nomark _))
      (pss_one (ps_ret (pe_cmpR op_isN (pv 3) pe_non (nomark _))))
      pss_nil)
    (pss_one (ps_ret (pe_and (pe_callB (id := "isinstance") call_isi (by rfl) m_isinstance (by decide +kernel) (pa_cons (pv 3) (pa_cons (pe_bltn (v := .ty "dict") (by rfl) m_dict (by decide +kernel) rfl) pa_nil))) (pe_one (pe_cmpR op_eq (pe_callB call_lenD (by rfl) m_len PySem.boot_len (pa_cons (pv 3) pa_nil)) pe_int (nomark _)))))))))), ?_⟩
    walk_at "rd"
    refine ⟨_, _, _, _, rfl, rfl, th.t, atI_nat (j := 1) rfl, ?_⟩
    refine ⟨ca, rfl, ⟨_, th.c⟩, fun D hD => ?_⟩
    refine lc_it walk_tup (fun i H' => Same H H' ∧ ∃ us, H' D = some (.lst us) ∧ DpAll K (mn H' [D]) us (((cs.take i).map bareC).map coD)) ⟨same_new hD, [], upd_same, .nil⟩ (fun i H' _ h => Bx.Same.tup h.1 th.c) ?_ ?_
    · rintro i x H2a H2 hi ⟨s2, us, hM, hda⟩ ⟨rfl, hx⟩
      obtain ⟨c, hc, dc⟩ := da_co (dpAll_same s2 th.d) hx
      obtain ⟨p, b, zs, rfl, hp, hb, hz⟩ := co_dp dc
      refine ⟨rfl, ?_⟩
      walk_at "rd"
      refine ⟨sz (by show 0 ≤ 100000; decide), fun U nU => ?_⟩
      have s4 := same_new nU (o := .tup [])
      have hU := upd_same (H := H2) (a := U) (o := .tup [])
      generalize upd H2 U (.tup []) = H4 at s4 hU ⊢
      walk_at "rd"
      refine ⟨_, _, _, _, rfl, rfl, Bx.Same.tup s4 hp, atI_nat (j := 1) rfl, ?_⟩
      walk_at "rd"
      refine ⟨_, _, _, _, rfl, rfl, Bx.Same.tup s4 hp, atI_nat (j := 2) rfl, ?_⟩
      walk_at "rd"
      refine ⟨sz (by show 3 ≤ 100000; decide), fun N nN => ?_⟩
      have s5 := same_new nN (o := .tup [V.ref U, .int c.m, .int c.r])
      have hN := upd_same (H := H4) (a := N) (o := .tup [V.ref U, .int c.m, .int c.r])
      have hM5 := (s4.trans s5) _ _ hM
      have dN : Dp K (upd H4 N (.tup [V.ref U, .int c.m, .int c.r])) (.ref N) (coD (bareC c)) := dp_co (sqt hN) (sqt (s5 _ _ hU)) .nil
      generalize upd H4 N (.tup [V.ref U, .int c.m, .int c.r]) = H5 at s5 hM5 dN ⊢
      have ul : us.length ≤ 4 := by
        rw [da_len hda, List.length_map, List.length_map]
        exact Nat.le_trans (List.length_take_le' i cs) cl
      have s25 := s4.trans s5
      refine ⟨us, hM5, szl (by omega), same_at hD (s2.trans s25), us ++ [.ref N], upd_same, ?_⟩
      rw [mn_upd (by simp), List.take_add_one, hc, List.map_append, List.map_append]
      exact da_app (dpAll_same (mn_all s25) hda) (da_one (dp_tk (tk_mn (Same.refl H5) hM5) _ _ (tup_co _) dN))
    rintro H2 ⟨s2, us, hM, hda⟩
    rw [xl, List.take_length] at hda
    have hda2 := dpAll_same (mn_same (H := H2) (S := [D])) hda
    have ul : us.length = cs.length := by rw [da_len hda, List.length_map, List.length_map]
    walk_at "rd"
    refine ⟨D, us, rfl, .inl ⟨sq hM, fun fr nfr => ?_⟩⟩
    have s3 := same_new nfr (o := .tup us)
    have hfr := upd_same (H := H2) (a := fr) (o := .tup us)
    generalize upd H2 fr (.tup us) = H3 at s3 hfr ⊢
    have s03 := s2.trans s3
    have hda3 := dpAll_same s3 hda2
    have hfr' : SqT K H3 fr us := sqt hfr
    walk_at "rd"
    refine ⟨⟨_, hfr'⟩, fun D2 hD2 => ?_⟩
    refine lc_it walk_tup (fun i H' => Same H3 H' ∧ ∃ ws, H' D2 = some (.lst ws) ∧ ws.length ≤ i ∧ (ws.length = 0 ↔ ((cs.map bareC).take i).all (hB fun _ => 0) = true)) ⟨same_new hD2, [], upd_same, Nat.le_refl _, Iff.intro (fun _ => rfl) (fun _ => rfl)⟩ (fun i H' _ h => Bx.Same.tup h.1 hfr') ?_ ?_
    · rintro i x H4a H4 hi ⟨s4, ws, hW, wl, wi⟩ ⟨rfl, hx⟩
      obtain ⟨c, hc, dc⟩ := da_co (dpAll_same s4 hda3) hx
      have cin : c ∈ cs.map bareC := List.mem_of_getElem? hc
      obtain ⟨c0, hc0, ec0⟩ := List.mem_map.mp cin
      have okb : Ok c := ec0 ▸ bare_ok (okc c0 hc0)
      have ct : c.t = [] := by rw [← ec0]; rfl
      refine ⟨rfl, ?_⟩
      walk_at "rd"
      refine fun d nd => ?_
      have s5 := same_new nd (o := .dK [])
      have hd := upd_same (H := H4) (a := d) (o := .dK [])
      generalize upd H4 d (.dK []) = H5 at s5 hd ⊢
      walk_at "rd"
      show spLHolds K _ _ _ _
      unfold spLHolds
      obtain ⟨p, b, zs, rfl, hp, hb, hz⟩ := co_dp dc
      refine ⟨p, d, c, fun _ => 0, rfl, dp_same s5 dc, okb, ⟨[], hd, fun z hz => by unfold names at hz; rw [ct] at hz; exact nomatch hz⟩, fun H6 s6 => ?_⟩
      have hW6 := s6 _ _ (s5 _ _ hW)
      have s46 := s4.trans (s5.trans s6)
      have i4 : i < 4 := by omega
      have tk1 : ((cs.map bareC).take (i + 1)).all (hB fun _ => 0) = (((cs.map bareC).take i).all (hB fun _ => 0) && hB (fun _ => 0) c) := by
        rw [List.take_add_one, hc, List.all_append]
        show (_ && (hB (fun _ => 0) c && true)) = _
        rw [Bool.and_true]
      refine ⟨_, rfl, ?_⟩
      dsimp only
      rw [tk1]
      refine ite2 (fun h => ?_) (fun h => ?_)
      · have hf : hB (fun _ => 0) c = false := by
          cases e : hB (fun _ => 0) c with
          | false => rfl
          | true => rw [e] at h; cases h
        rw [hf, Bool.and_false]
        walk_at "rd"
        refine ⟨ws, hW6, szl (by omega), same_at hD2 s46, _, upd_same, by rw [List.length_append]; show ws.length + 1 ≤ i + 1; omega, ?_⟩
        rw [List.length_append]
        exact ⟨fun z => by have : ws.length + 1 = 0 := z; omega, fun z => (nomatch z)⟩
      · have hf : hB (fun _ => 0) c = true := by
          cases e : hB (fun _ => 0) c with
          | true => rfl
          | false => rw [e] at h; exact (h rfl).elim
        rw [hf, Bool.and_true]
        exact ⟨s46, ws, hW6, by omega, wi⟩
    rintro H4 ⟨s4, ws, hW, wl, wi⟩
    rw [ul, ← List.length_map (f := bareC), List.take_length] at wi
    rw [ul] at wl
    have s04 := s03.trans s4
    walk_at "rd"
    refine fun k dk nk nd ne => ?_
    obtain ⟨u5, hk⟩ := bare_new (C := C) nk nd ne
    generalize upd (upd H4 dk (.own k)) k (.ins C dk []) = H5 at u5 hk ⊢
    refine ⟨k, dk, [], rfl, hk, rfl, ?_⟩
    walk_at "rd"
    refine ⟨sz (by show 0 ≤ 100000; decide), fun e ne => ?_⟩
    have s6 := same_new ne (o := .tup [])
    have he := upd_same (H := H5) (a := e) (o := .tup [])
    generalize upd H5 e (.tup []) = H6 at s6 he ⊢
    walk_at "rd"
    refine ⟨sz (by show 2 ≤ 100000; decide), fun T2 nT2 => ?_⟩
    have s7 := same_new nT2 (o := .tup [V.ref e, .ref fr])
    have hT2 := upd_same (H := H6) (a := T2) (o := .tup [V.ref e, .ref fr])
    generalize upd H6 T2 (.tup [V.ref e, .ref fr]) = H7 at s7 hT2 ⊢
    have s57 := s6.trans s7
    have s37 := s4.trans (u5.trans s57)
    have s07 := s03.trans s37
    have hW7 := (u5.trans s57) _ _ hW
    walk_at "rd"
    show spGround K C _ _ _ _
    unfold spGround
    refine ⟨k, dk, T2, e, fr, [], us, [], cs.map bareC, rfl, s57 _ _ hk, rfl, ⟨sqt hT2, sqt (s7 _ _ he), Bx.Same.tup s37 hfr', dpAll_same s37 hda3⟩, by rw [List.length_map]; omega, fun c hc => ?_, fun yes r H8 s8 hr8 => ?_, fun no H8 s8 => ?_⟩
    · obtain ⟨c0, hc0, rfl⟩ := List.mem_map.mp hc
      exact ⟨bare_ok (okc c0 hc0), rfl⟩
    · have w0 := wi.mpr yes
      have s08 := s07.trans s8
      walk_at "rd"
      refine ⟨D2, ws, rfl, .inl (sq (s8 _ _ hW7)), ?_⟩
      walk_at "rd"
      refine ite2 (fun h => absurd (of_decide_eq_true h) (by omega)) (fun _ => ?_)
      walk_at "rd"
      refine ⟨_, _, _, _, true, rfl, .ty "dict", .base (.dK hr8), kit_ty (by decide +kernel), ?_⟩
      refine ⟨_, rfl, ?_⟩
      rw [if_pos rfl]
      walk_at "rd"
      refine ⟨r, [], rfl, hr8, ?_⟩
      walk_at "rd"
      exact q _ s08
    · have w0 : ws.length ≠ 0 := fun z => by rw [wi.mp z] at no; cases no
      have s08 := s07.trans s8
      walk_at "rd"
      refine ⟨D2, ws, rfl, .inl (sq (s8 _ _ hW7)), ?_⟩
      walk_at "rd"
      refine ite2 (fun _ => ?_) (fun h => (h (decide_eq_true (by omega))).elim)
      walk_at "rd"
      exact q _ s08
end
end K31
namespace K31
local macro_rules | `(tactic| walk_at "rd") => `(tactic| repeat (first | refine ⟨rfl, ?_⟩ | refine ⟨_, rfl, ?_⟩ | refine ⟨_, _, rfl, rfl, ?_⟩ | refine ⟨⟨_, rfl⟩, ?_⟩))
open PySem PySem.Spec PyProof.Rows L2 Bx TL Dx Zx Ow Sup NdefX Px T31 M31
/-- the table that sends each name to its new one -/
def ren : List Str → List Str → Tb
  | n :: ns, w :: ws => (if w = n then [] else [(n, w)]) ++ ren ns ws
  | _, _ => []
theorem rn_cons (p : Str × Str) (t : Tb) (z : Str) : rn (p :: t) z = if p.1 = z then p.2 else rn t z := by
  unfold rn
  rw [List.find?_cons]
  by_cases e : p.1 = z
  · rw [decide_eq_true e, if_pos e]
    rfl
  · rw [decide_eq_false e, if_neg e]
theorem rn_out {t : Tb} {z : Str} (h : z ∉ t.map (·.1)) : rn t z = z := by
  unfold rn
  rw [List.find?_eq_none.mpr fun p hp e => h (List.mem_map.mpr ⟨p, hp, of_decide_eq_true e⟩)]
  rfl
theorem ren_keys : ∀ ns ws : List Str, ((ren ns ws).map (·.1)).Sublist ns
  | [], _ => by unfold ren; exact List.Sublist.refl _
  | n :: ns, [] => by unfold ren; exact List.nil_sublist _
  | n :: ns, w :: ws => by
    unfold ren
    split
    · exact (ren_keys ns ws).cons _
    · exact (ren_keys ns ws).cons_cons _
theorem ren_rn : ∀ ns ws : List Str, ns.Nodup → ws.length = ns.length → ns.map (rn (ren ns ws)) = ws
  | [], [], _, _ => rfl
  | [], w :: ws, _, h => nomatch h
  | n :: ns, [], _, h => nomatch h
  | n :: ns, w :: ws, nd, h => by
    obtain ⟨n1, n2⟩ := List.nodup_cons.mp nd
    have ih := ren_rn ns ws n2 (Nat.succ.inj h)
    have out : n ∉ (ren ns ws).map (·.1) := fun q => n1 ((ren_keys ns ws).subset q)
    unfold ren
    rw [List.map_cons]
    by_cases e : w = n
    · rw [if_pos e, List.nil_append, rn_out out, ih, e]
    · rw [if_neg e]
      show rn ((n, w) :: ren ns ws) n :: ns.map (rn ((n, w) :: ren ns ws)) = w :: ws
      rw [rn_cons, if_pos rfl]
      congr 1
      conv => rhs; rw [← ih]
      refine List.map_congr_left fun m hm => ?_
      rw [rn_cons, if_neg]
      rintro rfl
      exact n1 hm
theorem ren_snoc : ∀ (ns ws : List Str) (n w : Str), ws.length = ns.length → ren (ns ++ [n]) (ws ++ [w]) = ren ns ws ++ if w = n then [] else [(n, w)]
  | [], [], n, w, _ => by
    show ren [n] [w] = _
    unfold ren
    rw [List.nil_append]
    exact List.append_nil _
  | [], _ :: _, _, _, h => nomatch h
  | _ :: _, [], _, _, h => nomatch h
  | m :: ns, v :: ws, n, w, h => by
    rw [List.cons_append, List.cons_append]
    unfold ren
    rw [ren_snoc ns ws n w (Nat.succ.inj h), List.append_assoc]
/-- each new name is one of the turned names, or a fresh one at its place -/
structure Tg (tg ws : List Str) : Prop where
  a : ∀ (j : Nat) (w : Str), ws[j]? = some w → tg[j]? = some w ∨ frs5[j]? = some w
theorem frs_nodup : frs5.Nodup := by decide +kernel
theorem frs_n5 : ∀ z ∈ frs5, z ∈ N5 := by decide +kernel
theorem at_inj {α : Type} {l : List α} (nd : l.Nodup) {i j : Nat} {x : α} (hi : l[i]? = some x) (hj : l[j]? = some x) : i = j := by
  obtain ⟨h1, e1⟩ := List.getElem?_eq_some_iff.mp hi
  obtain ⟨h2, e2⟩ := List.getElem?_eq_some_iff.mp hj
  exact (List.getElem_inj nd).mp (e1.trans e2.symm)
theorem tg_nodup {tg ws : List Str} (t : Tg tg ws) (nd : tg.Nodup) (fr : ∀ z ∈ tg, z ∉ frs5) : ws.Nodup := by
  refine List.pairwise_iff_getElem.mpr fun i j hi hj lt e => ?_
  have a1 := t.a i _ (List.getElem?_eq_getElem hi)
  have a2 := t.a j _ (List.getElem?_eq_getElem hj)
  rw [← e] at a2
  have ij : i = j := by
    rcases a1 with a1 | a1 <;> rcases a2 with a2 | a2
    · exact at_inj nd a1 a2
    · exact (fr _ (List.mem_of_getElem? a1) (List.mem_of_getElem? a2)).elim
    · exact (fr _ (List.mem_of_getElem? a2) (List.mem_of_getElem? a1)).elim
    · exact at_inj frs_nodup a1 a2
  omega
theorem tg_n5 {tg ws : List Str} (t : Tg tg ws) (n5 : ∀ z ∈ tg, z ∈ N5) : ∀ z ∈ ws, z ∈ N5 := fun z hz => by
  obtain ⟨j, hj⟩ := List.mem_iff_getElem?.mp hz
  rcases t.a j z hj with h | h
  · exact n5 z (List.mem_of_getElem? h)
  · exact frs_n5 z (List.mem_of_getElem? h)
/-- a table of the law -/
structure Tk2 (ns : List Str) (t : Tb) : Prop where
  k : (t.map (·.1)).Nodup
  sub : (t.map (·.1)).Sublist ns
  nd : (ns.map (rn t)).Nodup
  n5 : ∀ z ∈ ns, rn t z ∈ N5
theorem tk2_of {ns tg ws : List Str} (nd : ns.Nodup) (pm : tg.Perm ns) (n5 : ∀ z ∈ ns, z ∈ N5) (fr : ∀ z ∈ ns, z ∉ frs5) (wl : ws.length = ns.length) (t : Tg tg ws) : Tk2 ns (ren ns ws) := by
  have e := ren_rn ns ws nd wl
  refine ⟨List.Pairwise.sublist (ren_keys ns ws) nd, ren_keys ns ws, ?_, fun z hz => ?_⟩
  · rw [e]
    exact tg_nodup t (pm.nodup_iff.mpr nd) fun z hz => fr z (pm.subset hz)
  · have m : rn (ren ns ws) z ∈ ns.map (rn (ren ns ws)) := List.mem_map.mpr ⟨z, hz, rfl⟩
    rw [e] at m
    exact tg_n5 t (fun y hy => n5 y (pm.subset hy)) _ m
theorem put_tb {t : Tb} {z v : Str} (h : z ∉ t.map (·.1)) : putK (tbV t) (.inr z) (.str v) = tbV (t ++ [(z, v)]) := by
  rw [put_new fun kv hk => ?_]
  · unfold tbV
    rw [List.map_append]
    rfl
  · unfold tbV at hk
    obtain ⟨p, hp, rfl⟩ := List.mem_map.mp hk
    intro e
    exact h (List.mem_map.mpr ⟨p, hp, Sum.inr.inj e⟩)
section
variable {P : Program} {w : World} {K : PySem.W.Frag} {mg : Str → Option Value} {base : Heap}
theorem slice_any {H : Hp} {a : Addr} {xs : List V} {lo hi : Option Int} (ha : SqT K H a xs) {Z : VK} (q : ∀ c' H', Same H H' → SqT K H' c' (cutV xs lo hi) → Z (.ref c') H') : rSlA K (.ref a) lo hi H Z := by
  refine ⟨a, xs, rfl, ha, fun h => ?_, fun _ p np => q p _ (same_new np) (sqt upd_same)⟩
  have e : cutV xs lo hi = xs := by
    unfold cutV
    rw [h.1, h.2, List.drop_zero, Nat.sub_zero, List.take_length]
  exact q a H (Same.refl H) (e.symm ▸ ha)
@[irreducible] def spTable (K : PySem.W.Frag) : Sp := fun vs H Q _ => ∃ (s na : Addr) (ns : List Str), vs = [.ref s, .ref na] ∧ Src H s ∧ SqT K H na (ns.map V.str) ∧ Nm ns ∧ ∀ (d : Addr) (t : Tb) (H' : Hp), SameBut s H H' → Src H' s → H d = none → H' d = some (.dK (tbV t)) → Tk2 ns t → Q (.ref d) H'
set_option maxHeartbeats 2000000 in
theorem ok_table {f : Addr} {fd : FuncData} (F : Fun K "_law_table" "_law_table" s__law_table f fd) (m_len : mg "len" = none) (m_list : mg "list" = none) (m_range : mg "range" = none) (C__law_draw : CDraw P w K mg base) : FnOk P w K mg base CX0 2 f fd ["_law_source_here", "_law_names_here"] (spTable K) := by
  refine F.ok sc__law_table (fun vs H Q E h => ?_) (fun cdv A outer s H vs Q E hr h => ?_)
  · unfold spTable at h
    obtain ⟨s, na, ns, rfl, _⟩ := h
    rfl
  · unfold spTable at h
    obtain ⟨src, na, ns, rfl, hA, hna, nm, q⟩ := h
    have hu := hu_of hr
    have nl := nm.ln
    have ndn := asc_nodup nm.asc
    refine ⟨_, (pss_cons (ps_set (i := 2) sc__law_table.nd rfl (Or.inl rfl) (pe_cal C__law_draw (hr.mono (by decide)) (pa_cons (pv 0) (pa_cons (pe_op op_add (pe_callB call_len_seq (by rfl) m_len PySem.boot_len (pa_cons (pv 1) pa_nil)) pe_int) pa_nil))))
    (pss_cons (ps_set (i := 3) sc__law_table.nd rfl (Or.inl rfl) (pe_op op_cat (pe_callTy (T := "list") call_list_of (by rfl) m_list (by decide +kernel) (pa_cons (pe_slice sl_tupA (pv 1) (po_some (pv 2)) po_none) pa_nil)) (pe_callTy (T := "list") call_list_of (by rfl) m_list (by decide +kernel) (pa_cons (pe_slice sl_tupA (pv 1) po_none (po_some (pv 2))) pa_nil))))
    (pss_cons (ps_set (i := 4) sc__law_table.nd rfl (Or.inl rfl) (pe_lst (pa_cons pe_str (pa_cons pe_str (pa_cons pe_str (pa_cons pe_str (pa_cons pe_str pa_nil)))))))
    (pss_cons (ps_set (i := 5) sc__law_table.nd rfl (Or.inl rfl) pe_dnewK)
    (pss_cons (ps_for PassesOwn.never rfl (pi_range1 (by rfl) m_range (pa_cons (pe_callB call_len_seq (by rfl) m_len PySem.boot_len (pa_cons (pv 1) pa_nil)) pa_nil)) (pg_name (i := 6) sc__law_table.nd rfl (Or.inl rfl))
      (pss_cons (ps_set (i := 7) sc__law_table.nd rfl (Or.inl rfl) (pe_ix ix_list (pv 3) (pv 6) (fun _ _ => rfl)))
    (pss_cons (ps_if (pt_cmpR op_eq (pe_cal C__law_draw (hr.mono (by decide)) (pa_cons (pv 0) (pa_cons pe_int pa_nil))) pe_int (nomark _))
      (pss_one (ps_set (i := 7) sc__law_table.nd rfl (Or.inl rfl) (pe_ix ix_list (pv 4) (pv 6) (fun _ _ => rfl))))
      pss_nil)
    (pss_one (ps_if (pt_cmpR op_ne (pv 7) (pe_ix ix_tup (pv 1) (pv 6) (fun _ _ => rfl)) (nomark _))
      (pss_one (ps_dput hu (pv 5) (pe_ix ix_tup (pv 1) (pv 6) (fun _ _ => rfl)) (pv 7) rfl))
      pss_nil)))))
    (pss_one (ps_ret (pv 5)))))))), ?_⟩
    walk_at "rd"
    refine ⟨na, _, rfl, .inr hna, ?_⟩
    rw [List.length_map]
    walk_at "rd"
    refine draw_of (lim := (ns.length : Nat) + 1) hA (by omega) fun r H1 h1 h2 s1 hA1 => ?_
    obtain ⟨k, rfl⟩ := Int.eq_ofNat_of_zero_le h1
    have hna1 := sqt_but hA s1 hna
    walk_at "rd"
    unfold tNoPart
    dsimp only
    refine slice_any hna1 fun c1 H2 s2 h2 => ?_
    rw [cut_suf] at h2
    unfold tNil
    dsimp only
    refine ⟨c1, _, rfl, .inr h2, fun l1 nl1 => ?_⟩
    have s3 := same_new nl1 (o := .lst ((ns.map V.str).drop k))
    have hl1 := upd_same (H := H2) (a := l1) (o := .lst ((ns.map V.str).drop k))
    generalize upd H2 l1 (.lst ((ns.map V.str).drop k)) = H3 at s3 hl1 ⊢
    have s13 := s2.trans s3
    walk_at "rd"
    dsimp only
    refine slice_any (Bx.Same.tup s13 hna1) fun c2 H4 s4 h4 => ?_
    rw [cut_pre] at h4
    refine ⟨c2, _, rfl, .inr h4, fun l2 nl2 => ?_⟩
    have s5 := same_new nl2 (o := .lst ((ns.map V.str).take k))
    have hl2 := upd_same (H := H4) (a := l2) (o := .lst ((ns.map V.str).take k))
    generalize upd H4 l2 (.lst ((ns.map V.str).take k)) = H5 at s5 hl2 ⊢
    have s15 := s13.trans (s4.trans s5)
    have hl15 := (s4.trans s5) _ _ hl1
    walk_at "rd"
    refine ⟨l1, l2, _, _, rfl, rfl, hl15, hl2, sz (by rw [List.length_drop, List.length_take, List.length_map]; omega), fun l3 nl3 => ?_⟩
    have pm : (ns.drop k ++ ns.take k).Perm ns := by
      have z := List.perm_append_comm (l₁ := ns.drop k) (l₂ := ns.take k)
      rwa [List.take_append_drop] at z
    rw [← List.map_drop, ← List.map_take, ← List.map_append]
    generalize ns.drop k ++ ns.take k = tg at pm ⊢
    have s6 := same_new nl3 (o := .lst (tg.map V.str))
    have hl3 := upd_same (H := H5) (a := l3) (o := .lst (tg.map V.str))
    generalize upd H5 l3 (.lst (tg.map V.str)) = H6 at s6 hl3 ⊢
    have s16 := s15.trans s6
    walk_at "rd"
    refine ⟨sz (by show 5 ≤ 100000; decide), fun l4 nl4 => ?_⟩
    generalize hu7 : upd H6 l4 (.lst [V.str ("aa" : Str), V.str ("b0" : Str), V.str ("h1" : Str), V.str ("m.x" : Str), V.str ("zz9" : Str)]) = H7
    have s7 : Same H6 H7 := hu7 ▸ same_new nl4
    have hl4 : H7 l4 = some (.lst (frs5.map V.str)) := by
      rw [← hu7]
      exact upd_same
    have hl37 := s7 _ _ hl3
    have l34 : l3 ≠ l4 := ne_of_none hl3 nl4
    walk_at "rd"
    have s17 := s16.trans s7
    have hA7 := src_same hA1 s17
    have sl3 := src_ne (src_same hA1 s15) nl3
    have sl4 := src_ne (src_same hA1 s16) nl4
    have b7 : SameBut src H H7 := s1.trans (Bx.Same.but s17)
    clear hl1 hl2 hl15 s13 s2 s3 s4 s5 s6 s7 s15 s16 h2 h4
    refine fun m nm0 => ?_
    have ms := src_ne hA7 nm0
    have u8 := same_new nm0 (o := .dK [])
    have hm8 := upd_same (H := H7) (a := m) (o := .dK [])
    have hA8 := src_same hA7 u8
    have hl38 := u8 _ _ hl37
    have hl48 := u8 _ _ hl4
    have b8 := b7.trans (Bx.Same.but u8)
    generalize upd H7 m (.dK []) = H8 at u8 hm8 hA8 hl38 hl48 b8 ⊢
    have mf : H m = none := by
      cases e : H m with
      | none => rfl
      | some o =>
        have z := b7 _ _ ms.symm e
        rw [nm0] at z
        cases z
    have m3 : m ≠ l3 := fun e => by rw [e, hl37] at nm0; cases nm0
    have m4 : m ≠ l4 := fun e => by rw [e, hl4] at nm0; cases nm0
    walk_at "rd"
    refine ⟨na, _, rfl, .inr (sqt_but hA b8 hna), ?_⟩
    rw [List.length_map]
    walk_at "rd"
    have tgl : tg.length = ns.length := pm.length_eq
    refine ⟨by omega, by omega, for_it walk_range (fun i σ H' => ∃ (o6 o7 : Option V) (ws : List Str), σ = [some (.ref src), some (.ref na), some (.int (k : Nat)), some (.ref l3), some (.ref l4), some (.ref m), o6, o7] ∧ SameBut src H H' ∧ Src H' src ∧ H' l3 = some (.lst (tg.map V.str)) ∧ H' l4 = some (.lst (frs5.map V.str)) ∧ H' m = some (.dK (tbV (ren (ns.take i) ws))) ∧ ws.length = i ∧ Tg tg ws)
      ⟨none, none, [], rfl, b8, hA8, hl38, hl48, hm8, rfl, ⟨fun j w h => (by rw [List.getElem?_nil] at h; exact nomatch h)⟩⟩ (fun _ _ _ _ _ => trivial) ?_ ?_⟩
    · rintro i x σ Ha H9 hi ⟨o6, o7, ws, rfl, sb, hA9, h3, h4, hm, wl, tgw⟩ ⟨rfl, rfl⟩
      have hi' : i < ns.length := by omega
      have it : i < tg.length := by omega
      walk_at "rd"
      refine ⟨_, _, _, _, rfl, rfl, sq h3, by rw [Int.zero_add]; exact atI_nat (by rw [List.getElem?_map, List.getElem?_eq_getElem it]; rfl), ?_⟩
      have ht := List.getElem?_eq_getElem it
      generalize tg[i] = z0 at ht ⊢
      dsimp only [gName]
      refine st_gi (i := 7) (fun v H' => SameBut src H H' ∧ Src H' src ∧ H' l3 = some (.lst (tg.map V.str)) ∧ H' l4 = some (.lst (frs5.map V.str)) ∧ H' m = some (.dK (tbV (ren (ns.take i) ws))) ∧ ∃ t : Str, v = .str t ∧ (tg[i]? = some t ∨ frs5[i]? = some t)) (fun D' hD' => ?_) ?_
      · walk_at "rd"
        refine draw_of (lim := 3) hA9 (by decide) fun r Ha _ _ sa hAa => ?_
        have ba := sb.trans sa
        have h3a := sa _ _ sl3.symm h3
        have h4a := sa _ _ sl4.symm h4
        have hma := sa _ _ ms.symm hm
        walk_at "rd"
        refine ite2 (fun h => ?_) (fun h => ?_)
        · walk_at "rd"
          have if5 : i < frs5.length := by show i < 5; omega
          refine ⟨_, _, _, _, rfl, rfl, sq h4a, by rw [Int.zero_add]; exact atI_nat (by rw [List.getElem?_map, List.getElem?_eq_getElem if5]; rfl), ?_⟩
          exact hD' (.str frs5[i]) Ha ⟨ba, hAa, h3a, h4a, hma, _, rfl, .inr (List.getElem?_eq_getElem if5)⟩
        · walk_at "rd"
          exact hD' (.str z0) Ha ⟨ba, hAa, h3a, h4a, hma, z0, rfl, .inl ht⟩
      rintro v Ha ⟨ba, hAa, h3a, h4a, hma, t, rfl, ht2⟩
      have hn := List.getElem?_eq_getElem hi'
      have hnaa := sqt_but hA ba hna
      generalize ns[i] = n at hn ⊢
      walk_at "rd"
      refine ⟨_, _, _, _, rfl, rfl, hnaa, by rw [Int.zero_add]; exact atI_nat (by rw [List.getElem?_map, hn]; rfl), ?_⟩
      walk_at "rd"
      have tgw2 : Tg tg (ws ++ [t]) := ⟨fun j w hw => by
        rcases Nat.lt_or_ge j ws.length with lt | ge
        · rw [List.getElem?_append_left lt] at hw
          exact tgw.a j w hw
        · rw [List.getElem?_append_right ge] at hw
          cases e : j - ws.length with
          | zero =>
            rw [e] at hw
            cases hw
            have ej : j = i := by omega
            rw [ej]
            exact ht2
          | succ k2 =>
            rw [e] at hw
            cases hw⟩
      have sn : ren (ns.take (i + 1)) (ws ++ [t]) = ren (ns.take i) ws ++ if t = n then [] else [(n, t)] := by
        rw [List.take_add_one, hn]
        exact ren_snoc _ _ _ _ (by rw [wl, List.length_take]; omega)
      have wl2 : (ws ++ [t]).length = i + 1 := by rw [List.length_append, wl]; rfl
      refine ite2 (fun h => ?_) (fun h => ?_)
      · have ne : t ≠ n := fun e => ne_t h (congrArg V.str e)
        rw [if_neg ne] at sn
        have nk : n ∉ (ren (ns.take i) ws).map (·.1) := fun q => nd_take ndn hn ((ren_keys _ _).subset q)
        have rl : (ren (ns.take i) ws).length ≤ 4 := by
          have z := (ren_keys (ns.take i) ws).length_le
          have := List.length_take_le' i ns
          rw [List.length_map] at z
          omega
        walk_at "rd"
        refine ⟨_, _, _, _, rfl, rfl, hnaa, by rw [Int.zero_add]; exact atI_nat (by rw [List.getElem?_map, hn]; rfl), ?_⟩
        walk_at "rd"
        refine ⟨m, _, rfl, DPut.k (k := .inr n) (v := .str t) hma (szl (by unfold tbV; rw [List.length_map]; omega)), ?_⟩
        rw [put_tb nk]
        refine ⟨_, _, ws ++ [t], rfl, but_at mf ba, src_upd hAa ms, ?_, ?_, ?_, wl2, tgw2⟩
        · rw [upd_ne m3.symm]
          exact h3a
        · rw [upd_ne m4.symm]
          exact h4a
        · rw [sn]
          exact upd_same
      · have e : t = n := V.str.inj (ne_f h)
        rw [if_pos e, List.append_nil] at sn
        walk_at "rd"
        exact ⟨_, _, ws ++ [t], rfl, ba, hAa, h3a, h4a, by rw [sn]; exact hma, wl2, tgw2⟩
    · rintro σ H9 ⟨o6, o7, ws, rfl, sb, hA9, h3, h4, hm, wl, tgw⟩
      walk_at "rd"
      have wl' : ws.length = ns.length := by omega
      rw [show ((ns.length : Nat) : Int).toNat = ns.length by omega, List.take_length] at hm
      exact q m _ H9 sb hA9 mf hm (tk2_of ndn pm nm.n5 nm.fr wl' tgw)
end
end K31
namespace K31
local macro_rules | `(tactic| walk_at "rd") => `(tactic| repeat (first | refine ⟨rfl, ?_⟩ | refine ⟨_, rfl, ?_⟩ | refine ⟨_, _, rfl, rfl, ?_⟩ | refine ⟨⟨_, rfl⟩, ?_⟩))
open PySem PySem.Spec PyProof.Rows L2 Bx TL Dx Zx Ow Sup NdefX Px T31 M31
/-! ### terms sorted -/
open PySem.W in
theorem tm_lt (x y : Tr5) : dataLt (tmD x) (tmD y) = if x.1 = y.1 then decide (x.2 < y.2) else decide (x.1.cps.toList < y.1.cps.toList) := by
  unfold tmD
  rw [dataLt_pair rfl rfl, dataLt_int, dataLt_str]
  have e1 : PyData.eqv (.str x.1) (.str y.1) = (x.1 == y.1) := rfl
  have e2 : PyData.eqv (.int x.2) (.int y.2) = (x.2 == y.2) := rfl
  rw [e1, e2]
  by_cases h : x.1 = y.1
  · rw [if_pos h, if_pos (beq_iff_eq.mpr h)]
    by_cases g : x.2 = y.2
    · rw [if_pos (beq_iff_eq.mpr g), g]
      simp
    · rw [if_neg (by simpa using g)]
  · rw [if_neg h, if_neg (by simpa using h)]
def tle (x y : Tr5) : Bool := So.dle (tmD x) (tmD y)
theorem tms_sorts (c : List Tr5) : (c.map tmD).mergeSort So.dle = (c.mergeSort tle).map tmD := (PySem.W.sort_maps (r := tle) (s := So.dle) tmD fun a _ b _ => rfl).symm
theorem tle_total : PySem.W.TotalLe tle := by
  have e : tle = PySem.W.dataLe false tmD := rfl
  rw [e]
  unfold PySem.W.dataLe
  exact PySem.W.sortLe_total _ _ _
theorem tle_eq (a b : Tr5) : tle a b = !PySem.W.dataLt (tmD b) (tmD a) := rfl
theorem str_of_cps {x y : Str} (h : x.cps.toList = y.cps.toList) : x = y := by
  cases x
  cases y
  congr 1
  exact Array.toList_inj.mp h
theorem srt_asc {c : List Tr5} (nd : (c.map (·.1)).Nodup) : Asc ((c.mergeSort tle).map (·.1)) := by
  have pm := List.mergeSort_perm c tle
  have nd2 : ((c.mergeSort tle).map (·.1)).Nodup := (pm.map (·.1)).nodup_iff.mpr nd
  have pw := PySem.W.sort_pairwise tle_total c
  unfold Asc
  refine List.pairwise_map.mpr ?_
  refine (List.pairwise_and_iff.mpr ⟨pw, List.pairwise_map.mp nd2⟩).imp fun {x y} h => ?_
  have h1 := h.1
  rw [tle_eq, tm_lt, if_neg fun e => h.2 e.symm] at h1
  have h2 : ¬ y.1.cps.toList < x.1.cps.toList := of_decide_eq_false (by simpa using h1)
  rcases Classical.em (x.1.cps.toList < y.1.cps.toList) with l | l
  · exact l
  · exact (h.2 (str_of_cps (List.le_antisymm (List.not_lt.mp h2) (List.not_lt.mp l)))).elim
theorem coef_nd {c : List Tr5} (nd : (c.map (·.1)).Nodup) : ∀ x ∈ c, coef c x.1 = x.2 := by
  induction c with
  | nil => exact fun x hx => nomatch hx
  | cons y c ih =>
    obtain ⟨n1, n2⟩ := List.nodup_cons.mp nd
    intro x hx
    rw [coef_cons]
    rcases List.mem_cons.mp hx with rfl | h
    · have z : coef c x.1 = 0 := by
        unfold coef
        rw [List.filter_eq_nil_iff.mpr fun w hw hd => n1 (List.mem_map.mpr ⟨w, hw, of_decide_eq_true hd⟩)]
        rfl
      rw [if_pos rfl, z]
      omega
    · rw [if_neg fun e => n1 (List.mem_map.mpr ⟨x, h, e.symm⟩), ih n2 x h]
      omega
/-- sorted terms with names of their own -/
theorem srt_tms {c : List Tr5} (nd : (c.map (·.1)).Nodup) (i5 : In5 c) (nz : ∀ x ∈ c, x.2 ≠ 0) : c.mergeSort tle = tms c := by
  have pm := List.mergeSort_perm c tle
  rw [← tms_of (srt_asc nd) (fun n => (pm.map (·.1)).mem_iff) i5, List.map_map]
  have e : (c.mergeSort tle).map ((fun n => (n, coef c n)) ∘ (·.1)) = c.mergeSort tle := by
    conv => rhs; rw [← List.map_id (c.mergeSort tle)]
    refine List.map_congr_left fun x hx => ?_
    show (x.1, coef c x.1) = x
    rw [coef_nd nd x (pm.mem_iff.mp hx)]
  rw [e]
  exact (List.filter_eq_self.mpr fun x hx => decide_eq_true (nz x (pm.mem_iff.mp hx))).symm
theorem tm_alike (l : List Tr5) : PySem.W.AllAlike (l.map tmD) := by
  intro d hd d' hd'
  obtain ⟨x, _, rfl⟩ := List.mem_map.mp hd
  obtain ⟨y, _, rfl⟩ := List.mem_map.mp hd'
  rfl
theorem sort_trs {K : PySem.W.Frag} {H : Hp} {a : Addr} {vs : List V} {c : List Tr5} {Q : VK} (ha : SqL K H a vs) (hd : DpAll K H vs (c.map tmD)) (hl : c.length ≤ 100000) (q : ∀ (ys : List V) (p : Addr), H p = none → DpAll K H ys ((c.mergeSort tle).map tmD) → Q (.ref p) (upd H p (.lst ys))) : Sd.rSortT K [.ref a] H Q := by
  refine ⟨a, vs, _, rfl, ha, hd, tm_alike c, fun d hd => ?_, by rw [List.length_map]; exact sz hl, fun d hd => ?_, fun ys p np dy => q ys p np ?_⟩
  · obtain ⟨c, _, rfl⟩ := List.mem_map.mp hd
    exact ⟨_, rfl⟩
  · obtain ⟨c, _, rfl⟩ := List.mem_map.mp hd
    have : (tmD c).depth = 1 := rfl
    omega
  · rwa [tms_sorts] at dy
/-- a constraint of the law under other names -/
theorem ren_tms {ns : List Str} {t : Tb} {c : Con} (nm : Nm ns) (lc : Lc ns c) (tk : Tk2 ns t) : (rnT t c.t).mergeSort tle = tms (rnT t c.t) := by
  have sub : ∀ x ∈ c.t, x.1 ∈ ns := fun x hx => lc.sub.subset (List.mem_map.mpr ⟨x, hx, rfl⟩)
  refine srt_tms ?_ (fun x hx => ?_) fun x hx => ?_
  · have e : (rnT t c.t).map (·.1) = (names c).map (rn t) := by
      unfold rnT names
      rw [List.map_map, List.map_map]
      rfl
    rw [e]
    exact List.Pairwise.sublist (lc.sub.map _) tk.nd
  · obtain ⟨y, hy, rfl⟩ := List.mem_map.mp hx
    exact tk.n5 y.1 (sub y hy)
  · obtain ⟨y, hy, rfl⟩ := List.mem_map.mp hx
    exact lc.nz y hy
end K31
namespace K31
local macro_rules | `(tactic| walk_at "rd") => `(tactic| repeat (first | refine ⟨rfl, ?_⟩ | refine ⟨_, rfl, ?_⟩ | refine ⟨_, _, rfl, rfl, ?_⟩ | refine ⟨⟨_, rfl⟩, ?_⟩))
open PySem PySem.Spec PyProof.Rows L2 Bx TL Dx Zx Ow Sup NdefX Px T31 M31
theorem Th.tk {K : PySem.W.Frag} {H H' : Hp} {T na ca : Addr} {xs : List V} {ns : List Str} {cs : List Con} (tk : Tk K H H') (h : Th K H T na ca xs ns cs) : Th K H' T na ca xs ns cs := ⟨tk _ _ h.t, tk _ _ h.n, tk _ _ h.c, da_tk tk _ _ (tup_cos cs) h.d⟩
theorem tup_trs (l : List Tr5) : tupAll (l.map tmD) = true := tup_tms l
theorem own_tb : ∀ {t : Tb}, (t.map (·.1)).Nodup → ∀ p ∈ tbV t, valV (tbV t) p.1 = some p.2 ∧ flatB p.2 = true
  | [], _, _, hp => nomatch hp
  | x :: l, nd, p, hp => by
    obtain ⟨n1, n2⟩ := List.nodup_cons.mp nd
    show valV (((.inr x.1 : Key), V.str x.2) :: tbV l) p.1 = _ ∧ _
    rcases List.mem_cons.mp hp with rfl | hp
    · exact ⟨valV_pos rfl, rfl⟩
    · have z := own_tb n2 p hp
      refine ⟨?_, z.2⟩
      rw [valV_neg fun e => n1 ?_]
      · exact z.1
      · obtain ⟨q, hq, rfl⟩ := List.mem_map.mp hp
        exact List.mem_map.mpr ⟨q, hq, (Sum.inr.inj e).symm⟩
theorem asc_of_perm {ys xs : List Str} (pm : ys.Perm xs) (st : sortedS ys = true) (nd : xs.Nodup) : Asc ys := asc_of st (pm.nodup_iff.mpr nd)
theorem eqOk_con {c : Con} (i5 : In5 c.t) (l : c.t.length ≤ 1000) (k : Nat) : eqOk (k + 3) (coD c) := by
  refine ⟨by show 3 ≤ 1000; decide, fun d hd => ?_⟩
  rcases List.mem_cons.mp hd with rfl | hd
  · refine ⟨by rw [List.length_map]; exact l, fun d hd => ?_⟩
    obtain ⟨x, hx, rfl⟩ := List.mem_map.mp hd
    refine ⟨by show 2 ≤ 1000; decide, fun d hd => ?_⟩
    rcases List.mem_cons.mp hd with rfl | hd
    · have z := n5_ok _ (i5 x hx)
      cases k <;> exact z
    · rw [List.mem_singleton.mp hd]
      cases k <;> trivial
  · rcases List.mem_cons.mp hd with rfl | hd
    · trivial
    · rw [List.mem_singleton.mp hd]
      trivial
section
variable {P : Program} {w : World} {K : PySem.W.Frag} {mg : Str → Option Value} {base : Heap}
@[irreducible] def spRR (K : PySem.W.Frag) : Sp := fun vs H Q _ => ∃ (s T na ca : Addr) (xs : List V) (ns : List Str) (cs : List Con), vs = [.ref s, .ref T] ∧ Src H s ∧ Th K H T na ca xs ns cs ∧ cs.length ≤ 4 ∧ Nm ns ∧ (∀ c ∈ cs, Lc ns c) ∧ ∀ H', SameBut s H H' → Q (.bl true) H'
set_option maxHeartbeats 2000000 in
theorem ok_rr {C : Addr} {f : Addr} {fd : FuncData} (F : Fun K "_law_renamed_right" "_law_renamed_right" s__law_renamed_right f fd) (m_dict : mg "dict" = none) (m_tuple : mg "tuple" = none) (m_sorted : mg "sorted" = none) (B_Wholes : Mk0.Bare K mg "Wholes" C) (M_rename : MthC P w K mg base C "rename" 6 ["self", "theory", "table"] (spWRen K)) (C__law_table : Cal P w K mg base "_law_table" 2 ["_law_source_here", "_law_names_here"] (spTable K)) (C__law_equal : Cal P w K mg base "_law_equal" 8 ["_law_actual", "_law_due"] (spEq K 6)) : FnOk P w K mg base CX0 9 f fd ["_law_source_here", "_law_theory"] (spRR K) := by
  refine F.ok sc__law_renamed_right (fun vs H Q E h => ?_) (fun cdv A outer s H vs Q E hr h => ?_)
  · unfold spRR at h
    obtain ⟨s, T, na, ca, xs, ns, cs, rfl, _⟩ := h
    rfl
  · unfold spRR at h
    obtain ⟨src, T, na, ca, xs, ns, cs, rfl, hA, th, cl, nm, lc, q⟩ := h
    have hu := hu_of hr
    have nl := nm.ln
    have xl : xs.length = cs.length := by rw [da_len th.d, List.length_map]
    refine ⟨_, (pss_cons (ps_set (i := 2) sc__law_renamed_right.nd rfl (Or.inr rfl) (pe_cal C__law_table (hr.mono (by decide)) (pa_cons (pv 0) (pa_cons (pe_ix ix_tup (pv 1) pe_int (fun _ _ => rfl)) pa_nil))))
    (pss_cons (ps_set (i := 3) sc__law_renamed_right.nd rfl (Or.inl rfl) (pe_callTy (T := "dict") call_dictD (by rfl) m_dict (by decide +kernel) (pa_cons (pv 2) pa_nil)))
    (pss_cons (ps_set (i := 4) sc__law_renamed_right.nd rfl (Or.inl rfl) (pe_callTy (T := "tuple") call_tuple_of (by rfl) m_tuple (by decide +kernel) (pa_cons (pe_callB (id := "sorted") cr_sortedS (by rfl) m_sorted (by decide +kernel) (pa_cons (pe_lc (own := [("_law_name", 9)]) (tt := tYes) rfl sc__law_renamed_right.nd (pi_tup (pe_ix ix_tup (pv 1) pe_int (fun _ _ => rfl))) (blkOk_by (N := n__law_renamed_right) (sc := defScope s__law_renamed_right) (by decide +kernel)) (fun _ _ _ _ _ => pg_name (i := 9) sc__law_renamed_right.nd rfl (Or.inl rfl)) (fun _ _ _ _ _ => pts_nil) (fun _ _ _ _ _ => (pe_dget2 hu (pv 2) (pv 9) (pv 9) ⟨rfl, rfl, rfl, rfl⟩))) pa_nil)) pa_nil)))
    (pss_cons (ps_set (i := 5) sc__law_renamed_right.nd rfl (Or.inl rfl) (pe_lst pa_nil))
    (pss_cons (ps_for PassesOwn.never rfl (pi_tup (pe_ix ix_tup (pv 1) pe_int (fun _ _ => rfl))) (pg_name (i := 6) sc__law_renamed_right.nd rfl (Or.inl rfl))
      (pss_cons (ps_set (i := 8) sc__law_renamed_right.nd rfl (Or.inl rfl) (pe_callB (id := "sorted") (Sd.cr_sortT (room hr)) (by rfl) m_sorted (by decide +kernel) (pa_cons (pe_lc (own := [("_law_pair", 10)]) (tt := tYes) rfl sc__law_renamed_right.nd (pi_tup (pe_ix ix_tup (pv 6) pe_int (fun _ _ => rfl))) (blkOk_by (N := n__law_renamed_right) (sc := defScope s__law_renamed_right) (by decide +kernel)) (fun _ _ _ _ _ => pg_name (i := 10) sc__law_renamed_right.nd rfl (Or.inl rfl)) (fun _ _ _ _ _ => pts_nil) (fun _ _ _ _ _ => (pe_tup (pa_cons (pe_dget2 hu (pv 2) (pe_ix (ix_tupK (K := K) rfl) (pv 10) pe_int (fun _ _ => rfl)) (pe_ix (ix_tupK (K := K) rfl) (pv 10) pe_int (fun _ _ => rfl)) ⟨rfl, rfl, rfl, rfl⟩) (pa_cons (pe_ix (ix_tupK (K := K) rfl) (pv 10) pe_int (fun _ _ => rfl)) pa_nil))))) pa_nil)))
    (pss_one (ps_expr (pe_bm PySem.F.plainAttrs_list PySem.F.slot_list_append PySem.F.type_list_append mt_append (pv 5) (pa_cons (pe_tup (pa_cons (pe_callTy (T := "tuple") call_tuple_of (by rfl) m_tuple (by decide +kernel) (pa_cons (pv 8) pa_nil)) (pa_cons (pe_ix ix_tup (pv 6) pe_int (fun _ _ => rfl)) (pa_cons (pe_ix ix_tup (pv 6) pe_int (fun _ _ => rfl)) pa_nil)))) pa_nil))))))
    (pss_cons (ps_set (i := 7) sc__law_renamed_right.nd rfl (Or.inl rfl) (pe_mth M_rename (hr.mono (by decide)) (Mk0.pe_bare B_Wholes) (pa_cons (pv 1) (pa_cons (pv 3) pa_nil)) (ht := mcall_of (abase_call (by decide +kernel)) (fun _ => rfl))))
    (pss_one (ps_ret (pe_and (pe_cal C__law_equal (hr.mono (by decide)) (pa_cons (pv 7) (pa_cons (pe_tup (pa_cons (pv 4) (pa_cons (pe_callTy (T := "tuple") call_tuple_of (by rfl) m_tuple (by decide +kernel) (pa_cons (pv 5) pa_nil)) pa_nil))) pa_nil))) (pe_one (pe_cmpR (op_eq_dictA (Nat.lt_of_le_of_lt (Nat.le_add_right _ _) hr.units)) (pv 3) (pv 2) (nomark _)))))))))))), ?_⟩
    walk_at "rd"
    refine ⟨_, _, _, _, rfl, rfl, th.t, atI_nat (j := 0) rfl, ?_⟩
    show spTable K _ _ _ _
    unfold spTable
    refine ⟨src, na, ns, rfl, hA, th.n, nm, fun d t H1 s1 hA1 nd0 hd tk => ?_⟩
    have th1 := th.tk (tk_but (K := K) hA s1)
    walk_at "rd"
    refine ⟨d, _, rfl, .inl hd, fun e ne1 => ?_⟩
    have u2 := same_new ne1 (o := .dK (tbV t))
    have he := upd_same (H := H1) (a := e) (o := .dK (tbV t))
    generalize upd H1 e (.dK (tbV t)) = H2 at u2 he ⊢
    have hd2 := u2 _ _ hd
    have th2 := th1.same u2
    walk_at "rd"
    refine ⟨_, _, _, _, rfl, rfl, th2.t, atI_nat (j := 0) rfl, ?_⟩
    refine ⟨na, rfl, ⟨_, th2.n⟩, fun D hD => ?_⟩
    refine lc_it walk_tup (fun i H' => Same H2 H' ∧ H' D = some (.lst (((ns.take i).map (rn t)).map V.str))) ⟨same_new hD, upd_same⟩ (fun i H' _ h => Bx.Same.tup h.1 th2.n) ?_ ?_
    · rintro i v H2a H3 hi ⟨s3, hM⟩ ⟨rfl, hx⟩
      obtain ⟨z, hz, rfl⟩ := at_map hx
      refine ⟨rfl, ?_⟩
      walk_at "rd"
      refine ⟨.inl ⟨_, .inl (s3 _ _ hd2)⟩, ?_⟩
      walk_at "rd"
      refine ⟨_, DGet.k (k := .inr z) (s3 _ _ hd2), ?_⟩
      rw [val_tb]
      refine ⟨_, hM, ?_, ?_, ?_⟩
      · rw [List.length_map, List.length_map]
        exact szl (Nat.lt_of_le_of_lt (List.length_take_le' i ns) (by omega))
      · exact same_at hD s3
      · rw [upd_same, List.take_add_one, hz, List.map_append, List.map_append]
        rfl
    rintro H3 ⟨s3, hM⟩
    rw [List.length_map, List.take_length] at hM
    walk_at "rd"
    refine ⟨D, _, rfl, sq hM, by rw [List.length_map]; omega, fun ys p pm st np => ?_⟩
    have u4 := same_new np (o := .lst (ys.map V.str))
    have hp4 := upd_same (H := H3) (a := p) (o := .lst (ys.map V.str))
    generalize upd H3 p (.lst (ys.map V.str)) = H4 at u4 hp4 ⊢
    walk_at "rd"
    refine ⟨p, _, rfl, .inl ⟨sq hp4, fun nt nnt => ?_⟩⟩
    have u5 := same_new nnt (o := .tup (ys.map V.str))
    have hnt := upd_same (H := H4) (a := nt) (o := .tup (ys.map V.str))
    generalize upd H4 nt (.tup (ys.map V.str)) = H5 at u5 hnt ⊢
    have hys : Asc ys := asc_of_perm pm st tk.nd
    have s25 := s3.trans (u4.trans u5)
    have th5 := th2.same s25
    have hd5 := s25 _ _ hd2
    have he5 := s25 _ _ he
    walk_at "rd"
    refine ⟨sz (by show 0 ≤ 100000; decide), fun N nN => ?_⟩
    have u6 := same_new nN (o := .lst ([] : List V))
    have hN := upd_same (H := H5) (a := N) (o := .lst ([] : List V))
    generalize upd H5 N (.lst []) = H6 at u6 hN ⊢
    walk_at "rd"
    refine ⟨_, _, _, _, rfl, rfl, Bx.Same.tup u6 th5.t, atI_nat (j := 1) rfl, ?_⟩
    refine ⟨ca, rfl, ⟨_, Bx.Same.tup u6 th5.c⟩, for_it walk_tup (fun i σ H' => ∃ (o6 o8 : Option V), σ = [some (.ref src), some (.ref T), some (.ref d), some (.ref e), some (.ref nt), some (.ref N), o6, none, o8, none, none] ∧ Same H5 H' ∧ ∃ us, H' N = some (.lst us) ∧ DpAll K (mn H' [N]) us (((cs.take i).map (renC t)).map coD))
      ⟨none, none, rfl, u6, [], hN, .nil⟩ (fun _ _ _ _ ⟨_, _, _, s, _⟩ => Bx.Same.tup s th5.c) ?_ ?_⟩
    · rintro i x σ Ha H7 hi ⟨o6, o8, rfl, s7, us, hM, hda⟩ ⟨rfl, hx⟩
      obtain ⟨c, hc, dc⟩ := da_co (dpAll_same s7 th5.d) hx
      obtain ⟨p', b, zs, rfl, hp', hb, hz⟩ := co_dp dc
      have cin := List.mem_of_getElem? hc
      have lcc := lc c cin
      have tl := lcc.ok.ln
      have zl : zs.length = c.t.length := by rw [da_len hz, List.length_map]
      have hd7 := s7 _ _ hd5
      walk_at "rd"
      refine ⟨_, _, _, _, rfl, rfl, hp', atI_nat (j := 0) rfl, ?_⟩
      refine ⟨b, rfl, ⟨_, hb⟩, fun D2 hD2 => ?_⟩
      refine lc_it walk_tup (fun j H' => Same H7 H' ∧ ∃ ws, H' D2 = some (.lst ws) ∧ DpAll K (mn H' [D2]) ws ((rnT t (c.t.take j)).map tmD)) ⟨same_new hD2, [], upd_same, .nil⟩ (fun j H' _ h => Bx.Same.tup h.1 hb) ?_ ?_
      · rintro j x Hb H8 hj ⟨s8, ws, hW, hdw⟩ ⟨rfl, hx2⟩
        obtain ⟨y, hy, ya, rfl, hya⟩ := tm_at (dpAll_same s8 hz) hx2
        refine ⟨rfl, ?_⟩
        walk_at "rd"
        refine ⟨.inl ⟨_, .inl (s8 _ _ hd7)⟩, ?_⟩
        walk_at "rd"
        refine ⟨_, _, _, _, rfl, rfl, hya, atI_nat (j := 0) rfl, ?_⟩
        walk_at "rd"
        refine ⟨_, _, _, _, rfl, rfl, hya, atI_nat (j := 0) rfl, ?_⟩
        walk_at "rd"
        refine ⟨_, DGet.k (k := .inr y.1) (s8 _ _ hd7), ?_⟩
        rw [val_tb]
        walk_at "rd"
        refine ⟨_, _, _, _, rfl, rfl, hya, atI_nat (j := 1) rfl, ?_⟩
        walk_at "rd"
        refine ⟨sz (by show 2 ≤ 100000; decide), fun E nE => ?_⟩
        have u9 := same_new nE (o := .tup [V.str (rn t y.1), .int y.2])
        have hE := upd_same (H := H8) (a := E) (o := .tup [V.str (rn t y.1), .int y.2])
        have hW9 := u9 _ _ hW
        have dE : Dp K (upd H8 E (.tup [V.str (rn t y.1), .int y.2])) (.ref E) (tmD (rn t y.1, y.2)) := tm_dp (x := (rn t y.1, y.2)) (sqt hE)
        generalize upd H8 E (.tup [V.str (rn t y.1), .int y.2]) = H9 at u9 hW9 dE ⊢
        have wl : ws.length ≤ 10 := by
          rw [da_len hdw, List.length_map]
          unfold rnT
          rw [List.length_map]
          exact Nat.le_trans (List.length_take_le' j c.t) tl
        refine ⟨ws, hW9, szl (by omega), same_at hD2 (s8.trans u9), ws ++ [.ref E], upd_same, ?_⟩
        unfold rnT at hdw ⊢
        rw [mn_upd (by simp), List.take_add_one, hy, List.map_append, List.map_append]
        exact da_app (dpAll_same (mn_all u9) hdw) (da_one (dp_tk (tk_mn (Same.refl H9) hW9) _ _ rfl dE))
      rintro H8 ⟨s8, ws, hW, hdw⟩
      rw [zl, List.take_length] at hdw
      have hdw2 := dpAll_same (mn_same (H := H8) (S := [D2])) hdw
      walk_at "rd"
      unfold tNil
      dsimp only
      refine sort_trs (sq hW) hdw2 (by unfold rnT; rw [List.length_map]; omega) fun vs v nv hvs => ?_
      rw [ren_tms nm lcc tk] at hvs
      have u9 := same_new nv (o := .lst vs)
      have hv := upd_same (H := H8) (a := v) (o := .lst vs)
      have hvs9 := dpAll_same u9 hvs
      generalize upd H8 v (.lst vs) = H9 at u9 hv hvs9 ⊢
      walk_at "rd"
      refine ⟨.inl ⟨rfl, _, sq (u9 _ _ (s8 _ _ hM))⟩, ?_⟩
      walk_at "rd"
      refine ⟨v, vs, rfl, .inl ⟨sq hv, fun g ng => ?_⟩⟩
      have u10 := same_new ng (o := .tup vs)
      have hg := upd_same (H := H9) (a := g) (o := .tup vs)
      have hvs10 := dpAll_same u10 hvs9
      generalize upd H9 g (.tup vs) = H10 at u10 hg hvs10 ⊢
      have s710 := s8.trans (u9.trans u10)
      walk_at "rd"
      refine ⟨_, _, _, _, rfl, rfl, Bx.Same.tup s710 hp', atI_nat (j := 1) rfl, ?_⟩
      walk_at "rd"
      refine ⟨_, _, _, _, rfl, rfl, Bx.Same.tup s710 hp', atI_nat (j := 2) rfl, ?_⟩
      walk_at "rd"
      refine ⟨sz (by show 3 ≤ 100000; decide), fun M nM => ?_⟩
      have u11 := same_new nM (o := .tup [V.ref g, .int c.m, .int c.r])
      have hMM := upd_same (H := H10) (a := M) (o := .tup [V.ref g, .int c.m, .int c.r])
      have s711 := s710.trans u11
      have hM11 := s711 _ _ hM
      have dM : Dp K (upd H10 M (.tup [V.ref g, .int c.m, .int c.r])) (.ref M) (coD (renC t c)) := dp_co (c := renC t c) (sqt hMM) (sqt (u11 _ _ hg)) (dpAll_same u11 hvs10)
      generalize upd H10 M (.tup [V.ref g, .int c.m, .int c.r]) = H11 at u11 s711 hM11 dM ⊢
      have ul : us.length ≤ 4 := by
        rw [da_len hda, List.length_map, List.length_map]
        exact Nat.le_trans (List.length_take_le' i cs) cl
      refine ⟨N, us, _, rfl, rfl, hM11, szl (by omega), ?_⟩
      refine ⟨_, _, rfl, same_at nN (s7.trans s711), us ++ [.ref M], upd_same, ?_⟩
      rw [mn_upd (by simp), List.take_add_one, hc, List.map_append, List.map_append]
      exact da_app (dpAll_same (mn_all s711) hda) (da_one (dp_tk (tk_mn (Same.refl H11) hM11) _ _ (tup_co _) dM))
    · rintro σ H7 ⟨o6, o8, rfl, s7, us, hM, hda⟩
      rw [xl, List.take_length] at hda
      have hda2 := dpAll_same (mn_same (H := H7) (S := [N])) hda
      have th7 := th5.same s7
      walk_at "rd"
      refine fun k dk nk nd ne => ?_
      obtain ⟨u8, hk⟩ := bare_new (C := C) nk nd ne
      generalize upd (upd H7 dk (.own k)) k (.ins C dk []) = H8 at u8 hk ⊢
      refine ⟨k, dk, [], rfl, hk, rfl, ?_⟩
      walk_at "rd"
      show spWRen K _ _ _ _
      unfold spWRen
      refine ⟨k, T, na, ca, e, xs, ns, cs, t, rfl, th7.same u8, by omega, by omega, fun c hc => ⟨(lc c hc).ok, fun x hx => tk.n5 _ ((lc c hc).sub.subset (List.mem_map.mpr ⟨x, hx, rfl⟩))⟩, u8 _ _ (s7 _ _ he5), fun R ap ar zs us2 H9 s9 hR hap st2 nd2 mem har du2 => ?_⟩
      have ezs : zs = ys := asc_eq (asc_of st2 nd2) hys fun x => by rw [mem x]; exact pm.symm.mem_iff
      subst ezs
      have s79 := u8.trans s9
      have s59 := s7.trans s79
      walk_at "rd"
      refine ⟨N, us, rfl, .inl ⟨sq (s79 _ _ hM), fun g ng => ?_⟩⟩
      have u10 := same_new ng (o := .tup us)
      have hg := upd_same (H := H9) (a := g) (o := .tup us)
      generalize upd H9 g (.tup us) = H10 at u10 hg ⊢
      walk_at "rd"
      refine ⟨sz (by show 2 ≤ 100000; decide), fun M nM => ?_⟩
      have u11 := same_new nM (o := .tup [V.ref nt, .ref g])
      have hMM := upd_same (H := H10) (a := M) (o := .tup [V.ref nt, .ref g])
      generalize upd H10 M (.tup [V.ref nt, .ref g]) = H11 at u11 hMM ⊢
      have s911 := u10.trans u11
      have s511 := s59.trans s911
      have y4 : zs.length ≤ 4 := by rw [pm.length_eq, List.length_map]; omega
      have y5 : ∀ z ∈ zs, PyData.strOk z = true := fun z hz => by
        obtain ⟨n, hn, rfl⟩ := List.mem_map.mp (pm.subset hz)
        exact n5_ok _ (tk.n5 n hn)
      refine ⟨.ref R, .ref M, .tuple [.tuple (zs.map PyData.str), .tuple ((cs.map (renC t)).map coD)], rfl, .tup (Bx.Same.tup s911 hR) (.cons (names_dp (Bx.Same.tup s911 hap)) (da_one (.tup (Bx.Same.tup s911 har) (dpAll_same s911 du2)))), .tup (sqt hMM) (.cons (names_dp (sqt (s511 _ _ hnt))) (da_one (.tup (sqt (u11 _ _ hg)) (dpAll_same (s79.trans s911) hda2)))), ?_, fun H12 s12 => ?_⟩
      · refine ⟨by show 2 ≤ 1000; decide, fun d hd => ?_⟩
        rcases List.mem_cons.mp hd with rfl | hd
        · exact eqOk_strs y5 (by omega) 3
        · rw [List.mem_singleton.mp hd]
          refine ⟨by rw [List.length_map, List.length_map]; omega, fun d hd => ?_⟩
          obtain ⟨c2, hc2, rfl⟩ := List.mem_map.mp hd
          obtain ⟨c3, hc3, rfl⟩ := List.mem_map.mp hc2
          exact eqOk_con (in5_tms _) (Nat.le_trans (tms_len _) (by decide)) 0
      · have s512 := s511.trans s12
        walk_at "rd"
        refine ⟨e, d, tbV t, tbV t, rfl, rfl, s512 _ _ he5, s512 _ _ hd5, rfl, own_tb tk.k, ?_⟩
        exact q _ (s1.trans (Bx.Same.but (u2.trans (s25.trans s512))))
end
end K31
namespace K31
local macro_rules | `(tactic| walk_at "rd") => `(tactic| repeat (first | refine ⟨rfl, ?_⟩ | refine ⟨_, rfl, ?_⟩ | refine ⟨_, _, rfl, rfl, ?_⟩ | refine ⟨⟨_, rfl⟩, ?_⟩))
open PySem PySem.Spec PyProof.Rows L2 Bx TL Dx Zx Ow Sup NdefX Px T31 M31
theorem pe_mth0 {X : Cx} {C : Addr} {k : Nat} {ps : List Str} {sp : Sp} {m : Str} {o : Expr} {to : TE} {apos pos : Pos} {pl : Sem Bool} (c : MthC X.prog X.w X.K X.mg X.base C m k ps sp) (hr : Room k X.A) (ho : PE X o to)
    (ht : eval (.Call (.Attribute o m apos) [] [] pos) X.env = (do
      let ov ← eval o X.env
      standAt apos.atName
      let (f, first) ← holding [ov] (getMethod ov m pl)
      callWith pos f first (backTo pos (starEach [] X.env)) (backToKw pos (keywordEach [] X.env))) := by rfl) : PE X (.Call (.Attribute o m apos) [] [] pos) (tMeth C m sp [] E0 to tNil) := by
  obtain ⟨f, fd, cl, mt, ok, b⟩ := c.ex
  exact pe_meth0 (E := E0) ho cl mt ok hr b .nil pass0 ht
section
variable {P : Program} {w : World} {K : PySem.W.Frag} {mg : Str → Option Value} {base : Heap}
theorem dk_but {H H' : Hp} {s d : Addr} {kvs : List (Key × V)} (hs : Src H s) (sb : SameBut s H H') (h : H d = some (.dK kvs)) : H' d = some (.dK kvs) := by
  obtain ⟨n, c, hs⟩ := hs
  exact sb _ _ (fun e => by rw [e, hs] at h; cases h) h
def spLaw (K : PySem.W.Frag) : Sp := fun vs H Q _ => ∃ (a : Addr) (ns : List Int), vs = [.ref a] ∧ SqL K H a (ns.map V.int) ∧ ns.length ≤ 63 ∧ ∀ H', Q (.bl true) H'
set_option maxHeartbeats 4000000 in
theorem ok_law {C : Addr} {mc uW : Value} {f : Addr} {fd : FuncData} (F : Fun K "law" "law" s_law f fd) (m_range : mg "range" = none) (m_tuple : mg "tuple" = none) (m_dict : mg "dict" = none) (B_Wholes : Mk0.Bare K mg "Wholes" C) (g_Wholes : mg "Wholes" = some (.ref C)) (rdW : ClX.CRead K C mc) (cvW : ClX.CVal K C mc "WORD" (.str (Str.ofString "wholes")) uW)
    (M_contradiction : MthC P w K mg base C "contradiction" 1 ["self"] (spContr K)) (M_pin : MthC P w K mg base C "pin" 1 ["self", "names", "assignment"] (spPin K))
    (C__law_source : Cal P w K mg base "_law_source" 1 ["_law_script", "_law_k"] (spSource K)) (C__law_draw : CDraw P w K mg base) (C__law_names : Cal P w K mg base "_law_names" 2 ["_law_source_here", "_law_count"] (spNames K)) (C__law_values : Cal P w K mg base "_law_values" 2 ["_law_source_here", "_law_names_here"] (spVals K)) (C__law_constraint : Cal P w K mg base "_law_constraint" 3 ["_law_source_here", "_law_names_here", "_law_values_here"] (spCons K))
    (C__law_judged_right : Cal P w K mg base "_law_judged_right" 9 ["_law_source_here", "_law_names_here", "_law_constraint_here"] (spJudged K)) (C__law_holds_right : Cal P w K mg base "_law_holds_right" 5 ["_law_source_here", "_law_names_here", "_law_constraint_here", "_law_values_here"] (spHR K)) (C__law_renamed_right : Cal P w K mg base "_law_renamed_right" 9 ["_law_source_here", "_law_theory"] (spRR K)) (C__law_ground_right : Cal P w K mg base "_law_ground_right" 7 ["_law_theory"] (spGR K)) (C__law_equal : Cal P w K mg base "_law_equal" 8 ["_law_actual", "_law_due"] (spEq K 6)) (C__law_lift_right : Cal P w K mg base "_law_lift_right" 7 ["_law_theory", "_law_name", "_law_values_here"] (spLR K)) : FnOk P w K mg base CX0 10 f fd ["_law_script"] (spLaw K) := by
  refine F.ok sc_law (fun vs H Q E h => ?_) (fun cdv A outer s H vs Q E hr h => ?_)
  · unfold spLaw at h
    obtain ⟨a, ns, rfl, _⟩ := h
    rfl
  · unfold spLaw at h
    obtain ⟨sa, sc, rfl, hs, hsl, q⟩ := h
    have hu := hu_of hr
    refine ⟨_, (pss_cons (ps_set (i := 1) sc_law.nd rfl (Or.inr rfl) (pe_cal C__law_source (hr.mono (by decide)) (pa_cons (pv 0) (pa_cons pe_int pa_nil))))
    (pss_cons (ps_set (i := 2) sc_law.nd rfl (Or.inr rfl) (pe_cal C__law_names (hr.mono (by decide)) (pa_cons (pv 1) (pa_cons (pe_ix ix_list (pe_lst (pa_cons pe_int (pa_cons pe_int (pa_cons pe_int (pa_cons pe_int (pa_cons pe_int (pa_cons pe_int (pa_cons pe_int (pa_cons pe_int (pa_cons pe_int (pa_cons pe_int pa_nil))))))))))) (pe_cal C__law_draw (hr.mono (by decide)) (pa_cons (pv 1) (pa_cons pe_int pa_nil))) (fun _ _ => rfl)) pa_nil))))
    (pss_cons (ps_set (i := 3) sc_law.nd rfl (Or.inr rfl) (pe_cal C__law_values (hr.mono (by decide)) (pa_cons (pe_cal C__law_source (hr.mono (by decide)) (pa_cons (pv 0) (pa_cons pe_int pa_nil))) (pa_cons (pv 2) pa_nil))))
    (pss_cons (ps_set (i := 1) sc_law.nd rfl (Or.inr rfl) (pe_cal C__law_source (hr.mono (by decide)) (pa_cons (pv 0) (pa_cons pe_int pa_nil))))
    (pss_cons (ps_setLc (i := 4) (own := [("_law_k", 12)]) (tt := tYes) rfl sc_law.nd rfl rfl (sw_true rfl rfl rfl (by decide +kernel)) (pi_range1 (by rfl) m_range (pa_cons (pe_cal C__law_draw (hr.mono (by decide)) (pa_cons (pv 1) (pa_cons pe_int pa_nil))) pa_nil)) (blkOk_by (N := n_law) (sc := defScope s_law) (by decide +kernel)) (fun _ _ _ _ _ => pg_name (i := 12) sc_law.nd rfl (Or.inl rfl)) (fun _ _ _ _ _ => pts_nil) (fun _ _ _ _ _ => (pe_cal C__law_constraint (hr.mono (by decide)) (pa_cons (pv 1) (pa_cons (pv 2) (pa_cons (pv 3) pa_nil))))))
    (pss_cons (ps_set (i := 5) sc_law.nd rfl (Or.inl rfl) (pe_tup (pa_cons (pv 2) (pa_cons (pe_callTy (T := "tuple") call_tuple_of (by rfl) m_tuple (by decide +kernel) (pa_cons (pv 4) pa_nil)) pa_nil))))
    (pss_cons (ps_set (i := 1) sc_law.nd rfl (Or.inr rfl) (pe_cal C__law_source (hr.mono (by decide)) (pa_cons (pv 0) (pa_cons pe_int pa_nil))))
    (pss_cons (ps_set (i := 6) sc_law.nd rfl (Or.inl rfl) (pe_cal C__law_constraint (hr.mono (by decide)) (pa_cons (pv 1) (pa_cons (pv 2) (pa_cons (pv 3) pa_nil)))))
    (pss_cons (ps_if (PW.pt (pw_or (pt_not (pt_val (pe_cal C__law_judged_right (hr.mono (by decide)) (pa_cons (pv 1) (pa_cons (pv 2) (pa_cons (pv 6) pa_nil)))))) (pw_or1 (pt_not (pt_val (pe_cal C__law_holds_right (hr.mono (by decide)) (pa_cons (pv 1) (pa_cons (pv 2) (pa_cons (pv 6) (pa_cons (pv 3) pa_nil))))))))))
      (pss_one (ps_ret pe_bl))
      pss_nil)
    (pss_cons (ps_for PassesOwn.never rfl (pi_list (pv 4)) (pg_name (i := 7) sc_law.nd rfl (Or.inl rfl))
      (pss_cons (ps_if (pt_not (pt_val (pe_cal C__law_judged_right (hr.mono (by decide)) (pa_cons (pv 1) (pa_cons (pv 2) (pa_cons (pv 7) pa_nil))))))
      (pss_one (ps_ret pe_bl))
      pss_nil)
    (pss_one (ps_if (pt_not (pt_val (pe_cal C__law_holds_right (hr.mono (by decide)) (pa_cons (pv 1) (pa_cons (pv 2) (pa_cons (pv 7) (pa_cons (pv 3) pa_nil)))))))
      (pss_one (ps_ret pe_bl))
      pss_nil))))
    (pss_cons (ps_if (PW.pt (pw_or (pt_not (pt_val (pe_cal C__law_renamed_right (hr.mono (by decide)) (pa_cons (pe_cal C__law_source (hr.mono (by decide)) (pa_cons (pv 0) (pa_cons pe_int pa_nil))) (pa_cons (pv 5) pa_nil))))) (pw_or1 (pt_not (pt_val (pe_cal C__law_ground_right (hr.mono (by decide)) (pa_cons (pv 5) pa_nil)))))))
      (pss_one (ps_ret pe_bl))
      pss_nil)
    (pss_cons (ps_set (i := 8) sc_law.nd rfl (Or.inl rfl) (Mk0.pe_bare B_Wholes))
    (pss_cons (ps_if (PW.pt (pw_or (pt_cmpR op_ne (ClX.pe_cval (pe_glob (v := .ref C) rfl g_Wholes rfl)) pe_str (nomark _)) (pw_or1 (pt_not (pt_val (pe_cal C__law_equal (hr.mono (by decide)) (pa_cons (pe_mth0 M_contradiction (hr.mono (by decide)) (pv 8)) (pa_cons (pe_tup (pa_cons (pe_tup pa_nil) (pa_cons pe_int (pa_cons pe_int pa_nil)))) pa_nil))))))))
      (pss_one (ps_ret pe_bl))
      pss_nil)
    (pss_cons (ps_set (i := 9) sc_law.nd rfl (Or.inl rfl) (pe_callTy (T := "dict") call_dictD (by rfl) m_dict (by decide +kernel) (pa_cons (pv 3) pa_nil)))
    (pss_cons (ps_set (i := 10) sc_law.nd rfl (Or.inl rfl) (pe_callTy (T := "tuple") call_tuple_of (by rfl) m_tuple (by decide +kernel) (pa_cons (pe_lc (own := [("_law_name", 11)]) (tt := tYes) rfl sc_law.nd (pi_tup (pv 2)) (blkOk_by (N := n_law) (sc := defScope s_law) (by decide +kernel)) (fun _ _ _ _ _ => pg_name (i := 11) sc_law.nd rfl (Or.inl rfl)) (fun _ _ _ _ _ => pts_nil) (fun _ _ _ _ _ => (pe_tup (pa_cons (pe_tup (pa_cons (pe_tup (pa_cons (pv 11) (pa_cons pe_int pa_nil))) pa_nil)) (pa_cons pe_int (pa_cons (pe_dget hu (pv 3) (pv 11) (fun _ _ => rfl)) pa_nil)))))) pa_nil)))
    (pss_cons (ps_if (PW.pt (pw_or (pt_not (pt_val (pe_cal C__law_equal (hr.mono (by decide)) (pa_cons (pe_mth M_pin (hr.mono (by decide)) (pv 8) (pa_cons (pv 2) (pa_cons (pv 9) pa_nil))) (pa_cons (pe_tup (pa_cons (pv 2) (pa_cons (pv 10) pa_nil))) pa_nil))))) (pw_or1 (pt_cmpR (op_ne_dictA (Nat.lt_of_le_of_lt (Nat.le_add_right _ _) hr.units)) (pv 9) (pv 3) (nomark _)))))
      (pss_one (ps_ret pe_bl))
      pss_nil)
    (pss_cons (ps_for PassesOwn.never rfl (pi_tup (pv 2)) (pg_name (i := 11) sc_law.nd rfl (Or.inl rfl))
      (pss_one (ps_if (pt_not (pt_val (pe_cal C__law_lift_right (hr.mono (by decide)) (pa_cons (pv 5) (pa_cons (pv 11) (pa_cons (pv 3) pa_nil))))))
      (pss_one (ps_ret pe_bl))
      pss_nil)))
    (pss_one (ps_ret pe_bl))))))))))))))))))), ?_⟩
    walk_at "rd"
    refine ⟨sa, sc, 0, rfl, hs, by decide, fun s0 n0 c0 ns0 => ?_⟩
    have u0 := same_new ns0 (o := .lst [.int n0, .int c0])
    have hA0 : Src (upd H s0 (.lst [.int n0, .int c0])) s0 := ⟨n0, c0, upd_same⟩
    generalize upd H s0 (.lst [.int n0, .int c0]) = H1 at u0 hA0 ⊢
    walk_at "rd"
    refine ⟨sz (by show 10 ≤ 100000; decide), fun L nL => ?_⟩
    have nLs := src_ne hA0 nL
    have u1 := same_new nL (o := .lst ([2, 3, 1, 4, 2, 3, 2, 4, 0, 3].map V.int))
    have hL := upd_same (H := H1) (a := L) (o := .lst ([2, 3, 1, 4, 2, 3, 2, 4, 0, 3].map V.int))
    have hA1 := src_same hA0 u1
    generalize hu2 : upd H1 L (.lst ([2, 3, 1, 4, 2, 3, 2, 4, 0, 3].map V.int)) = H2 at u1 hL hA1
    have hu2' : upd H1 L (.lst [V.int 2, V.int 3, V.int 1, V.int 4, V.int 2, V.int 3, V.int 2, V.int 4, V.int 0, V.int 3]) = H2 := hu2
    rw [hu2']
    walk_at "rd"
    refine draw_of (lim := 10) hA1 (by decide) fun r4 H3 h2 h3 b3 hA3 => ?_
    have hL3 := b3 _ _ nLs.symm hL
    obtain ⟨m, rfl⟩ := Int.eq_ofNat_of_zero_le h2
    have hm4 : m < [(2 : Int), 3, 1, 4, 2, 3, 2, 4, 0, 3].length := by
      show m < 10
      omega
    refine ⟨_, _, _, _, rfl, rfl, sq hL3, int_at (k := m) hm4, ?_⟩
    have he : [(2 : Int), 3, 1, 4, 2, 3, 2, 4, 0, 3][m] ≤ 4 := by
      have a : ∀ x ∈ [(2 : Int), 3, 1, 4, 2, 3, 2, 4, 0, 3], x ≤ 4 := by decide
      exact a _ (List.getElem_mem hm4)
    generalize [(2 : Int), 3, 1, 4, 2, 3, 2, 4, 0, 3][m] = R at he ⊢
    show spNames K _ _ _ _
    unfold spNames
    refine ⟨s0, R, rfl, hA3, he, fun na ns H4 b4 hA4 hna nm => ?_⟩
    have u04 : Same H H4 := Bx.SameBut.same (u0.trans u1) ns0 (b3.trans b4)
    clear u0 u1 b3 b4 hL hL3 hA0 hA1 hA3 hA4 hu2 hu2' hm4 h3 ns0 nL nLs
    have nl := nm.ln
    have ndn := asc_nodup nm.asc
    walk_at "rd"
    refine ⟨sa, sc, 1, rfl, Same.seq u04 hs, by decide, fun s1 n1 c1 ns1 => ?_⟩
    have u5 := same_new ns1 (o := .lst [.int n1, .int c1])
    have hA5 : Src (upd H4 s1 (.lst [.int n1, .int c1])) s1 := ⟨n1, c1, upd_same⟩
    generalize upd H4 s1 (.lst [.int n1, .int c1]) = H5 at u5 hA5 ⊢
    walk_at "rd"
    show spVals K _ _ _ _
    unfold spVals
    refine ⟨s1, na, ns, rfl, hA5, Bx.Same.tup u5 hna, by omega, ndn, fun d l H6 b6 hA6 nd0 hd lk lb => ?_⟩
    have u46 : Same H4 H6 := Bx.SameBut.same u5 ns1 b6
    have u06 := u04.trans u46
    have hna6 := Bx.Same.tup u46 hna
    have hv : Vl ns l := ⟨lk, lb⟩
    have lb40 : ∀ p ∈ l, p.2.natAbs ≤ 2 ^ 40 := fun p hp => Nat.le_trans (lb p hp) (by decide)
    clear u5 hA5 b6 hA6 nd0 ns1 u04 u46 hna
    walk_at "rd"
    refine ⟨sa, sc, 2, rfl, Same.seq u06 hs, by decide, fun s2 n2 c2 ns2 => ?_⟩
    have u7 := same_new ns2 (o := .lst [.int n2, .int c2])
    have hA7 : Src (upd H6 s2 (.lst [.int n2, .int c2])) s2 := ⟨n2, c2, upd_same⟩
    generalize upd H6 s2 (.lst [.int n2, .int c2]) = H7 at u7 hA7 ⊢
    walk_at "rd"
    refine draw_of (lim := 5) hA7 (by decide) fun r5 H8 r50 r51 b8 hA8 => ?_
    have u68 : Same H6 H8 := Bx.SameBut.same u7 ns2 b8
    have hna8 := Bx.Same.tup u68 hna6
    have hd8 := u68 _ _ hd
    walk_at "rd"
    refine ⟨by omega, by omega, fun D hD => ?_⟩
    have nDs := src_ne hA8 hD
    refine lc_it walk_range (fun i H' => SameBut s2 H8 H' ∧ Src H' s2 ∧ ∃ (us : List V) (cs : List Con), H' D = some (.lst us) ∧ cs.length = i ∧ DpAll K H' us (cs.map coD) ∧ ∀ c ∈ cs, Lc ns c) ⟨Bx.Same.but (same_new hD), src_same hA8 (same_new hD), [], [], upd_same, rfl, .nil, fun c hc => (nomatch hc)⟩ (fun i H' _ _ => trivial) ?_ ?_
    · rintro i x H9a H9 hi ⟨b9, hA9, us, cs, hM, cl, hda, lc⟩ ⟨rfl, rfl⟩
      refine ⟨rfl, ?_⟩
      walk_at "rd"
      show spCons K _ _ _ _
      unfold spCons
      refine ⟨s2, na, d, ns, vl l, rfl, hA9, sqt_but hA8 b9 hna8, nm, vat_vl lk lb40 (dk_but hA8 b9 hd8) (fun z hz => hz), fun p c H10 b10 hA10 dc lcc => ?_⟩
      have hM10 := b10 _ _ nDs.symm hM
      have tk10 := tk_but (K := K) hA9 b10
      have hda10 := da_tk tk10 _ _ (tup_cos cs) hda
      have ul : us.length = i := by rw [da_len hda, List.length_map, cl]
      have r5' : i < 5 := by omega
      refine ⟨us, hM10, szl (by omega), but_at hD (b9.trans b10), src_upd hA10 nDs, us ++ [.ref p], cs ++ [c], upd_same, by rw [List.length_append, cl]; rfl, ?_, fun c2 hc => ?_⟩
      · rw [List.map_append]
        have t2 := tk_lst (K := K) (o := .lst (us ++ [.ref p])) hM10
        exact da_app (da_tk t2 _ _ (tup_cos cs) hda10) (da_one (dp_tk t2 _ _ (tup_co c) dc))
      · rcases List.mem_append.mp hc with h | h
        · exact lc c2 h
        · rw [List.mem_singleton.mp h]
          exact lcc
    rintro H9 ⟨b9, hA9, us, cs, hM, cl, hda, lc⟩
    have u69 : Same H6 H9 := Bx.SameBut.same u7 ns2 (b8.trans b9)
    have cl4 : cs.length ≤ 4 := by omega
    have hd9 := u69 _ _ hd
    have hna9 := Bx.Same.tup u69 hna6
    have u09 := u06.trans u69
    clear u7 hA7 b8 hA8 b9 hA9 u68 hna8 hd8 nDs u69 u06 hna6 hd hD ns2 cl r50 r51
    walk_at "rd"
    refine ⟨D, us, rfl, .inl ⟨sq hM, fun ca nca => ?_⟩⟩
    have u10 := same_new nca (o := .tup us)
    have hca := upd_same (H := H9) (a := ca) (o := .tup us)
    generalize upd H9 ca (.tup us) = H10 at u10 hca ⊢
    walk_at "rd"
    refine ⟨sz (by show 2 ≤ 100000; decide), fun T nT => ?_⟩
    have u11 := same_new nT (o := .tup [V.ref na, .ref ca])
    have hT := upd_same (H := H10) (a := T) (o := .tup [V.ref na, .ref ca])
    generalize upd H10 T (.tup [V.ref na, .ref ca]) = H11 at u11 hT ⊢
    have u911 := u10.trans u11
    have th : Th K H11 T na ca us ns cs := ⟨sqt hT, Bx.Same.tup u911 hna9, sqt (u11 _ _ hca), dpAll_same u911 hda⟩
    have hd11 := u911 _ _ hd9
    have hM11 := u911 _ _ hM
    have u011 := u09.trans u911
    clear u10 hca u11 hT u911 hd9 hM hda hna9 u09 nca nT
    walk_at "rd"
    refine ⟨sa, sc, 3, rfl, Same.seq u011 hs, by decide, fun s3 n3 c3 ns3 => ?_⟩
    have u12 := same_new ns3 (o := .lst [.int n3, .int c3])
    have hA12 : Src (upd H11 s3 (.lst [.int n3, .int c3])) s3 := ⟨n3, c3, upd_same⟩
    generalize upd H11 s3 (.lst [.int n3, .int c3]) = H12 at u12 hA12 ⊢
    walk_at "rd"
    show spCons K _ _ _ _
    unfold spCons
    refine ⟨s3, na, d, ns, vl l, rfl, hA12, Bx.Same.tup u12 th.n, nm, vat_vl lk lb40 (u12 _ _ hd11) (fun z hz => hz), fun p c H13 b13 hA13 dc lcc => ?_⟩
    have u1113 : Same H11 H13 := Bx.SameBut.same u12 ns3 b13
    walk_at "rd"
    show spJudged K _ _ _ _
    unfold spJudged
    refine ⟨s3, na, p, ns, c, rfl, hA13, Bx.Same.tup u1113 th.n, dc, nm, lcc, fun H14 b14 hA14 => ?_⟩
    have u1114 : Same H11 H14 := Bx.SameBut.same u12 ns3 (b13.trans b14)
    walk_at "rd"
    show spHR K _ _ _ _
    unfold spHR
    refine ⟨s3, na, p, d, ns, c, l, rfl, hA14, Bx.Same.tup u1114 th.n, dp_tk (tk_but hA13 b14) _ _ (tup_co c) dc, nm, lcc, u1114 _ _ hd11, hv, fun H15 b15 hA15 => ?_⟩
    have u1115 : Same H11 H15 := Bx.SameBut.same u12 ns3 (b13.trans (b14.trans b15))
    have b1215 := b13.trans (b14.trans b15)
    clear u1113 u1114 hA14 hA13 dc lcc b13 b14 b15
    walk_at "rd"
    refine ⟨⟨_, sq (u1115 _ _ hM11)⟩, for_it walk_list (fun i σ H' => ∃ (o7 : Option V), σ = [some (.ref sa), some (.ref s3), some (.ref na), some (.ref d), some (.ref D), some (.ref T), some (.ref p), o7, none, none, none, none, none] ∧ SameBut s3 H12 H' ∧ Src H' s3)
      ⟨none, rfl, b1215, hA15⟩ (fun i σ H' _ ⟨_, _, b, _⟩ => sq (Bx.SameBut.same u12 ns3 b _ _ hM11)) ?_ ?_⟩
    · rintro i x σ Ha H16 hi ⟨o7, rfl, b16, hA16⟩ ⟨rfl, hx⟩
      have u16 : Same H11 H16 := Bx.SameBut.same u12 ns3 b16
      obtain ⟨c2, hc2, dc2⟩ := da_co (dpAll_same u16 th.d) hx
      obtain ⟨p2, b2, zs2, rfl, _⟩ := co_dp dc2
      have lc2 := lc c2 (List.mem_of_getElem? hc2)
      walk_at "rd"
      refine ⟨s3, na, p2, ns, c2, rfl, hA16, Bx.Same.tup u16 th.n, dc2, nm, lc2, fun H17 b17 hA17 => ?_⟩
      have u17 : Same H11 H17 := Bx.SameBut.same u12 ns3 (b16.trans b17)
      walk_at "rd"
      refine ⟨s3, na, p2, d, ns, c2, l, rfl, hA17, Bx.Same.tup u17 th.n, dp_tk (tk_but hA16 b17) _ _ (tup_co c2) dc2, nm, lc2, u17 _ _ hd11, hv, fun H18 b18 hA18 => ?_⟩
      walk_at "rd"
      exact ⟨b16.trans (b17.trans b18), hA18⟩
    rintro σ H16 ⟨o7, rfl, b16, hA16⟩
    have u16 : Same H11 H16 := Bx.SameBut.same u12 ns3 b16
    have th16 := th.same u16
    have hd16 := u16 _ _ hd11
    have u016 := u011.trans u16
    clear u12 hA12 b1215 hA15 b16 hA16 u1115 u16 th hd11 hM11 u011 ns3
    walk_at "rd"
    refine ⟨sa, sc, 4, rfl, Same.seq u016 hs, by decide, fun s4 n4 c4 ns4 => ?_⟩
    have u17 := same_new ns4 (o := .lst [.int n4, .int c4])
    have hA17 : Src (upd H16 s4 (.lst [.int n4, .int c4])) s4 := ⟨n4, c4, upd_same⟩
    generalize upd H16 s4 (.lst [.int n4, .int c4]) = H17 at u17 hA17 ⊢
    walk_at "rd"
    show spRR K _ _ _ _
    unfold spRR
    refine ⟨s4, T, na, ca, us, ns, cs, rfl, hA17, th16.same u17, cl4, nm, lc, fun H18 b18 => ?_⟩
    have u18 : Same H16 H18 := Bx.SameBut.same u17 ns4 b18
    walk_at "rd"
    show spGR K _ _ _ _
    unfold spGR
    refine ⟨T, na, ca, us, ns, cs, rfl, th16.same u18, cl4, fun c hc => (lc c hc).ok, fun H19 s19 => ?_⟩
    have u19 := u18.trans s19
    have th19 := th16.same u19
    have hd19 := u19 _ _ hd16
    clear u17 hA17 b18 u18 s19 u19 th16 hd16 u016 ns4
    walk_at "rd"
    refine fun k dk nk ndk ne => ?_
    obtain ⟨u20, hk⟩ := bare_new (C := C) nk ndk ne
    generalize upd (upd H19 dk (.own k)) k (.ins C dk []) = H20 at u20 hk ⊢
    walk_at "rd"
    refine ⟨C, mc, _, uW, rfl, rdW, cvW, ?_⟩
    walk_at "rd"
    refine ⟨k, dk, [], rfl, hk, rfl, ?_⟩
    walk_at "rd"
    show spContr K _ _ _ _
    unfold spContr
    refine ⟨k, rfl, fun r H21 s21 dr => ?_⟩
    have u21 := u20.trans s21
    have hk21 := s21 _ _ hk
    walk_at "rd"
    refine ⟨sz (by show 0 ≤ 100000; decide), fun e0 ne0 => ?_⟩
    have u22 := same_new ne0 (o := .tup [])
    have he0 := upd_same (H := H21) (a := e0) (o := .tup [])
    generalize upd H21 e0 (.tup []) = H22 at u22 he0 ⊢
    walk_at "rd"
    refine ⟨sz (by show 3 ≤ 100000; decide), fun e1 ne1 => ?_⟩
    have u23 := same_new ne1 (o := .tup [V.ref e0, .int 0, .int 1])
    have he1 := upd_same (H := H22) (a := e1) (o := .tup [V.ref e0, .int 0, .int 1])
    generalize upd H22 e1 (.tup [V.ref e0, .int 0, .int 1]) = H23 at u23 he1 ⊢
    refine ⟨.ref r, .ref e1, .tuple [.tuple [], .int 0, .int 1], rfl, dp_same (u22.trans u23) dr, .tup (sqt he1) (.cons (.tup (sqt (u23 _ _ he0)) .nil) (.cons (.int _) (da_one (.int _)))), ?_, fun H24 s24 => ?_⟩
    · refine ⟨by show 3 ≤ 1000; decide, fun d hd => ?_⟩
      rcases List.mem_cons.mp hd with rfl | hd
      · exact ⟨by show 0 ≤ 1000; decide, fun d hd => (nomatch hd)⟩
      · rcases List.mem_cons.mp hd with rfl | hd
        · trivial
        · rw [List.mem_singleton.mp hd]
          trivial
    have u24 := u21.trans ((u22.trans u23).trans s24)
    have hk24 := ((u22.trans u23).trans s24) _ _ hk21
    have th24 := th19.same u24
    have hd24 := u24 _ _ hd19
    clear u20 hk s21 u21 hk21 u22 he0 u23 he1 s24 u24 th19 hd19 dr
    walk_at "rd"
    refine ⟨d, _, rfl, .inl hd24, fun e ne1 => ?_⟩
    have u25 := same_new ne1 (o := .dK (asV l))
    have he25 := upd_same (H := H24) (a := e) (o := .dK (asV l))
    generalize upd H24 e (.dK (asV l)) = H25 at u25 he25 ⊢
    have hk25 := u25 _ _ hk24
    have th25 := th24.same u25
    have hd25 := u25 _ _ hd24
    have hl4 : l.length ≤ 4 := by
      have z := congrArg List.length lk
      rw [List.length_map] at z
      omega
    walk_at "rd"
    refine ⟨⟨_, th25.n⟩, fun D2 hD2 => ?_⟩
    refine lc_it walk_tup (fun i H' => Same H25 H' ∧ ∃ us, H' D2 = some (.lst us) ∧ DpAll K H' us (((ns.take i).map fun z => (⟨[(z, 1)], 0, vl l z⟩ : Con)).map coD)) ⟨same_new hD2, [], upd_same, .nil⟩ (fun i H' _ h => Bx.Same.tup h.1 th25.n) ?_ ?_
    · rintro i x H2a H26 hi ⟨s26, us, hM, hda⟩ ⟨rfl, hx⟩
      obtain ⟨z, hz, rfl⟩ := at_map hx
      refine ⟨rfl, ?_⟩
      walk_at "rd"
      refine ⟨sz (by show 2 ≤ 100000; decide), fun T2 nT2 => ?_⟩
      have s3 := same_new nT2 (o := .tup [V.str z, .int 1])
      have hT2 := upd_same (H := H26) (a := T2) (o := .tup [V.str z, .int 1])
      generalize upd H26 T2 (.tup [V.str z, .int 1]) = H27 at s3 hT2 ⊢
      walk_at "rd"
      refine ⟨sz (by show 1 ≤ 100000; decide), fun U nU => ?_⟩
      have s4 := same_new nU (o := .tup [V.ref T2])
      have hU := upd_same (H := H27) (a := U) (o := .tup [V.ref T2])
      generalize upd H27 U (.tup [V.ref T2]) = H28 at s4 hU ⊢
      have s24 := s3.trans s4
      walk_at "rd"
      refine ⟨d, .int (vl l z), rfl, by rw [← has_as (l := l) (z := z) (by rw [lk]; exact List.mem_of_getElem? hz)]; exact DGet.k (k := .inr z) ((s26.trans s24) _ _ hd25), ?_⟩
      walk_at "rd"
      refine ⟨sz (by show 3 ≤ 100000; decide), fun N nN => ?_⟩
      have s5 := same_new nN (o := .tup [V.ref U, .int 0, .int (vl l z)])
      have hN := upd_same (H := H28) (a := N) (o := .tup [V.ref U, .int 0, .int (vl l z)])
      have dN : Dp K (upd H28 N (.tup [V.ref U, .int 0, .int (vl l z)])) (.ref N) (coD ⟨[(z, 1)], 0, vl l z⟩) := dp_co (sqt hN) (sqt (s5 _ _ hU)) (da_one (tm_dp (x := (z, 1)) (sqt ((s4.trans s5) _ _ hT2))))
      generalize upd H28 N (.tup [V.ref U, .int 0, .int (vl l z)]) = H29 at s5 dN ⊢
      have s25 := s24.trans s5
      have hM5 := s25 _ _ hM
      have ul : us.length ≤ ns.length := by
        rw [da_len hda, List.length_map, List.length_map]
        exact List.length_take_le' i ns
      refine ⟨us, hM5, szl (by omega), same_at hD2 (s26.trans s25), us ++ [.ref N], upd_same, ?_⟩
      rw [List.take_add_one, hz, List.map_append, List.map_append]
      have t2 := tk_lst (K := K) (o := .lst (us ++ [.ref N])) hM5
      exact da_app (da_tk t2 _ _ (tup_cos _) (dpAll_same s25 hda)) (da_one (dp_tk t2 _ _ (tup_co _) dN))
    rintro H26 ⟨s26, vs, hM, hda⟩
    rw [List.length_map, List.take_length] at hda
    walk_at "rd"
    refine ⟨D2, vs, rfl, .inl ⟨sq hM, fun pr npr => ?_⟩⟩
    have s27 := same_new npr (o := .tup vs)
    have hpr := upd_same (H := H26) (a := pr) (o := .tup vs)
    generalize upd H26 pr (.tup vs) = H27 at s27 hpr ⊢
    have hda27 := dpAll_same s27 hda
    have u27 := s26.trans s27
    have th27 := th25.same u27
    walk_at "rd"
    refine ⟨k, dk, [], rfl, u27 _ _ hk25, rfl, ?_⟩
    walk_at "rd"
    show spPin K _ _ _ _
    unfold spPin
    refine ⟨k, na, e, ns, vl l, rfl, th27.n, vat_vl lk lb40 (u27 _ _ he25) (fun z hz => hz), by omega, fun R pr2 vs2 H28 s28 hR hpr2 hda2 => ?_⟩
    walk_at "rd"
    refine ⟨sz (by show 2 ≤ 100000; decide), fun R2 nR2 => ?_⟩
    have s29 := same_new nR2 (o := .tup [V.ref na, .ref pr])
    have hR2 := upd_same (H := H28) (a := R2) (o := .tup [V.ref na, .ref pr])
    generalize upd H28 R2 (.tup [V.ref na, .ref pr]) = H29 at s29 hR2 ⊢
    have s2729 := s28.trans s29
    refine ⟨.ref R, .ref R2, .tuple [.tuple (ns.map PyData.str), .tuple ((ns.map fun z => (⟨[(z, 1)], 0, vl l z⟩ : Con)).map coD)], rfl, .tup (Bx.Same.tup s29 hR) (.cons (names_dp (Bx.Same.tup s2729 th27.n)) (da_one (.tup (Bx.Same.tup s29 hpr2) (dpAll_same s29 hda2)))), .tup (sqt hR2) (.cons (names_dp (Bx.Same.tup s2729 th27.n)) (da_one (.tup (sqt (s2729 _ _ hpr)) (dpAll_same s2729 hda27)))), ?_, fun H30 s30 => ?_⟩
    · refine ⟨by show 2 ≤ 1000; decide, fun d hd => ?_⟩
      rcases List.mem_cons.mp hd with rfl | hd
      · exact eqOk_strs (fun z hz => n5_ok _ (nm.n5 z hz)) (by omega) 3
      · rw [List.mem_singleton.mp hd]
        refine ⟨by rw [List.length_map, List.length_map]; omega, fun d hd => ?_⟩
        obtain ⟨c2, hc2, rfl⟩ := List.mem_map.mp hd
        obtain ⟨z, hz, rfl⟩ := List.mem_map.mp hc2
        exact eqOk_con (fun x hx => by rw [List.mem_singleton.mp hx]; exact nm.n5 z hz) (by show 1 ≤ 1000; decide) 0
    have u30 := u27.trans (s2729.trans s30)
    walk_at "rd"
    refine ⟨e, d, asV l, asV l, rfl, rfl, u30 _ _ he25, u30 _ _ hd25, rfl, own_as (by rw [lk]; exact ndn), ?_⟩
    have th30 := th25.same u30
    have hd30 := u30 _ _ hd25
    clear s26 s27 hpr hda27 u27 th27 s28 hR hpr2 hda2 s29 hR2 s2729 s30 u30 th25 hd25 hk25 he25 u25 hM hda hk24 th24 hd24
    walk_at "rd"
    refine ⟨⟨_, th30.n⟩, for_it walk_tup (fun i σ H' => ∃ (o11 : Option V), σ = [some (.ref sa), some (.ref s3), some (.ref na), some (.ref d), some (.ref D), some (.ref T), some (.ref p), o7, some (.ref k), some (.ref e), some (.ref pr), o11, none] ∧ Same H30 H')
      ⟨none, rfl, Same.refl _⟩ (fun i σ H' _ ⟨_, _, s⟩ => Bx.Same.tup s th30.n) ?_ ?_⟩
    · rintro i x σ Ha H31 hi ⟨o11, rfl, s31⟩ ⟨rfl, hx⟩
      obtain ⟨z, hz, rfl⟩ := at_map hx
      walk_at "rd"
      show spLR K _ _ _ _
      unfold spLR
      refine ⟨T, na, ca, d, us, ns, cs, l, z, rfl, th30.same s31, cl4, nm, lc, s31 _ _ hd30, hv, List.mem_of_getElem? hz, fun H32 s32 => ?_⟩
      walk_at "rd"
      exact s31.trans s32
    · rintro σ H31 ⟨o11, rfl, s31⟩
      walk_at "rd"
      exact q H31
end
end K31
namespace K31
open PySem PySem.Spec PyProof.Rows L2 Bx TL Dx Zx Ow Sup NdefX Px T31 M31
theorem kit_t {K : PySem.W.Frag} {C D : Addr} {cd : ClassData} (c : PySem.W.clsIn K D = some cd) (t : PySem.W.typeIn K (.ref D) = some (.type "type")) (s : PySem.W.subIn K (.ref C) (.ref D) = some true) : PySem.W.kitOne K (.ref C) (.ref D) = some true := by
  unfold PySem.W.kitOne PySem.W.kitCls
  split
  · rfl
  · show (if ((PySem.W.clsIn K D).isSome && PySem.W.typeIn K (.ref D) == some (.type "type")) = true then PySem.W.subIn K (.ref C) (.ref D) else none) = _
    rw [if_pos (by rw [c, t]; rfl)]
    exact s
theorem kit_exm {K : PySem.W.Frag} {C : Addr} {cd : ClassData} (b : PySem.W.subIn K (.ref C) (.type "BaseException") = some true) (c : PySem.W.clsIn K C = some cd) (t : PySem.W.typeIn K (.ref C) = some (.type "type")) (s : PySem.W.subIn K (.ref C) (.ref C) = some true) : PySem.W.exmOne K (.ref C) (.ref C) = some true := by
  show (if (PySem.W.subIn K (.ref C) (.type "BaseException") == some true) = true then (if ((PySem.W.clsIn K C).isSome && PySem.W.typeIn K (.ref C) == some (.type "type")) = true then PySem.W.subIn K (.ref C) (.ref C) else none) else none) = _
  rw [if_pos (by rw [b]; rfl), if_pos (by rw [c, t]; rfl)]
  exact s
theorem cread_mk {K : PySem.W.Frag} {C : Addr} (a : PySem.W.nsIn K cStatics "thirdparty.any" = some none) (t : PySem.W.typeIn K (.ref C) = some (.type "type")) (ga : PySem.W.findIn K (.type "type") "__getattribute__" = some (some (.builtin "type.__getattribute__"))) (s : PySem.W.subIn K (.type "type") (.type "type") = some true) : ClX.CRead K C (.type "type") := by
  refine ⟨?_, ?_⟩
  · unfold PySem.W.readsIn
    rw [a, t, ga, s]
    rfl
  · unfold PySem.W.specialIn
    rw [t]
    exact ga
theorem cval_mk {K : PySem.W.Frag} {C : Addr} {y z : Str} {tW : Tok} (tm : PySem.W.findIn K (.type "type") y = some none) (cb : PySem.W.findIn K (.ref C) y = some (some (.str z tW))) (ty : PySem.W.typeIn K (.str z tW) = some (.type "str")) (sg : PySem.W.specialIn K (.str z tW) "__get__" = some none) : PySem.W.findCls K (.ref C) (.type "type") y = some (.val (.str z tW)) := by
  unfold PySem.W.findCls
  rw [tm]
  simp only [Option.bind_some, cb, ty, sg]
  rfl
set_option maxHeartbeats 8000000 in
theorem all_mk {l : PySem.W.OpenLaw} {w : World} {K : PySem.W.Frag} {h : Heap} {mg : Str → Option Value} {fa : Addr} (X : K.In h) (G : h.Ns mainGlobals mg) (hfa : mg "law" = some (.ref fa))
    {C : Addr}
    {CS : Addr}
    {CF_ : Addr}
    {cdCF_ : ClassData}
    {tWCWORD : Tok}
    {f__added : Addr} {oc__added kV__added dc__added pm__added cd__added ct__added : Value} {od__added an__added : Option Addr} {sl__added : Array (Option Value)}
    {T_init e0 : Addr} {oc_U : Value} {od_U : Option Addr} {n_U : Nat} {sl_U : Array (Option Value)}
    {f_init : Addr} {oc_init kV_init dc_init pm_init cd_init ct_init : Value} {od_init an_init : Option Addr} {sl_init : Array (Option Value)}
    {f_MCS___getitem__ : Addr} {oc_MCS___getitem__ kV_MCS___getitem__ dc_MCS___getitem__ pm_MCS___getitem__ cd_MCS___getitem__ ct_MCS___getitem__ : Value} {od_MCS___getitem__ an_MCS___getitem__ : Option Addr} {sl_MCS___getitem__ : Array (Option Value)}
    {f_MCS_at : Addr} {oc_MCS_at kV_MCS_at dc_MCS_at pm_MCS_at cd_MCS_at ct_MCS_at : Value} {od_MCS_at an_MCS_at : Option Addr} {sl_MCS_at : Array (Option Value)}
    {f_MCS_renamed : Addr} {oc_MCS_renamed kV_MCS_renamed dc_MCS_renamed pm_MCS_renamed cd_MCS_renamed ct_MCS_renamed : Value} {od_MCS_renamed an_MCS_renamed : Option Addr} {sl_MCS_renamed : Array (Option Value)}
    {f_progression : Addr} {oc_progression kV_progression dc_progression pm_progression cd_progression ct_progression : Value} {od_progression an_progression : Option Addr} {sl_progression : Array (Option Value)}
    {f_bezout : Addr} {oc_bezout kV_bezout dc_bezout pm_bezout cd_bezout ct_bezout : Value} {od_bezout an_bezout : Option Addr} {sl_bezout : Array (Option Value)}
    {f_solve_one : Addr} {oc_solve_one kV_solve_one dc_solve_one pm_solve_one cd_solve_one ct_solve_one : Value} {od_solve_one an_solve_one : Option Addr} {sl_solve_one : Array (Option Value)}
    {f_meet : Addr} {oc_meet kV_meet dc_meet pm_meet cd_meet ct_meet : Value} {od_meet an_meet : Option Addr} {sl_meet : Array (Option Value)}
    {f_replace_names : Addr} {oc_replace_names kV_replace_names dc_replace_names pm_replace_names cd_replace_names ct_replace_names : Value} {od_replace_names an_replace_names : Option Addr} {sl_replace_names : Array (Option Value)}
    {f_merge_names : Addr} {oc_merge_names kV_merge_names dc_merge_names pm_merge_names cd_merge_names ct_merge_names : Value} {od_merge_names an_merge_names : Option Addr} {sl_merge_names : Array (Option Value)}
    {f_is_ascending : Addr} {oc_is_ascending kV_is_ascending dc_is_ascending pm_is_ascending cd_is_ascending ct_is_ascending : Value} {od_is_ascending an_is_ascending : Option Addr} {sl_is_ascending : Array (Option Value)}
    {f_is_terms : Addr} {oc_is_terms kV_is_terms dc_is_terms pm_is_terms cd_is_terms ct_is_terms : Value} {od_is_terms an_is_terms : Option Addr} {sl_is_terms : Array (Option Value)}
    {f__is_multiple : Addr} {oc__is_multiple kV__is_multiple dc__is_multiple pm__is_multiple cd__is_multiple ct__is_multiple : Value} {od__is_multiple an__is_multiple : Option Addr} {sl__is_multiple : Array (Option Value)}
    {f_MC_names_in : Addr} {oc_MC_names_in kV_MC_names_in dc_MC_names_in pm_MC_names_in cd_MC_names_in ct_MC_names_in : Value} {od_MC_names_in an_MC_names_in : Option Addr} {sl_MC_names_in : Array (Option Value)}
    {f_MC_holds : Addr} {oc_MC_holds kV_MC_holds dc_MC_holds pm_MC_holds cd_MC_holds ct_MC_holds : Value} {od_MC_holds an_MC_holds : Option Addr} {sl_MC_holds : Array (Option Value)}
    {f_MC_contradiction : Addr} {oc_MC_contradiction kV_MC_contradiction dc_MC_contradiction pm_MC_contradiction cd_MC_contradiction ct_MC_contradiction : Value} {od_MC_contradiction an_MC_contradiction : Option Addr} {sl_MC_contradiction : Array (Option Value)}
    {f_satisfies : Addr} {oc_satisfies kV_satisfies dc_satisfies pm_satisfies cd_satisfies ct_satisfies : Value} {od_satisfies an_satisfies : Option Addr} {sl_satisfies : Array (Option Value)}
    {f_MC_ground : Addr} {oc_MC_ground kV_MC_ground dc_MC_ground pm_MC_ground cd_MC_ground ct_MC_ground : Value} {od_MC_ground an_MC_ground : Option Addr} {sl_MC_ground : Array (Option Value)}
    {f_fitting : Addr} {oc_fitting kV_fitting dc_fitting pm_fitting cd_fitting ct_fitting : Value} {od_fitting an_fitting : Option Addr} {sl_fitting : Array (Option Value)}
    {CK_kind : Addr} {cdC_kind : ClassData}
    {f_kind : Addr} {oc_kind kV_kind dc_kind pm_kind cd_kind ct_kind : Value} {od_kind an_kind : Option Addr} {sl_kind : Array (Option Value)}
    {fV ccV cdaV : Addr} {ocV kVV dcV pmV ctV clV cclV : Value} {odV anV cldV cddV : Option Addr} {oslV cslV ccsV : Array (Option Value)} {vsV : Array Value} {fileV : Str} {tfV : Tok}
    {f_MC_pin : Addr} {oc_MC_pin kV_MC_pin dc_MC_pin pm_MC_pin cd_MC_pin ct_MC_pin : Value} {od_MC_pin an_MC_pin : Option Addr} {sl_MC_pin : Array (Option Value)}
    {f_MC_lift : Addr} {oc_MC_lift kV_MC_lift dc_MC_lift pm_MC_lift cd_MC_lift ct_MC_lift : Value} {od_MC_lift an_MC_lift : Option Addr} {sl_MC_lift : Array (Option Value)}
    {f_MC_rename : Addr} {oc_MC_rename kV_MC_rename dc_MC_rename pm_MC_rename cd_MC_rename ct_MC_rename : Value} {od_MC_rename an_MC_rename : Option Addr} {sl_MC_rename : Array (Option Value)}
    {f__law_source : Addr} {oc__law_source kV__law_source dc__law_source pm__law_source cd__law_source ct__law_source : Value} {od__law_source an__law_source : Option Addr} {sl__law_source : Array (Option Value)}
    {f__law_draw : Addr} {oc__law_draw kV__law_draw dc__law_draw pm__law_draw cd__law_draw ct__law_draw : Value} {od__law_draw an__law_draw : Option Addr} {sl__law_draw : Array (Option Value)}
    {f__law_shared : Addr} {oc__law_shared kV__law_shared dc__law_shared pm__law_shared cd__law_shared ct__law_shared : Value} {od__law_shared an__law_shared : Option Addr} {sl__law_shared : Array (Option Value)}
    {f__law_is_int : Addr} {oc__law_is_int kV__law_is_int dc__law_is_int pm__law_is_int cd__law_is_int ct__law_is_int : Value} {od__law_is_int an__law_is_int : Option Addr} {sl__law_is_int : Array (Option Value)}
    {f__law_equal : Addr} {oc__law_equal kV__law_equal dc__law_equal pm__law_equal cd__law_equal ct__law_equal : Value} {od__law_equal an__law_equal : Option Addr} {sl__law_equal : Array (Option Value)}
    {f__law_says : Addr} {oc__law_says kV__law_says dc__law_says pm__law_says cd__law_says ct__law_says : Value} {od__law_says an__law_says : Option Addr} {sl__law_says : Array (Option Value)}
    {f__law_factor : Addr} {oc__law_factor kV__law_factor dc__law_factor pm__law_factor cd__law_factor ct__law_factor : Value} {od__law_factor an__law_factor : Option Addr} {sl__law_factor : Array (Option Value)}
    {f__law_sum : Addr} {oc__law_sum kV__law_sum dc__law_sum pm__law_sum cd__law_sum ct__law_sum : Value} {od__law_sum an__law_sum : Option Addr} {sl__law_sum : Array (Option Value)}
    {f__law_holds : Addr} {oc__law_holds kV__law_holds dc__law_holds pm__law_holds cd__law_holds ct__law_holds : Value} {od__law_holds an__law_holds : Option Addr} {sl__law_holds : Array (Option Value)}
    {f__law_valid : Addr} {oc__law_valid kV__law_valid dc__law_valid pm__law_valid cd__law_valid ct__law_valid : Value} {od__law_valid an__law_valid : Option Addr} {sl__law_valid : Array (Option Value)}
    {f__law_names : Addr} {oc__law_names kV__law_names dc__law_names pm__law_names cd__law_names ct__law_names : Value} {od__law_names an__law_names : Option Addr} {sl__law_names : Array (Option Value)}
    {f__law_terms : Addr} {oc__law_terms kV__law_terms dc__law_terms pm__law_terms cd__law_terms ct__law_terms : Value} {od__law_terms an__law_terms : Option Addr} {sl__law_terms : Array (Option Value)}
    {f__law_modulus : Addr} {oc__law_modulus kV__law_modulus dc__law_modulus pm__law_modulus cd__law_modulus ct__law_modulus : Value} {od__law_modulus an__law_modulus : Option Addr} {sl__law_modulus : Array (Option Value)}
    {f__law_values : Addr} {oc__law_values kV__law_values dc__law_values pm__law_values cd__law_values ct__law_values : Value} {od__law_values an__law_values : Option Addr} {sl__law_values : Array (Option Value)}
    {f__law_constraint : Addr} {oc__law_constraint kV__law_constraint dc__law_constraint pm__law_constraint cd__law_constraint ct__law_constraint : Value} {od__law_constraint an__law_constraint : Option Addr} {sl__law_constraint : Array (Option Value)}
    {f__law_told_apart : Addr} {oc__law_told_apart kV__law_told_apart dc__law_told_apart pm__law_told_apart cd__law_told_apart ct__law_told_apart : Value} {od__law_told_apart an__law_told_apart : Option Addr} {sl__law_told_apart : Array (Option Value)}
    {f__law_judged_right : Addr} {oc__law_judged_right kV__law_judged_right dc__law_judged_right pm__law_judged_right cd__law_judged_right ct__law_judged_right : Value} {od__law_judged_right an__law_judged_right : Option Addr} {sl__law_judged_right : Array (Option Value)}
    {f__law_holds_right : Addr} {oc__law_holds_right kV__law_holds_right dc__law_holds_right pm__law_holds_right cd__law_holds_right ct__law_holds_right : Value} {od__law_holds_right an__law_holds_right : Option Addr} {sl__law_holds_right : Array (Option Value)}
    {f__law_first : Addr} {oc__law_first kV__law_first dc__law_first pm__law_first cd__law_first ct__law_first : Value} {od__law_first an__law_first : Option Addr} {sl__law_first : Array (Option Value)}
    {f__law_lifted : Addr} {oc__law_lifted kV__law_lifted dc__law_lifted pm__law_lifted cd__law_lifted ct__law_lifted : Value} {od__law_lifted an__law_lifted : Option Addr} {sl__law_lifted : Array (Option Value)}
    {f__law_lift_right : Addr} {oc__law_lift_right kV__law_lift_right dc__law_lift_right pm__law_lift_right cd__law_lift_right ct__law_lift_right : Value} {od__law_lift_right an__law_lift_right : Option Addr} {sl__law_lift_right : Array (Option Value)}
    {f__law_ground_right : Addr} {oc__law_ground_right kV__law_ground_right dc__law_ground_right pm__law_ground_right cd__law_ground_right ct__law_ground_right : Value} {od__law_ground_right an__law_ground_right : Option Addr} {sl__law_ground_right : Array (Option Value)}
    {f__law_table : Addr} {oc__law_table kV__law_table dc__law_table pm__law_table cd__law_table ct__law_table : Value} {od__law_table an__law_table : Option Addr} {sl__law_table : Array (Option Value)}
    {f__law_renamed_right : Addr} {oc__law_renamed_right kV__law_renamed_right dc__law_renamed_right pm__law_renamed_right cd__law_renamed_right ct__law_renamed_right : Value} {od__law_renamed_right an__law_renamed_right : Option Addr} {sl__law_renamed_right : Array (Option Value)}
    {f_law : Addr} {oc_law kV_law dc_law pm_law cd_law ct_law : Value} {od_law an_law : Option Addr} {sl_law : Array (Option Value)}
    (aC : PySem.W.nsIn K mainGlobals "Wholes" = some (some (.ref C)))
    (pgC : PySem.W.plainGet K C Str.empty = true)
    (hdC : PySem.W.hasDictIn K C = true)
    (poC : PySem.W.plainOver K C = true)
    (saC : PySem.W.findIn K (.ref C) "__setattr__" = some (some (.builtin "object.__setattr__")))
    (mkC : PySem.W.makesIn K C = true)
    (kcC : PySem.W.keepIn K (.ref C) = true)
    (iniC : PySem.W.findIn K (.ref C) "__init__" = some (some (.builtin "object.__init__")))
    (aCS : PySem.W.nsIn K mainGlobals "Sum" = some (some (.ref CS)))
    (pgCS : PySem.W.plainGet K CS Str.empty = true)
    (hdCS : PySem.W.hasDictIn K CS = true)
    (poCS : PySem.W.plainOver K CS = true)
    (saCS : PySem.W.findIn K (.ref CS) "__setattr__" = some (some (.builtin "object.__setattr__")))
    (mkCS : PySem.W.makesIn K CS = true)
    (kcCS : PySem.W.keepIn K (.ref CS) = true)
    (nT : PySem.W.findIn K (.ref CS) "terms" = some none)
    (aCF_ : PySem.W.nsIn K mainGlobals "NoSolution" = some (some (.ref CF_)))
    (xCF_ : PySem.W.excIn K CF_ [.type "ValueError", .type "Exception", .type "BaseException", .type "object"] "ValueError.__new__" = true)
    (kkCF_ : PySem.W.keepIn K (.ref CF_) = true)
    (bbCF_ : PySem.W.subIn K (.ref CF_) (.type "BaseException") = some true)
    (ttCF_ : PySem.W.typeIn K (.ref CF_) = some (.type "type"))
    (cfCF_ : PySem.W.clsIn K CF_ = some cdCF_)
    (ssCF_ : PySem.W.subIn K (.ref CF_) (.ref CF_) = some true)
    (any_ : PySem.W.nsIn K cStatics "thirdparty.any" = some none)
    (tyC : PySem.W.typeIn K (.ref C) = some (.type "type"))
    (tga : PySem.W.findIn K (.type "type") "__getattribute__" = some (some (.builtin "type.__getattribute__")))
    (tsub : PySem.W.subIn K (.type "type") (.type "type") = some true)
    (tmWORD : PySem.W.findIn K (.type "type") "WORD" = some none)
    (cbCWORD : PySem.W.findIn K (.ref C) "WORD" = some (some (.str (Str.ofString "wholes") tWCWORD)))
    (sgCWORD : PySem.W.specialIn K (.str (Str.ofString "wholes") tWCWORD) "__get__" = some none)
    (ttCWORD : PySem.W.typeIn K (.str (Str.ofString "wholes") tWCWORD) = some (.type "str"))
    (a__added : PySem.W.nsIn K mainGlobals "_added" = some (some (.ref f__added)))
    (l__added : K.lookup f__added = some ⟨oc__added, od__added, .func (PySem.W.fnOf "_added" "_added" (defArgs s__added) (defBody s__added) (defScope s__added) .none kV__added dc__added pm__added an__added cd__added ct__added), sl__added⟩)
    (c__added : PySem.W.codeIn K cd__added "_added" = true)
    (k__added : PySem.W.keepIn K (.ref f__added) = true)
    (a_init : PySem.W.findIn K (.ref CS) "__init__" = some (some (.ref f_init)))
    (l_init : K.lookup f_init = some ⟨oc_init, od_init, .func (PySem.W.fnOf "__init__" "Sum.__init__" (defArgs s_Sum___init__) (defBody s_Sum___init__) (defScope s_Sum___init__) (.ref T_init) kV_init dc_init pm_init an_init cd_init ct_init), sl_init⟩)
    (c_init : PySem.W.codeIn K cd_init "Sum.__init__" = true)
    (k_init : PySem.W.keepIn K (.ref f_init) = true)
    (fi_init : PySem.W.isFn K (.ref f_init) = true)
    (t_init : K.lookup T_init = some ⟨oc_U, od_U, .seq #[.ref e0] n_U, sl_U⟩)
    (a_MCS___getitem__ : PySem.W.findIn K (.ref CS) "__getitem__" = some (some (.ref f_MCS___getitem__)))
    (l_MCS___getitem__ : K.lookup f_MCS___getitem__ = some ⟨oc_MCS___getitem__, od_MCS___getitem__, .func (PySem.W.fnOf "__getitem__" "Sum.__getitem__" (defArgs s_Sum___getitem__) (defBody s_Sum___getitem__) (defScope s_Sum___getitem__) .none kV_MCS___getitem__ dc_MCS___getitem__ pm_MCS___getitem__ an_MCS___getitem__ cd_MCS___getitem__ ct_MCS___getitem__), sl_MCS___getitem__⟩)
    (c_MCS___getitem__ : PySem.W.codeIn K cd_MCS___getitem__ "Sum.__getitem__" = true)
    (k_MCS___getitem__ : PySem.W.keepIn K (.ref f_MCS___getitem__) = true)
    (i_MCS___getitem__ : PySem.W.isFn K (.ref f_MCS___getitem__) = true)
    (fn_MCS___getitem__ : PySem.W.fnIn K f_MCS___getitem__ = true)
    (a_MCS_at : PySem.W.findIn K (.ref CS) "at" = some (some (.ref f_MCS_at)))
    (l_MCS_at : K.lookup f_MCS_at = some ⟨oc_MCS_at, od_MCS_at, .func (PySem.W.fnOf "at" "Sum.at" (defArgs s_Sum_at) (defBody s_Sum_at) (defScope s_Sum_at) .none kV_MCS_at dc_MCS_at pm_MCS_at an_MCS_at cd_MCS_at ct_MCS_at), sl_MCS_at⟩)
    (c_MCS_at : PySem.W.codeIn K cd_MCS_at "Sum.at" = true)
    (k_MCS_at : PySem.W.keepIn K (.ref f_MCS_at) = true)
    (i_MCS_at : PySem.W.isFn K (.ref f_MCS_at) = true)
    (a_MCS_renamed : PySem.W.findIn K (.ref CS) "renamed" = some (some (.ref f_MCS_renamed)))
    (l_MCS_renamed : K.lookup f_MCS_renamed = some ⟨oc_MCS_renamed, od_MCS_renamed, .func (PySem.W.fnOf "renamed" "Sum.renamed" (defArgs s_Sum_renamed) (defBody s_Sum_renamed) (defScope s_Sum_renamed) .none kV_MCS_renamed dc_MCS_renamed pm_MCS_renamed an_MCS_renamed cd_MCS_renamed ct_MCS_renamed), sl_MCS_renamed⟩)
    (c_MCS_renamed : PySem.W.codeIn K cd_MCS_renamed "Sum.renamed" = true)
    (k_MCS_renamed : PySem.W.keepIn K (.ref f_MCS_renamed) = true)
    (i_MCS_renamed : PySem.W.isFn K (.ref f_MCS_renamed) = true)
    (a_progression : PySem.W.nsIn K mainGlobals "progression" = some (some (.ref f_progression)))
    (l_progression : K.lookup f_progression = some ⟨oc_progression, od_progression, .func (PySem.W.fnOf "progression" "progression" (defArgs s_progression) (defBody s_progression) (defScope s_progression) .none kV_progression dc_progression pm_progression an_progression cd_progression ct_progression), sl_progression⟩)
    (c_progression : PySem.W.codeIn K cd_progression "progression" = true)
    (k_progression : PySem.W.keepIn K (.ref f_progression) = true)
    (a_bezout : PySem.W.nsIn K mainGlobals "bezout" = some (some (.ref f_bezout)))
    (l_bezout : K.lookup f_bezout = some ⟨oc_bezout, od_bezout, .func (PySem.W.fnOf "bezout" "bezout" (defArgs s_bezout) (defBody s_bezout) (defScope s_bezout) .none kV_bezout dc_bezout pm_bezout an_bezout cd_bezout ct_bezout), sl_bezout⟩)
    (c_bezout : PySem.W.codeIn K cd_bezout "bezout" = true)
    (k_bezout : PySem.W.keepIn K (.ref f_bezout) = true)
    (a_solve_one : PySem.W.nsIn K mainGlobals "solve_one" = some (some (.ref f_solve_one)))
    (l_solve_one : K.lookup f_solve_one = some ⟨oc_solve_one, od_solve_one, .func (PySem.W.fnOf "solve_one" "solve_one" (defArgs s_solve_one) (defBody s_solve_one) (defScope s_solve_one) .none kV_solve_one dc_solve_one pm_solve_one an_solve_one cd_solve_one ct_solve_one), sl_solve_one⟩)
    (c_solve_one : PySem.W.codeIn K cd_solve_one "solve_one" = true)
    (k_solve_one : PySem.W.keepIn K (.ref f_solve_one) = true)
    (a_meet : PySem.W.nsIn K mainGlobals "meet" = some (some (.ref f_meet)))
    (l_meet : K.lookup f_meet = some ⟨oc_meet, od_meet, .func (PySem.W.fnOf "meet" "meet" (defArgs s_meet) (defBody s_meet) (defScope s_meet) .none kV_meet dc_meet pm_meet an_meet cd_meet ct_meet), sl_meet⟩)
    (c_meet : PySem.W.codeIn K cd_meet "meet" = true)
    (k_meet : PySem.W.keepIn K (.ref f_meet) = true)
    (a_replace_names : PySem.W.nsIn K mainGlobals "replace_names" = some (some (.ref f_replace_names)))
    (l_replace_names : K.lookup f_replace_names = some ⟨oc_replace_names, od_replace_names, .func (PySem.W.fnOf "replace_names" "replace_names" (defArgs s_replace_names) (defBody s_replace_names) (defScope s_replace_names) .none kV_replace_names dc_replace_names pm_replace_names an_replace_names cd_replace_names ct_replace_names), sl_replace_names⟩)
    (c_replace_names : PySem.W.codeIn K cd_replace_names "replace_names" = true)
    (k_replace_names : PySem.W.keepIn K (.ref f_replace_names) = true)
    (a_merge_names : PySem.W.nsIn K mainGlobals "merge_names" = some (some (.ref f_merge_names)))
    (l_merge_names : K.lookup f_merge_names = some ⟨oc_merge_names, od_merge_names, .func (PySem.W.fnOf "merge_names" "merge_names" (defArgs s_merge_names) (defBody s_merge_names) (defScope s_merge_names) .none kV_merge_names dc_merge_names pm_merge_names an_merge_names cd_merge_names ct_merge_names), sl_merge_names⟩)
    (c_merge_names : PySem.W.codeIn K cd_merge_names "merge_names" = true)
    (k_merge_names : PySem.W.keepIn K (.ref f_merge_names) = true)
    (a_is_ascending : PySem.W.nsIn K mainGlobals "is_ascending" = some (some (.ref f_is_ascending)))
    (l_is_ascending : K.lookup f_is_ascending = some ⟨oc_is_ascending, od_is_ascending, .func (PySem.W.fnOf "is_ascending" "is_ascending" (defArgs s_is_ascending) (defBody s_is_ascending) (defScope s_is_ascending) .none kV_is_ascending dc_is_ascending pm_is_ascending an_is_ascending cd_is_ascending ct_is_ascending), sl_is_ascending⟩)
    (c_is_ascending : PySem.W.codeIn K cd_is_ascending "is_ascending" = true)
    (k_is_ascending : PySem.W.keepIn K (.ref f_is_ascending) = true)
    (a_is_terms : PySem.W.nsIn K mainGlobals "is_terms" = some (some (.ref f_is_terms)))
    (l_is_terms : K.lookup f_is_terms = some ⟨oc_is_terms, od_is_terms, .func (PySem.W.fnOf "is_terms" "is_terms" (defArgs s_is_terms) (defBody s_is_terms) (defScope s_is_terms) .none kV_is_terms dc_is_terms pm_is_terms an_is_terms cd_is_terms ct_is_terms), sl_is_terms⟩)
    (c_is_terms : PySem.W.codeIn K cd_is_terms "is_terms" = true)
    (k_is_terms : PySem.W.keepIn K (.ref f_is_terms) = true)
    (a__is_multiple : PySem.W.nsIn K mainGlobals "_is_multiple" = some (some (.ref f__is_multiple)))
    (l__is_multiple : K.lookup f__is_multiple = some ⟨oc__is_multiple, od__is_multiple, .func (PySem.W.fnOf "_is_multiple" "_is_multiple" (defArgs s__is_multiple) (defBody s__is_multiple) (defScope s__is_multiple) .none kV__is_multiple dc__is_multiple pm__is_multiple an__is_multiple cd__is_multiple ct__is_multiple), sl__is_multiple⟩)
    (c__is_multiple : PySem.W.codeIn K cd__is_multiple "_is_multiple" = true)
    (k__is_multiple : PySem.W.keepIn K (.ref f__is_multiple) = true)
    (a_MC_names_in : PySem.W.findIn K (.ref C) "names_in" = some (some (.ref f_MC_names_in)))
    (l_MC_names_in : K.lookup f_MC_names_in = some ⟨oc_MC_names_in, od_MC_names_in, .func (PySem.W.fnOf "names_in" "Wholes.names_in" (defArgs s_Wholes_names_in) (defBody s_Wholes_names_in) (defScope s_Wholes_names_in) .none kV_MC_names_in dc_MC_names_in pm_MC_names_in an_MC_names_in cd_MC_names_in ct_MC_names_in), sl_MC_names_in⟩)
    (c_MC_names_in : PySem.W.codeIn K cd_MC_names_in "Wholes.names_in" = true)
    (k_MC_names_in : PySem.W.keepIn K (.ref f_MC_names_in) = true)
    (i_MC_names_in : PySem.W.isFn K (.ref f_MC_names_in) = true)
    (a_MC_holds : PySem.W.findIn K (.ref C) "holds" = some (some (.ref f_MC_holds)))
    (l_MC_holds : K.lookup f_MC_holds = some ⟨oc_MC_holds, od_MC_holds, .func (PySem.W.fnOf "holds" "Wholes.holds" (defArgs s_Wholes_holds) (defBody s_Wholes_holds) (defScope s_Wholes_holds) .none kV_MC_holds dc_MC_holds pm_MC_holds an_MC_holds cd_MC_holds ct_MC_holds), sl_MC_holds⟩)
    (c_MC_holds : PySem.W.codeIn K cd_MC_holds "Wholes.holds" = true)
    (k_MC_holds : PySem.W.keepIn K (.ref f_MC_holds) = true)
    (i_MC_holds : PySem.W.isFn K (.ref f_MC_holds) = true)
    (a_MC_contradiction : PySem.W.findIn K (.ref C) "contradiction" = some (some (.ref f_MC_contradiction)))
    (l_MC_contradiction : K.lookup f_MC_contradiction = some ⟨oc_MC_contradiction, od_MC_contradiction, .func (PySem.W.fnOf "contradiction" "Wholes.contradiction" (defArgs s_Wholes_contradiction) (defBody s_Wholes_contradiction) (defScope s_Wholes_contradiction) .none kV_MC_contradiction dc_MC_contradiction pm_MC_contradiction an_MC_contradiction cd_MC_contradiction ct_MC_contradiction), sl_MC_contradiction⟩)
    (c_MC_contradiction : PySem.W.codeIn K cd_MC_contradiction "Wholes.contradiction" = true)
    (k_MC_contradiction : PySem.W.keepIn K (.ref f_MC_contradiction) = true)
    (i_MC_contradiction : PySem.W.isFn K (.ref f_MC_contradiction) = true)
    (a_satisfies : PySem.W.nsIn K mainGlobals "satisfies" = some (some (.ref f_satisfies)))
    (l_satisfies : K.lookup f_satisfies = some ⟨oc_satisfies, od_satisfies, .func (PySem.W.fnOf "satisfies" "satisfies" (defArgs s_satisfies) (defBody s_satisfies) (defScope s_satisfies) .none kV_satisfies dc_satisfies pm_satisfies an_satisfies cd_satisfies ct_satisfies), sl_satisfies⟩)
    (c_satisfies : PySem.W.codeIn K cd_satisfies "satisfies" = true)
    (k_satisfies : PySem.W.keepIn K (.ref f_satisfies) = true)
    (a_MC_ground : PySem.W.findIn K (.ref C) "ground" = some (some (.ref f_MC_ground)))
    (l_MC_ground : K.lookup f_MC_ground = some ⟨oc_MC_ground, od_MC_ground, .func (PySem.W.fnOf "ground" "Wholes.ground" (defArgs s_Wholes_ground) (defBody s_Wholes_ground) (defScope s_Wholes_ground) .none kV_MC_ground dc_MC_ground pm_MC_ground an_MC_ground cd_MC_ground ct_MC_ground), sl_MC_ground⟩)
    (c_MC_ground : PySem.W.codeIn K cd_MC_ground "Wholes.ground" = true)
    (k_MC_ground : PySem.W.keepIn K (.ref f_MC_ground) = true)
    (i_MC_ground : PySem.W.isFn K (.ref f_MC_ground) = true)
    (a_fitting : PySem.W.nsIn K mainGlobals "fitting" = some (some (.ref f_fitting)))
    (l_fitting : K.lookup f_fitting = some ⟨oc_fitting, od_fitting, .func (PySem.W.fnOf "fitting" "fitting" (defArgs s_fitting) (defBody s_fitting) (defScope s_fitting) .none kV_fitting dc_fitting pm_fitting an_fitting cd_fitting ct_fitting), sl_fitting⟩)
    (c_fitting : PySem.W.codeIn K cd_fitting "fitting" = true)
    (k_fitting : PySem.W.keepIn K (.ref f_fitting) = true)
    (aK_kind : PySem.W.nsIn K mainGlobals "Kind" = some (some (.ref CK_kind)))
    (p_top : (l.prog.main.scope.names.lookup ("super" : Str)).isSome = false)
    (z_super : PySem.W.nsIn K mainGlobals "super" = some none)
    (a_kind : PySem.W.findIn K (.ref CK_kind) "is_valid" = some (some (.ref f_kind)))
    (l_kind : K.lookup f_kind = some ⟨oc_kind, od_kind, .func (PySem.W.fnOf "is_valid" "Kind.is_valid" (defArgs s_Kind_is_valid) (defBody s_Kind_is_valid) (defScope s_Kind_is_valid) .none kV_kind dc_kind pm_kind an_kind cd_kind ct_kind), sl_kind⟩)
    (c_kind : PySem.W.codeIn K cd_kind "Kind.is_valid" = true)
    (k_kind : PySem.W.keepIn K (.ref f_kind) = true)
    (cdC_ : PySem.W.clsIn K C = some cdC_kind)
    (mC : PySem.W.mroIn K C (.ref C) = some true)
    (sC : PySem.W.ks_superIn K C C "is_valid" = some (some (.ref f_kind)))
    (tg : PySem.W.typeIn K (.ref f_kind) = some (.type "function"))
    (fg : PySem.W.fnIn K f_kind = true)
    (i_V : PySem.W.findIn K (.ref C) "is_valid" = some (some (.ref fV)))
    (l_V : K.lookup fV = some ⟨ocV, odV, .func (PySem.W.fnX "is_valid" "Wholes.is_valid" (defArgs s_Wholes_is_valid) (defBody s_Wholes_is_valid) (defScope s_Wholes_is_valid) [(("__class__" : Str), ccV)] .none kVV dcV pmV anV (.ref cdaV) ctV), oslV⟩)
    (c_V : PySem.W.codeIn K (.ref cdaV) "Wholes.is_valid" = true)
    (l_ccV : K.lookup ccV = some ⟨clV, cldV, .cell (some (.ref C)), cslV⟩)
    (l_cdaV : K.lookup cdaV = some ⟨cclV, cddV, .fields vsV, ccsV⟩)
    (v_cdaV : vsV[2]? = some (.str fileV tfV))
    (p_fileV : ((l.prog.main.file : Str) == fileV) = true)
    (iV : PySem.W.isFn K (.ref fV) = true)
    (kV_ : PySem.W.keepIn K (.ref fV) = true)
    (a_MC_pin : PySem.W.findIn K (.ref C) "pin" = some (some (.ref f_MC_pin)))
    (l_MC_pin : K.lookup f_MC_pin = some ⟨oc_MC_pin, od_MC_pin, .func (PySem.W.fnOf "pin" "Wholes.pin" (defArgs s_Wholes_pin) (defBody s_Wholes_pin) (defScope s_Wholes_pin) .none kV_MC_pin dc_MC_pin pm_MC_pin an_MC_pin cd_MC_pin ct_MC_pin), sl_MC_pin⟩)
    (c_MC_pin : PySem.W.codeIn K cd_MC_pin "Wholes.pin" = true)
    (k_MC_pin : PySem.W.keepIn K (.ref f_MC_pin) = true)
    (i_MC_pin : PySem.W.isFn K (.ref f_MC_pin) = true)
    (a_MC_lift : PySem.W.findIn K (.ref C) "lift" = some (some (.ref f_MC_lift)))
    (l_MC_lift : K.lookup f_MC_lift = some ⟨oc_MC_lift, od_MC_lift, .func (PySem.W.fnOf "lift" "Wholes.lift" (defArgs s_Wholes_lift) (defBody s_Wholes_lift) (defScope s_Wholes_lift) .none kV_MC_lift dc_MC_lift pm_MC_lift an_MC_lift cd_MC_lift ct_MC_lift), sl_MC_lift⟩)
    (c_MC_lift : PySem.W.codeIn K cd_MC_lift "Wholes.lift" = true)
    (k_MC_lift : PySem.W.keepIn K (.ref f_MC_lift) = true)
    (i_MC_lift : PySem.W.isFn K (.ref f_MC_lift) = true)
    (a_MC_rename : PySem.W.findIn K (.ref C) "rename" = some (some (.ref f_MC_rename)))
    (l_MC_rename : K.lookup f_MC_rename = some ⟨oc_MC_rename, od_MC_rename, .func (PySem.W.fnOf "rename" "Wholes.rename" (defArgs s_Wholes_rename) (defBody s_Wholes_rename) (defScope s_Wholes_rename) .none kV_MC_rename dc_MC_rename pm_MC_rename an_MC_rename cd_MC_rename ct_MC_rename), sl_MC_rename⟩)
    (c_MC_rename : PySem.W.codeIn K cd_MC_rename "Wholes.rename" = true)
    (k_MC_rename : PySem.W.keepIn K (.ref f_MC_rename) = true)
    (i_MC_rename : PySem.W.isFn K (.ref f_MC_rename) = true)
    (a__law_source : PySem.W.nsIn K mainGlobals "_law_source" = some (some (.ref f__law_source)))
    (l__law_source : K.lookup f__law_source = some ⟨oc__law_source, od__law_source, .func (PySem.W.fnOf "_law_source" "_law_source" (defArgs s__law_source) (defBody s__law_source) (defScope s__law_source) .none kV__law_source dc__law_source pm__law_source an__law_source cd__law_source ct__law_source), sl__law_source⟩)
    (c__law_source : PySem.W.codeIn K cd__law_source "_law_source" = true)
    (k__law_source : PySem.W.keepIn K (.ref f__law_source) = true)
    (a__law_draw : PySem.W.nsIn K mainGlobals "_law_draw" = some (some (.ref f__law_draw)))
    (l__law_draw : K.lookup f__law_draw = some ⟨oc__law_draw, od__law_draw, .func (PySem.W.fnOf "_law_draw" "_law_draw" (defArgs s__law_draw) (defBody s__law_draw) (defScope s__law_draw) .none kV__law_draw dc__law_draw pm__law_draw an__law_draw cd__law_draw ct__law_draw), sl__law_draw⟩)
    (c__law_draw : PySem.W.codeIn K cd__law_draw "_law_draw" = true)
    (k__law_draw : PySem.W.keepIn K (.ref f__law_draw) = true)
    (a__law_shared : PySem.W.nsIn K mainGlobals "_law_shared" = some (some (.ref f__law_shared)))
    (l__law_shared : K.lookup f__law_shared = some ⟨oc__law_shared, od__law_shared, .func (PySem.W.fnOf "_law_shared" "_law_shared" (defArgs s__law_shared) (defBody s__law_shared) (defScope s__law_shared) .none kV__law_shared dc__law_shared pm__law_shared an__law_shared cd__law_shared ct__law_shared), sl__law_shared⟩)
    (c__law_shared : PySem.W.codeIn K cd__law_shared "_law_shared" = true)
    (k__law_shared : PySem.W.keepIn K (.ref f__law_shared) = true)
    (a__law_is_int : PySem.W.nsIn K mainGlobals "_law_is_int" = some (some (.ref f__law_is_int)))
    (l__law_is_int : K.lookup f__law_is_int = some ⟨oc__law_is_int, od__law_is_int, .func (PySem.W.fnOf "_law_is_int" "_law_is_int" (defArgs s__law_is_int) (defBody s__law_is_int) (defScope s__law_is_int) .none kV__law_is_int dc__law_is_int pm__law_is_int an__law_is_int cd__law_is_int ct__law_is_int), sl__law_is_int⟩)
    (c__law_is_int : PySem.W.codeIn K cd__law_is_int "_law_is_int" = true)
    (k__law_is_int : PySem.W.keepIn K (.ref f__law_is_int) = true)
    (a__law_equal : PySem.W.nsIn K mainGlobals "_law_equal" = some (some (.ref f__law_equal)))
    (l__law_equal : K.lookup f__law_equal = some ⟨oc__law_equal, od__law_equal, .func (PySem.W.fnOf "_law_equal" "_law_equal" (defArgs s__law_equal) (defBody s__law_equal) (defScope s__law_equal) .none kV__law_equal dc__law_equal pm__law_equal an__law_equal cd__law_equal ct__law_equal), sl__law_equal⟩)
    (c__law_equal : PySem.W.codeIn K cd__law_equal "_law_equal" = true)
    (k__law_equal : PySem.W.keepIn K (.ref f__law_equal) = true)
    (a__law_says : PySem.W.nsIn K mainGlobals "_law_says" = some (some (.ref f__law_says)))
    (l__law_says : K.lookup f__law_says = some ⟨oc__law_says, od__law_says, .func (PySem.W.fnOf "_law_says" "_law_says" (defArgs s__law_says) (defBody s__law_says) (defScope s__law_says) .none kV__law_says dc__law_says pm__law_says an__law_says cd__law_says ct__law_says), sl__law_says⟩)
    (c__law_says : PySem.W.codeIn K cd__law_says "_law_says" = true)
    (k__law_says : PySem.W.keepIn K (.ref f__law_says) = true)
    (a__law_factor : PySem.W.nsIn K mainGlobals "_law_factor" = some (some (.ref f__law_factor)))
    (l__law_factor : K.lookup f__law_factor = some ⟨oc__law_factor, od__law_factor, .func (PySem.W.fnOf "_law_factor" "_law_factor" (defArgs s__law_factor) (defBody s__law_factor) (defScope s__law_factor) .none kV__law_factor dc__law_factor pm__law_factor an__law_factor cd__law_factor ct__law_factor), sl__law_factor⟩)
    (c__law_factor : PySem.W.codeIn K cd__law_factor "_law_factor" = true)
    (k__law_factor : PySem.W.keepIn K (.ref f__law_factor) = true)
    (a__law_sum : PySem.W.nsIn K mainGlobals "_law_sum" = some (some (.ref f__law_sum)))
    (l__law_sum : K.lookup f__law_sum = some ⟨oc__law_sum, od__law_sum, .func (PySem.W.fnOf "_law_sum" "_law_sum" (defArgs s__law_sum) (defBody s__law_sum) (defScope s__law_sum) .none kV__law_sum dc__law_sum pm__law_sum an__law_sum cd__law_sum ct__law_sum), sl__law_sum⟩)
    (c__law_sum : PySem.W.codeIn K cd__law_sum "_law_sum" = true)
    (k__law_sum : PySem.W.keepIn K (.ref f__law_sum) = true)
    (a__law_holds : PySem.W.nsIn K mainGlobals "_law_holds" = some (some (.ref f__law_holds)))
    (l__law_holds : K.lookup f__law_holds = some ⟨oc__law_holds, od__law_holds, .func (PySem.W.fnOf "_law_holds" "_law_holds" (defArgs s__law_holds) (defBody s__law_holds) (defScope s__law_holds) .none kV__law_holds dc__law_holds pm__law_holds an__law_holds cd__law_holds ct__law_holds), sl__law_holds⟩)
    (c__law_holds : PySem.W.codeIn K cd__law_holds "_law_holds" = true)
    (k__law_holds : PySem.W.keepIn K (.ref f__law_holds) = true)
    (a__law_valid : PySem.W.nsIn K mainGlobals "_law_valid" = some (some (.ref f__law_valid)))
    (l__law_valid : K.lookup f__law_valid = some ⟨oc__law_valid, od__law_valid, .func (PySem.W.fnOf "_law_valid" "_law_valid" (defArgs s__law_valid) (defBody s__law_valid) (defScope s__law_valid) .none kV__law_valid dc__law_valid pm__law_valid an__law_valid cd__law_valid ct__law_valid), sl__law_valid⟩)
    (c__law_valid : PySem.W.codeIn K cd__law_valid "_law_valid" = true)
    (k__law_valid : PySem.W.keepIn K (.ref f__law_valid) = true)
    (a__law_names : PySem.W.nsIn K mainGlobals "_law_names" = some (some (.ref f__law_names)))
    (l__law_names : K.lookup f__law_names = some ⟨oc__law_names, od__law_names, .func (PySem.W.fnOf "_law_names" "_law_names" (defArgs s__law_names) (defBody s__law_names) (defScope s__law_names) .none kV__law_names dc__law_names pm__law_names an__law_names cd__law_names ct__law_names), sl__law_names⟩)
    (c__law_names : PySem.W.codeIn K cd__law_names "_law_names" = true)
    (k__law_names : PySem.W.keepIn K (.ref f__law_names) = true)
    (a__law_terms : PySem.W.nsIn K mainGlobals "_law_terms" = some (some (.ref f__law_terms)))
    (l__law_terms : K.lookup f__law_terms = some ⟨oc__law_terms, od__law_terms, .func (PySem.W.fnOf "_law_terms" "_law_terms" (defArgs s__law_terms) (defBody s__law_terms) (defScope s__law_terms) .none kV__law_terms dc__law_terms pm__law_terms an__law_terms cd__law_terms ct__law_terms), sl__law_terms⟩)
    (c__law_terms : PySem.W.codeIn K cd__law_terms "_law_terms" = true)
    (k__law_terms : PySem.W.keepIn K (.ref f__law_terms) = true)
    (a__law_modulus : PySem.W.nsIn K mainGlobals "_law_modulus" = some (some (.ref f__law_modulus)))
    (l__law_modulus : K.lookup f__law_modulus = some ⟨oc__law_modulus, od__law_modulus, .func (PySem.W.fnOf "_law_modulus" "_law_modulus" (defArgs s__law_modulus) (defBody s__law_modulus) (defScope s__law_modulus) .none kV__law_modulus dc__law_modulus pm__law_modulus an__law_modulus cd__law_modulus ct__law_modulus), sl__law_modulus⟩)
    (c__law_modulus : PySem.W.codeIn K cd__law_modulus "_law_modulus" = true)
    (k__law_modulus : PySem.W.keepIn K (.ref f__law_modulus) = true)
    (a__law_values : PySem.W.nsIn K mainGlobals "_law_values" = some (some (.ref f__law_values)))
    (l__law_values : K.lookup f__law_values = some ⟨oc__law_values, od__law_values, .func (PySem.W.fnOf "_law_values" "_law_values" (defArgs s__law_values) (defBody s__law_values) (defScope s__law_values) .none kV__law_values dc__law_values pm__law_values an__law_values cd__law_values ct__law_values), sl__law_values⟩)
    (c__law_values : PySem.W.codeIn K cd__law_values "_law_values" = true)
    (k__law_values : PySem.W.keepIn K (.ref f__law_values) = true)
    (a__law_constraint : PySem.W.nsIn K mainGlobals "_law_constraint" = some (some (.ref f__law_constraint)))
    (l__law_constraint : K.lookup f__law_constraint = some ⟨oc__law_constraint, od__law_constraint, .func (PySem.W.fnOf "_law_constraint" "_law_constraint" (defArgs s__law_constraint) (defBody s__law_constraint) (defScope s__law_constraint) .none kV__law_constraint dc__law_constraint pm__law_constraint an__law_constraint cd__law_constraint ct__law_constraint), sl__law_constraint⟩)
    (c__law_constraint : PySem.W.codeIn K cd__law_constraint "_law_constraint" = true)
    (k__law_constraint : PySem.W.keepIn K (.ref f__law_constraint) = true)
    (a__law_told_apart : PySem.W.nsIn K mainGlobals "_law_told_apart" = some (some (.ref f__law_told_apart)))
    (l__law_told_apart : K.lookup f__law_told_apart = some ⟨oc__law_told_apart, od__law_told_apart, .func (PySem.W.fnOf "_law_told_apart" "_law_told_apart" (defArgs s__law_told_apart) (defBody s__law_told_apart) (defScope s__law_told_apart) .none kV__law_told_apart dc__law_told_apart pm__law_told_apart an__law_told_apart cd__law_told_apart ct__law_told_apart), sl__law_told_apart⟩)
    (c__law_told_apart : PySem.W.codeIn K cd__law_told_apart "_law_told_apart" = true)
    (k__law_told_apart : PySem.W.keepIn K (.ref f__law_told_apart) = true)
    (a__law_judged_right : PySem.W.nsIn K mainGlobals "_law_judged_right" = some (some (.ref f__law_judged_right)))
    (l__law_judged_right : K.lookup f__law_judged_right = some ⟨oc__law_judged_right, od__law_judged_right, .func (PySem.W.fnOf "_law_judged_right" "_law_judged_right" (defArgs s__law_judged_right) (defBody s__law_judged_right) (defScope s__law_judged_right) .none kV__law_judged_right dc__law_judged_right pm__law_judged_right an__law_judged_right cd__law_judged_right ct__law_judged_right), sl__law_judged_right⟩)
    (c__law_judged_right : PySem.W.codeIn K cd__law_judged_right "_law_judged_right" = true)
    (k__law_judged_right : PySem.W.keepIn K (.ref f__law_judged_right) = true)
    (a__law_holds_right : PySem.W.nsIn K mainGlobals "_law_holds_right" = some (some (.ref f__law_holds_right)))
    (l__law_holds_right : K.lookup f__law_holds_right = some ⟨oc__law_holds_right, od__law_holds_right, .func (PySem.W.fnOf "_law_holds_right" "_law_holds_right" (defArgs s__law_holds_right) (defBody s__law_holds_right) (defScope s__law_holds_right) .none kV__law_holds_right dc__law_holds_right pm__law_holds_right an__law_holds_right cd__law_holds_right ct__law_holds_right), sl__law_holds_right⟩)
    (c__law_holds_right : PySem.W.codeIn K cd__law_holds_right "_law_holds_right" = true)
    (k__law_holds_right : PySem.W.keepIn K (.ref f__law_holds_right) = true)
    (a__law_first : PySem.W.nsIn K mainGlobals "_law_first" = some (some (.ref f__law_first)))
    (l__law_first : K.lookup f__law_first = some ⟨oc__law_first, od__law_first, .func (PySem.W.fnOf "_law_first" "_law_first" (defArgs s__law_first) (defBody s__law_first) (defScope s__law_first) .none kV__law_first dc__law_first pm__law_first an__law_first cd__law_first ct__law_first), sl__law_first⟩)
    (c__law_first : PySem.W.codeIn K cd__law_first "_law_first" = true)
    (k__law_first : PySem.W.keepIn K (.ref f__law_first) = true)
    (a__law_lifted : PySem.W.nsIn K mainGlobals "_law_lifted" = some (some (.ref f__law_lifted)))
    (l__law_lifted : K.lookup f__law_lifted = some ⟨oc__law_lifted, od__law_lifted, .func (PySem.W.fnOf "_law_lifted" "_law_lifted" (defArgs s__law_lifted) (defBody s__law_lifted) (defScope s__law_lifted) .none kV__law_lifted dc__law_lifted pm__law_lifted an__law_lifted cd__law_lifted ct__law_lifted), sl__law_lifted⟩)
    (c__law_lifted : PySem.W.codeIn K cd__law_lifted "_law_lifted" = true)
    (k__law_lifted : PySem.W.keepIn K (.ref f__law_lifted) = true)
    (a__law_lift_right : PySem.W.nsIn K mainGlobals "_law_lift_right" = some (some (.ref f__law_lift_right)))
    (l__law_lift_right : K.lookup f__law_lift_right = some ⟨oc__law_lift_right, od__law_lift_right, .func (PySem.W.fnOf "_law_lift_right" "_law_lift_right" (defArgs s__law_lift_right) (defBody s__law_lift_right) (defScope s__law_lift_right) .none kV__law_lift_right dc__law_lift_right pm__law_lift_right an__law_lift_right cd__law_lift_right ct__law_lift_right), sl__law_lift_right⟩)
    (c__law_lift_right : PySem.W.codeIn K cd__law_lift_right "_law_lift_right" = true)
    (k__law_lift_right : PySem.W.keepIn K (.ref f__law_lift_right) = true)
    (a__law_ground_right : PySem.W.nsIn K mainGlobals "_law_ground_right" = some (some (.ref f__law_ground_right)))
    (l__law_ground_right : K.lookup f__law_ground_right = some ⟨oc__law_ground_right, od__law_ground_right, .func (PySem.W.fnOf "_law_ground_right" "_law_ground_right" (defArgs s__law_ground_right) (defBody s__law_ground_right) (defScope s__law_ground_right) .none kV__law_ground_right dc__law_ground_right pm__law_ground_right an__law_ground_right cd__law_ground_right ct__law_ground_right), sl__law_ground_right⟩)
    (c__law_ground_right : PySem.W.codeIn K cd__law_ground_right "_law_ground_right" = true)
    (k__law_ground_right : PySem.W.keepIn K (.ref f__law_ground_right) = true)
    (a__law_table : PySem.W.nsIn K mainGlobals "_law_table" = some (some (.ref f__law_table)))
    (l__law_table : K.lookup f__law_table = some ⟨oc__law_table, od__law_table, .func (PySem.W.fnOf "_law_table" "_law_table" (defArgs s__law_table) (defBody s__law_table) (defScope s__law_table) .none kV__law_table dc__law_table pm__law_table an__law_table cd__law_table ct__law_table), sl__law_table⟩)
    (c__law_table : PySem.W.codeIn K cd__law_table "_law_table" = true)
    (k__law_table : PySem.W.keepIn K (.ref f__law_table) = true)
    (a__law_renamed_right : PySem.W.nsIn K mainGlobals "_law_renamed_right" = some (some (.ref f__law_renamed_right)))
    (l__law_renamed_right : K.lookup f__law_renamed_right = some ⟨oc__law_renamed_right, od__law_renamed_right, .func (PySem.W.fnOf "_law_renamed_right" "_law_renamed_right" (defArgs s__law_renamed_right) (defBody s__law_renamed_right) (defScope s__law_renamed_right) .none kV__law_renamed_right dc__law_renamed_right pm__law_renamed_right an__law_renamed_right cd__law_renamed_right ct__law_renamed_right), sl__law_renamed_right⟩)
    (c__law_renamed_right : PySem.W.codeIn K cd__law_renamed_right "_law_renamed_right" = true)
    (k__law_renamed_right : PySem.W.keepIn K (.ref f__law_renamed_right) = true)
    (a_law : PySem.W.nsIn K mainGlobals "law" = some (some (.ref f_law)))
    (l_law : K.lookup f_law = some ⟨oc_law, od_law, .func (PySem.W.fnOf "law" "law" (defArgs s_law) (defBody s_law) (defScope s_law) .none kV_law dc_law pm_law an_law cd_law ct_law), sl_law⟩)
    (c_law : PySem.W.codeIn K cd_law "law" = true)
    (k_law : PySem.W.keepIn K (.ref f_law) = true)
    (z_tuple : PySem.W.nsIn K mainGlobals "tuple" = some none)
    (z_sorted : PySem.W.nsIn K mainGlobals "sorted" = some none)
    (z_dict : PySem.W.nsIn K mainGlobals "dict" = some none)
    (z_sum : PySem.W.nsIn K mainGlobals "sum" = some none)
    (z_zip : PySem.W.nsIn K mainGlobals "zip" = some none)
    (z_set : PySem.W.nsIn K mainGlobals "set" = some none)
    (z_list : PySem.W.nsIn K mainGlobals "list" = some none)
    (z_all : PySem.W.nsIn K mainGlobals "all" = some none)
    (z_len : PySem.W.nsIn K mainGlobals "len" = some none)
    (z_int : PySem.W.nsIn K mainGlobals "int" = some none)
    (z_abs : PySem.W.nsIn K mainGlobals "abs" = some none)
    (z_range : PySem.W.nsIn K mainGlobals "range" = some none)
    (z_isinstance : PySem.W.nsIn K mainGlobals "isinstance" = some none)
    (z_bool : PySem.W.nsIn K mainGlobals "bool" = some none)
    (z_str : PySem.W.nsIn K mainGlobals "str" = some none)
    : ∃ fd : FuncData, (∀ (s : Shared) (v : Value), BindsTo s fd ⟨[v], []⟩ [("_law_script", v)]) ∧ ∀ base : Heap, K.In base → base.Ns mainGlobals mg → FnOk l.prog w K mg base CX0 10 fa fd ["_law_script"] (spLaw K) := by
  have e := hfa.symm.trans (PySem.W.mg_of X G a_law)
  cases e
  have g_Wholes := PySem.W.mg_of X G aC
  have clC : Cls K C := ⟨pgC, hdC, poC, saC⟩
  have B_Wholes : Mk0.Bare K mg "Wholes" C := ⟨mkC, iniC, kcC, g_Wholes⟩
  have g_Sum := PySem.W.mg_of X G aCS
  have clCS : Cls K CS := ⟨pgCS, hdCS, poCS, saCS⟩
  have cf : CF K CS := ⟨clCS, nT⟩
  have g_NoSolution := PySem.W.mg_of X G aCF_
  have er : ErN K mg CF_ := ⟨g_NoSolution, xCF_, kkCF_, bbCF_, ttCF_⟩
  have te : PySem.W.exmOne K (.ref CF_) (.ref CF_) = some true := kit_exm bbCF_ cfCF_ ttCF_ ssCF_
  have rdW := cread_mk any_ tyC tga tsub
  have cvW : ClX.CVal K C (.type "type") "WORD" (.str (Str.ofString "wholes")) (.str (Str.ofString "wholes") tWCWORD) := ⟨cval_mk tmWORD cbCWORD ttCWORD sgCWORD, ⟨tWCWORD, rfl⟩⟩
  have F__added := fun_mk (x := "_added") (qual := "_added") (st := s__added) l__added c__added k__added
  have b__added := F__added.binds (ps := ["terms"]) fun _ _ _ _ _ _ us hl => match us, hl with | [_], _ => rfl
  have F_init : FunD K "__init__" "Sum.__init__" (defArgs s_Sum___init__) (defBody s_Sum___init__) (defScope s_Sum___init__) [V.ref e0] [] f_init _ := ⟨⟨_, _, _, _, _, _, _, _, _, _, rfl, l_init, c_init, .inr ⟨by simp, T_init, _, [.ref e0], _, rfl, t_init, rfl, .cons rfl .nil⟩, .inl rfl⟩, k_init⟩
  obtain ⟨di2, vi2, b_init2⟩ := F_init.binds1 (ps := ["self", "terms"]) 2 1 (by simp) rfl (fun T kV doc pm an cdv ct us its h1 h2 => match us, its, h1, h2 with | [_, _], [_], _, _ => ⟨_, rfl, rfl⟩)
  have F_MCS___getitem__ := fun_mk (x := "__getitem__") (qual := "Sum.__getitem__") (st := s_Sum___getitem__) l_MCS___getitem__ c_MCS___getitem__ k_MCS___getitem__
  have b_MCS___getitem__ := F_MCS___getitem__.binds (ps := ["self", "at"]) fun _ _ _ _ _ _ us hl => match us, hl with | [_, _], _ => rfl
  have F_MCS_at := fun_mk (x := "at") (qual := "Sum.at") (st := s_Sum_at) l_MCS_at c_MCS_at k_MCS_at
  have b_MCS_at := F_MCS_at.binds (ps := ["self", "assignment"]) fun _ _ _ _ _ _ us hl => match us, hl with | [_, _], _ => rfl
  have F_MCS_renamed := fun_mk (x := "renamed") (qual := "Sum.renamed") (st := s_Sum_renamed) l_MCS_renamed c_MCS_renamed k_MCS_renamed
  have b_MCS_renamed := F_MCS_renamed.binds (ps := ["self", "table"]) fun _ _ _ _ _ _ us hl => match us, hl with | [_, _], _ => rfl
  have F_progression := fun_mk (x := "progression") (qual := "progression") (st := s_progression) l_progression c_progression k_progression
  have b_progression := F_progression.binds (ps := ["modulus", "rest"]) fun _ _ _ _ _ _ us hl => match us, hl with | [_, _], _ => rfl
  have F_bezout := fun_mk (x := "bezout") (qual := "bezout") (st := s_bezout) l_bezout c_bezout k_bezout
  have b_bezout := F_bezout.binds (ps := ["first", "second"]) fun _ _ _ _ _ _ us hl => match us, hl with | [_, _], _ => rfl
  have F_solve_one := fun_mk (x := "solve_one") (qual := "solve_one") (st := s_solve_one) l_solve_one c_solve_one k_solve_one
  have b_solve_one := F_solve_one.binds (ps := ["coefficient", "modulus", "rest"]) fun _ _ _ _ _ _ us hl => match us, hl with | [_, _, _], _ => rfl
  have F_meet := fun_mk (x := "meet") (qual := "meet") (st := s_meet) l_meet c_meet k_meet
  have F_replace_names := fun_mk (x := "replace_names") (qual := "replace_names") (st := s_replace_names) l_replace_names c_replace_names k_replace_names
  have b_replace_names := F_replace_names.binds (ps := ["names", "table"]) fun _ _ _ _ _ _ us hl => match us, hl with | [_, _], _ => rfl
  have F_merge_names := fun_mk (x := "merge_names") (qual := "merge_names") (st := s_merge_names) l_merge_names c_merge_names k_merge_names
  have F_is_ascending := fun_mk (x := "is_ascending") (qual := "is_ascending") (st := s_is_ascending) l_is_ascending c_is_ascending k_is_ascending
  have b_is_ascending := F_is_ascending.binds (ps := ["values"]) fun _ _ _ _ _ _ us hl => match us, hl with | [_], _ => rfl
  have F_is_terms := fun_mk (x := "is_terms") (qual := "is_terms") (st := s_is_terms) l_is_terms c_is_terms k_is_terms
  have b_is_terms := F_is_terms.binds (ps := ["terms"]) fun _ _ _ _ _ _ us hl => match us, hl with | [_], _ => rfl
  have F__is_multiple := fun_mk (x := "_is_multiple") (qual := "_is_multiple") (st := s__is_multiple) l__is_multiple c__is_multiple k__is_multiple
  have b__is_multiple := F__is_multiple.binds (ps := ["number", "modulus"]) fun _ _ _ _ _ _ us hl => match us, hl with | [_, _], _ => rfl
  have F_MC_names_in := fun_mk (x := "names_in") (qual := "Wholes.names_in") (st := s_Wholes_names_in) l_MC_names_in c_MC_names_in k_MC_names_in
  have b_MC_names_in := F_MC_names_in.binds (ps := ["self", "constraint"]) fun _ _ _ _ _ _ us hl => match us, hl with | [_, _], _ => rfl
  have F_MC_holds := fun_mk (x := "holds") (qual := "Wholes.holds") (st := s_Wholes_holds) l_MC_holds c_MC_holds k_MC_holds
  have b_MC_holds := F_MC_holds.binds (ps := ["self", "constraint", "assignment"]) fun _ _ _ _ _ _ us hl => match us, hl with | [_, _, _], _ => rfl
  have F_MC_contradiction := fun_mk (x := "contradiction") (qual := "Wholes.contradiction") (st := s_Wholes_contradiction) l_MC_contradiction c_MC_contradiction k_MC_contradiction
  have b_MC_contradiction := F_MC_contradiction.binds (ps := ["self"]) fun _ _ _ _ _ _ us hl => match us, hl with | [_], _ => rfl
  have F_satisfies := fun_mk (x := "satisfies") (qual := "satisfies") (st := s_satisfies) l_satisfies c_satisfies k_satisfies
  have b_satisfies := F_satisfies.binds (ps := ["kind", "theory", "assignment"]) fun _ _ _ _ _ _ us hl => match us, hl with | [_, _, _], _ => rfl
  have F_MC_ground := fun_mk (x := "ground") (qual := "Wholes.ground") (st := s_Wholes_ground) l_MC_ground c_MC_ground k_MC_ground
  have b_MC_ground := F_MC_ground.binds (ps := ["self", "theory"]) fun _ _ _ _ _ _ us hl => match us, hl with | [_, _], _ => rfl
  have F_fitting := fun_mk (x := "fitting") (qual := "fitting") (st := s_fitting) l_fitting c_fitting k_fitting
  have b_fitting := F_fitting.binds (ps := ["constraints", "name", "assignment"]) fun _ _ _ _ _ _ us hl => match us, hl with | [_, _, _], _ => rfl
  have F_kind := fun_mk (x := "is_valid") (qual := "Kind.is_valid") (st := s_Kind_is_valid) l_kind c_kind k_kind
  have b_kind := F_kind.binds (ps := ["self", "names", "constraint"]) fun _ _ _ _ _ _ us hl => match us, hl with | [_, _, _], _ => rfl
  have T0 : SupM.SupA K C C "is_valid" f_kind := ⟨⟨cdC_kind, cdC_⟩, mC, sC, tg, fg, by decide +kernel⟩
  have F_MC_pin := fun_mk (x := "pin") (qual := "Wholes.pin") (st := s_Wholes_pin) l_MC_pin c_MC_pin k_MC_pin
  have b_MC_pin := F_MC_pin.binds (ps := ["self", "names", "assignment"]) fun _ _ _ _ _ _ us hl => match us, hl with | [_, _, _], _ => rfl
  have F_MC_lift := fun_mk (x := "lift") (qual := "Wholes.lift") (st := s_Wholes_lift) l_MC_lift c_MC_lift k_MC_lift
  have b_MC_lift := F_MC_lift.binds (ps := ["self", "theory", "name", "assignment"]) fun _ _ _ _ _ _ us hl => match us, hl with | [_, _, _, _], _ => rfl
  have F_MC_rename := fun_mk (x := "rename") (qual := "Wholes.rename") (st := s_Wholes_rename) l_MC_rename c_MC_rename k_MC_rename
  have b_MC_rename := F_MC_rename.binds (ps := ["self", "theory", "table"]) fun _ _ _ _ _ _ us hl => match us, hl with | [_, _, _], _ => rfl
  have F__law_source := fun_mk (x := "_law_source") (qual := "_law_source") (st := s__law_source) l__law_source c__law_source k__law_source
  have b__law_source := F__law_source.binds (ps := ["_law_script", "_law_k"]) fun _ _ _ _ _ _ us hl => match us, hl with | [_, _], _ => rfl
  have F__law_draw := fun_mk (x := "_law_draw") (qual := "_law_draw") (st := s__law_draw) l__law_draw c__law_draw k__law_draw
  have b__law_draw := F__law_draw.binds (ps := ["_law_source_here", "_law_limit"]) fun _ _ _ _ _ _ us hl => match us, hl with | [_, _], _ => rfl
  have F__law_shared := fun_mk (x := "_law_shared") (qual := "_law_shared") (st := s__law_shared) l__law_shared c__law_shared k__law_shared
  have b__law_shared := F__law_shared.binds (ps := ["_law_first_here", "_law_second"]) fun _ _ _ _ _ _ us hl => match us, hl with | [_, _], _ => rfl
  have F__law_is_int := fun_mk (x := "_law_is_int") (qual := "_law_is_int") (st := s__law_is_int) l__law_is_int c__law_is_int k__law_is_int
  have b__law_is_int := F__law_is_int.binds (ps := ["_law_value"]) fun _ _ _ _ _ _ us hl => match us, hl with | [_], _ => rfl
  have F__law_equal := fun_mk (x := "_law_equal") (qual := "_law_equal") (st := s__law_equal) l__law_equal c__law_equal k__law_equal
  have b__law_equal := F__law_equal.binds (ps := ["_law_actual", "_law_due"]) fun _ _ _ _ _ _ us hl => match us, hl with | [_, _], _ => rfl
  have F__law_says := fun_mk (x := "_law_says") (qual := "_law_says") (st := s__law_says) l__law_says c__law_says k__law_says
  have b__law_says := F__law_says.binds (ps := ["_law_actual", "_law_due"]) fun _ _ _ _ _ _ us hl => match us, hl with | [_, _], _ => rfl
  have F__law_factor := fun_mk (x := "_law_factor") (qual := "_law_factor") (st := s__law_factor) l__law_factor c__law_factor k__law_factor
  have b__law_factor := F__law_factor.binds (ps := ["_law_terms_here", "_law_name"]) fun _ _ _ _ _ _ us hl => match us, hl with | [_, _], _ => rfl
  have F__law_sum := fun_mk (x := "_law_sum") (qual := "_law_sum") (st := s__law_sum) l__law_sum c__law_sum k__law_sum
  have b__law_sum := F__law_sum.binds (ps := ["_law_terms_here", "_law_values_here"]) fun _ _ _ _ _ _ us hl => match us, hl with | [_, _], _ => rfl
  have F__law_holds := fun_mk (x := "_law_holds") (qual := "_law_holds") (st := s__law_holds) l__law_holds c__law_holds k__law_holds
  have b__law_holds := F__law_holds.binds (ps := ["_law_constraint_here", "_law_values_here"]) fun _ _ _ _ _ _ us hl => match us, hl with | [_, _], _ => rfl
  have F__law_valid := fun_mk (x := "_law_valid") (qual := "_law_valid") (st := s__law_valid) l__law_valid c__law_valid k__law_valid
  have b__law_valid := F__law_valid.binds (ps := ["_law_names_here", "_law_constraint_here"]) fun _ _ _ _ _ _ us hl => match us, hl with | [_, _], _ => rfl
  have F__law_names := fun_mk (x := "_law_names") (qual := "_law_names") (st := s__law_names) l__law_names c__law_names k__law_names
  have b__law_names := F__law_names.binds (ps := ["_law_source_here", "_law_count"]) fun _ _ _ _ _ _ us hl => match us, hl with | [_, _], _ => rfl
  have F__law_terms := fun_mk (x := "_law_terms") (qual := "_law_terms") (st := s__law_terms) l__law_terms c__law_terms k__law_terms
  have b__law_terms := F__law_terms.binds (ps := ["_law_source_here", "_law_names_here"]) fun _ _ _ _ _ _ us hl => match us, hl with | [_, _], _ => rfl
  have F__law_modulus := fun_mk (x := "_law_modulus") (qual := "_law_modulus") (st := s__law_modulus) l__law_modulus c__law_modulus k__law_modulus
  have b__law_modulus := F__law_modulus.binds (ps := ["_law_source_here"]) fun _ _ _ _ _ _ us hl => match us, hl with | [_], _ => rfl
  have F__law_values := fun_mk (x := "_law_values") (qual := "_law_values") (st := s__law_values) l__law_values c__law_values k__law_values
  have b__law_values := F__law_values.binds (ps := ["_law_source_here", "_law_names_here"]) fun _ _ _ _ _ _ us hl => match us, hl with | [_, _], _ => rfl
  have F__law_constraint := fun_mk (x := "_law_constraint") (qual := "_law_constraint") (st := s__law_constraint) l__law_constraint c__law_constraint k__law_constraint
  have b__law_constraint := F__law_constraint.binds (ps := ["_law_source_here", "_law_names_here", "_law_values_here"]) fun _ _ _ _ _ _ us hl => match us, hl with | [_, _, _], _ => rfl
  have F__law_told_apart := fun_mk (x := "_law_told_apart") (qual := "_law_told_apart") (st := s__law_told_apart) l__law_told_apart c__law_told_apart k__law_told_apart
  have b__law_told_apart := F__law_told_apart.binds (ps := ["_law_source_here", "_law_names_here", "_law_constraint_here", "_law_choice"]) fun _ _ _ _ _ _ us hl => match us, hl with | [_, _, _, _], _ => rfl
  have F__law_judged_right := fun_mk (x := "_law_judged_right") (qual := "_law_judged_right") (st := s__law_judged_right) l__law_judged_right c__law_judged_right k__law_judged_right
  have b__law_judged_right := F__law_judged_right.binds (ps := ["_law_source_here", "_law_names_here", "_law_constraint_here"]) fun _ _ _ _ _ _ us hl => match us, hl with | [_, _, _], _ => rfl
  have F__law_holds_right := fun_mk (x := "_law_holds_right") (qual := "_law_holds_right") (st := s__law_holds_right) l__law_holds_right c__law_holds_right k__law_holds_right
  have b__law_holds_right := F__law_holds_right.binds (ps := ["_law_source_here", "_law_names_here", "_law_constraint_here", "_law_values_here"]) fun _ _ _ _ _ _ us hl => match us, hl with | [_, _, _, _], _ => rfl
  have F__law_first := fun_mk (x := "_law_first") (qual := "_law_first") (st := s__law_first) l__law_first c__law_first k__law_first
  have b__law_first := F__law_first.binds (ps := ["_law_theory", "_law_name", "_law_values_here"]) fun _ _ _ _ _ _ us hl => match us, hl with | [_, _, _], _ => rfl
  have F__law_lifted := fun_mk (x := "_law_lifted") (qual := "_law_lifted") (st := s__law_lifted) l__law_lifted c__law_lifted k__law_lifted
  have b__law_lifted := F__law_lifted.binds (ps := ["_law_theory", "_law_name", "_law_values_here"]) fun _ _ _ _ _ _ us hl => match us, hl with | [_, _, _], _ => rfl
  have F__law_lift_right := fun_mk (x := "_law_lift_right") (qual := "_law_lift_right") (st := s__law_lift_right) l__law_lift_right c__law_lift_right k__law_lift_right
  have b__law_lift_right := F__law_lift_right.binds (ps := ["_law_theory", "_law_name", "_law_values_here"]) fun _ _ _ _ _ _ us hl => match us, hl with | [_, _, _], _ => rfl
  have F__law_ground_right := fun_mk (x := "_law_ground_right") (qual := "_law_ground_right") (st := s__law_ground_right) l__law_ground_right c__law_ground_right k__law_ground_right
  have b__law_ground_right := F__law_ground_right.binds (ps := ["_law_theory"]) fun _ _ _ _ _ _ us hl => match us, hl with | [_], _ => rfl
  have F__law_table := fun_mk (x := "_law_table") (qual := "_law_table") (st := s__law_table) l__law_table c__law_table k__law_table
  have b__law_table := F__law_table.binds (ps := ["_law_source_here", "_law_names_here"]) fun _ _ _ _ _ _ us hl => match us, hl with | [_, _], _ => rfl
  have F__law_renamed_right := fun_mk (x := "_law_renamed_right") (qual := "_law_renamed_right") (st := s__law_renamed_right) l__law_renamed_right c__law_renamed_right k__law_renamed_right
  have b__law_renamed_right := F__law_renamed_right.binds (ps := ["_law_source_here", "_law_theory"]) fun _ _ _ _ _ _ us hl => match us, hl with | [_, _], _ => rfl
  have F_law := fun_mk (x := "law") (qual := "law") (st := s_law) l_law c_law k_law
  have m_tuple := PySem.W.mg_none_of X G z_tuple
  have m_sorted := PySem.W.mg_none_of X G z_sorted
  have m_dict := PySem.W.mg_none_of X G z_dict
  have m_sum := PySem.W.mg_none_of X G z_sum
  have m_zip := PySem.W.mg_none_of X G z_zip
  have m_set := PySem.W.mg_none_of X G z_set
  have m_list := PySem.W.mg_none_of X G z_list
  have m_all := PySem.W.mg_none_of X G z_all
  have m_len := PySem.W.mg_none_of X G z_len
  have m_int := PySem.W.mg_none_of X G z_int
  have m_abs := PySem.W.mg_none_of X G z_abs
  have m_range := PySem.W.mg_none_of X G z_range
  have m_isinstance := PySem.W.mg_none_of X G z_isinstance
  have m_bool := PySem.W.mg_none_of X G z_bool
  have m_str := PySem.W.mg_none_of X G z_str
  refine ⟨PySem.W.fnOf "law" "law" (defArgs s_law) (defBody s_law) (defScope s_law) .none kV_law dc_law pm_law an_law cd_law ct_law, fun s v => .of_eq rfl, fun base _ _ => ?_⟩
  have C__added : Cal l.prog w K mg base "_added" 1 ["terms"] (spAdded K) := ⟨_, _, ok_added (F := F__added) (m_tuple := m_tuple) (m_sorted := m_sorted), PySem.W.mg_of X G a__added, F__added.kp, b__added⟩
  have K_Sum : MkS l.prog w K mg base CS := ⟨_, _, di2, ⟨mkCS, a_init, fi_init, kcCS⟩, ok_init cf F_init C__added, g_Sum, b_init2, by cases vi2; exact .nil⟩
  have O___getitem__ : OwM l.prog w K mg base CX0 CS "__getitem__" 1 ["self", "at"] (spGet K CS) := ⟨_, _, ok_get (F := F_MCS___getitem__) (cf := cf) (m_dict := m_dict), a_MCS___getitem__, i_MCS___getitem__, k_MCS___getitem__, b_MCS___getitem__⟩
  have fi_getitem : ∀ f, PySem.W.findIn K (.ref CS) "__getitem__" = some (some (.ref f)) → PySem.W.fnIn K f = true := fun f hf => by
    have e := hf.symm.trans a_MCS___getitem__
    cases e
    exact fn_MCS___getitem__
  have S_at : MthC l.prog w K mg base CS "at" 1 ["self", "assignment"] (spAt K CS) := ⟨_, _, clCS, ⟨a_MCS_at, i_MCS_at, k_MCS_at⟩, ok_at (F := F_MCS_at) (cf := cf) (m_sum := m_sum), b_MCS_at⟩
  have S_renamed : MthC l.prog w K mg base CS "renamed" 4 ["self", "table"] (spRen K CS) := ⟨_, _, clCS, ⟨a_MCS_renamed, i_MCS_renamed, k_MCS_renamed⟩, ok_renamed (F := F_MCS_renamed) (cf := cf) (K_Sum := K_Sum), b_MCS_renamed⟩
  have C_progression : Cal l.prog w K mg base "progression" 1 ["modulus", "rest"] spProg := ⟨_, _, ok_progression (F := F_progression) , PySem.W.mg_of X G a_progression, F_progression.kp, b_progression⟩
  have C_bezout : Cal l.prog w K mg base "bezout" 1 ["first", "second"] spBez := ⟨_, _, ok_bezout (F := F_bezout) (m_zip := m_zip) (m_tuple := m_tuple), PySem.W.mg_of X G a_bezout, F_bezout.kp, b_bezout⟩
  have C_solve_one : Cal l.prog w K mg base "solve_one" 2 ["coefficient", "modulus", "rest"] spSolve := ⟨_, _, ok_solve_one (F := F_solve_one) (C_bezout := C_bezout) (C_progression := C_progression), PySem.W.mg_of X G a_solve_one, F_solve_one.kp, b_solve_one⟩
  have C_meet : CalR l.prog w K mg base "meet" 3 (spMeet K) := ⟨_, ok_meet (F := F_meet) (C_solve_one := C_solve_one) (C_progression := C_progression), PySem.W.mg_of X G a_meet, F_meet.kp⟩
  have C_replace_names : Cal l.prog w K mg base "replace_names" 1 ["names", "table"] (spRepl K) := ⟨_, _, ok_repl (F := F_replace_names) , PySem.W.mg_of X G a_replace_names, F_replace_names.kp, b_replace_names⟩
  have C_merge_names : CalR l.prog w K mg base "merge_names" 1 (spMerge K) := ⟨_, ok_merge_names (F := F_merge_names) (m_set := m_set) (m_sorted := m_sorted) (m_tuple := m_tuple), PySem.W.mg_of X G a_merge_names, F_merge_names.kp⟩
  have C_is_ascending : Cal l.prog w K mg base "is_ascending" 1 ["values"] (spAsc K) := ⟨_, _, ok_is_ascending (F := F_is_ascending) (m_list := m_list) (m_set := m_set) (m_sorted := m_sorted), PySem.W.mg_of X G a_is_ascending, F_is_ascending.kp, b_is_ascending⟩
  have C_is_terms : Cal l.prog w K mg base "is_terms" 2 ["terms"] (spIsTerms K) := ⟨_, _, ok_is_terms (F := F_is_terms) (C_is_ascending := C_is_ascending) (m_all := m_all), PySem.W.mg_of X G a_is_terms, F_is_terms.kp, b_is_terms⟩
  have C__is_multiple : Cal l.prog w K mg base "_is_multiple" 1 ["number", "modulus"] spMult := ⟨_, _, ok_multiple (F := F__is_multiple) , PySem.W.mg_of X G a__is_multiple, F__is_multiple.kp, b__is_multiple⟩
  have M_names_in : MthC l.prog w K mg base C "names_in" 1 ["self", "constraint"] (spNI K) := ⟨_, _, clC, ⟨a_MC_names_in, i_MC_names_in, k_MC_names_in⟩, ok_names_in (F := F_MC_names_in) (m_tuple := m_tuple), b_MC_names_in⟩
  have M_holds : MthC l.prog w K mg base C "holds" 4 ["self", "constraint", "assignment"] (spHolds K) := ⟨_, _, clC, ⟨a_MC_holds, i_MC_holds, k_MC_holds⟩, ok_holds (F := F_MC_holds) (K_Sum := K_Sum) (S_at := S_at) (C__is_multiple := C__is_multiple), b_MC_holds⟩
  have M_contradiction : MthC l.prog w K mg base C "contradiction" 1 ["self"] (spContr K) := ⟨_, _, clC, ⟨a_MC_contradiction, i_MC_contradiction, k_MC_contradiction⟩, ok_contr (F := F_MC_contradiction) , b_MC_contradiction⟩
  have C_satisfies : Cal l.prog w K mg base "satisfies" 5 ["kind", "theory", "assignment"] (spSat K C) := ⟨_, _, ok_satisfies (F := F_satisfies) (m_all := m_all) (M_holds := M_holds), PySem.W.mg_of X G a_satisfies, F_satisfies.kp, b_satisfies⟩
  have M_ground : MthC l.prog w K mg base C "ground" 6 ["self", "theory"] (spGround K C) := ⟨_, _, clC, ⟨a_MC_ground, i_MC_ground, k_MC_ground⟩, ok_ground (F := F_MC_ground) (C_satisfies := C_satisfies), b_MC_ground⟩
  have C_fitting : Cal l.prog w K mg base "fitting" 4 ["constraints", "name", "assignment"] (spFit K) := ⟨_, _, ok_fitting (F := F_fitting) (K_Sum := K_Sum) (S_at := S_at) (O___getitem__ := O___getitem__) (fi_getitem := fi_getitem) (C_solve_one := C_solve_one) (C_meet := C_meet), PySem.W.mg_of X G a_fitting, F_fitting.kp, b_fitting⟩
  have F0 : FnR l.prog w K mg base CX0 2 f_kind (spKV K C) := FnR.imp (FnOk.raw (ok_kind_valid (C := C) (F := F_kind) (m_all := m_all) (M_names_in := M_names_in)) b_kind .nil) fun vs H Q E h => by rw [List.append_nil]; exact h
  have M_is_valid : MthC l.prog w K mg base C "is_valid" 4 ["self", "names", "constraint"] (spSV K C) := ⟨fV, _, clC, ⟨i_V, iV, kV_⟩, ok_valid l_V c_V ⟨clV, cldV, cslV, l_ccV⟩ ⟨cclV, cddV, vsV, ccsV, fileV, tfV, l_cdaV, v_cdaV, p_fileV⟩ p_top (PySem.W.mg_none_of X G z_super) any_ T0 F0 C_is_terms, Binds.all fun us hl => match us, hl with | [_, _, _], _ => rfl⟩
  have M_pin : MthC l.prog w K mg base C "pin" 1 ["self", "names", "assignment"] (spPin K) := ⟨_, _, clC, ⟨a_MC_pin, i_MC_pin, k_MC_pin⟩, ok_pin (F := F_MC_pin) (m_tuple := m_tuple), b_MC_pin⟩
  have M_lift : MthX l.prog w K mg base C "lift" 5 ["self", "theory", "name", "assignment"] (spLift K CF_) := ⟨_, _, clC, ⟨a_MC_lift, i_MC_lift, k_MC_lift⟩, ok_lift (F := F_MC_lift) (er := er) (C_fitting := C_fitting), b_MC_lift⟩
  have M_rename : MthC l.prog w K mg base C "rename" 6 ["self", "theory", "table"] (spWRen K) := ⟨_, _, clC, ⟨a_MC_rename, i_MC_rename, k_MC_rename⟩, ok_wrename (F := F_MC_rename) (cf := cf) (m_tuple := m_tuple) (K_Sum := K_Sum) (S_renamed := S_renamed) (C_merge_names := C_merge_names) (C_replace_names := C_replace_names), b_MC_rename⟩
  have C__law_source : Cal l.prog w K mg base "_law_source" 1 ["_law_script", "_law_k"] (spSource K) := ⟨_, _, ok_source (F := F__law_source) (m_len := m_len) (m_int := m_int), PySem.W.mg_of X G a__law_source, F__law_source.kp, b__law_source⟩
  have C__law_draw : Cal l.prog w K mg base "_law_draw" 1 ["_law_source_here", "_law_limit"] spDraw := ⟨_, _, ok_draw (F := F__law_draw) (m_int := m_int), PySem.W.mg_of X G a__law_draw, F__law_draw.kp, b__law_draw⟩
  have C__law_shared : Cal l.prog w K mg base "_law_shared" 1 ["_law_first_here", "_law_second"] spShared := ⟨_, _, ok_shared (F := F__law_shared) (m_abs := m_abs) (m_range := m_range) (m_int := m_int), PySem.W.mg_of X G a__law_shared, F__law_shared.kp, b__law_shared⟩
  have C__law_is_int : Cal l.prog w K mg base "_law_is_int" 1 ["_law_value"] spIsInt := ⟨_, _, ok_is_int (F := F__law_is_int) (m_isinstance := m_isinstance) (m_int := m_int) (m_bool := m_bool), PySem.W.mg_of X G a__law_is_int, F__law_is_int.kp, b__law_is_int⟩
  have C__law_equal : Cal l.prog w K mg base "_law_equal" 8 ["_law_actual", "_law_due"] (spEq K 6) := ⟨_, _, ok_equal (F := F__law_equal) (m_isinstance := m_isinstance) (m_tuple := m_tuple) (m_str := m_str) (m_len := m_len) (m_range := m_range) (C__law_is_int := C__law_is_int) (gS := PySem.W.mg_of X G a__law_equal) (kS := F__law_equal.kp) (bS := b__law_equal) 6, PySem.W.mg_of X G a__law_equal, F__law_equal.kp, b__law_equal⟩
  have C__law_says : Cal l.prog w K mg base "_law_says" 1 ["_law_actual", "_law_due"] spSays := ⟨_, _, ok_says (F := F__law_says) , PySem.W.mg_of X G a__law_says, F__law_says.kp, b__law_says⟩
  have C__law_factor : Cal l.prog w K mg base "_law_factor" 1 ["_law_terms_here", "_law_name"] (spFactor K) := ⟨_, _, ok_factor (F := F__law_factor) (m_sum := m_sum), PySem.W.mg_of X G a__law_factor, F__law_factor.kp, b__law_factor⟩
  have C__law_sum : Cal l.prog w K mg base "_law_sum" 1 ["_law_terms_here", "_law_values_here"] (spSum K) := ⟨_, _, ok_sum (F := F__law_sum) (m_sum := m_sum), PySem.W.mg_of X G a__law_sum, F__law_sum.kp, b__law_sum⟩
  have C__law_holds : Cal l.prog w K mg base "_law_holds" 2 ["_law_constraint_here", "_law_values_here"] (spLHolds K) := ⟨_, _, ok_lholds (F := F__law_holds) (m_int := m_int) (C__law_sum := C__law_sum), PySem.W.mg_of X G a__law_holds, F__law_holds.kp, b__law_holds⟩
  have C__law_valid : Cal l.prog w K mg base "_law_valid" 1 ["_law_names_here", "_law_constraint_here"] (spLValid K) := ⟨_, _, ok_lvalid (F := F__law_valid) (m_range := m_range) (m_len := m_len), PySem.W.mg_of X G a__law_valid, F__law_valid.kp, b__law_valid⟩
  have C__law_names : Cal l.prog w K mg base "_law_names" 2 ["_law_source_here", "_law_count"] (spNames K) := ⟨_, _, ok_names (F := F__law_names) (m_range := m_range) (m_len := m_len) (m_tuple := m_tuple) (C__law_draw := C__law_draw), PySem.W.mg_of X G a__law_names, F__law_names.kp, b__law_names⟩
  have C__law_terms : Cal l.prog w K mg base "_law_terms" 2 ["_law_source_here", "_law_names_here"] (spTerms K) := ⟨_, _, ok_terms (F := F__law_terms) (m_tuple := m_tuple) (C__law_draw := C__law_draw), PySem.W.mg_of X G a__law_terms, F__law_terms.kp, b__law_terms⟩
  have C__law_modulus : Cal l.prog w K mg base "_law_modulus" 2 ["_law_source_here"] spModu := ⟨_, _, ok_modulus (F := F__law_modulus) (C__law_draw := C__law_draw), PySem.W.mg_of X G a__law_modulus, F__law_modulus.kp, b__law_modulus⟩
  have C__law_values : Cal l.prog w K mg base "_law_values" 2 ["_law_source_here", "_law_names_here"] (spVals K) := ⟨_, _, ok_values (F := F__law_values) (C__law_draw := C__law_draw), PySem.W.mg_of X G a__law_values, F__law_values.kp, b__law_values⟩
  have C__law_constraint : Cal l.prog w K mg base "_law_constraint" 3 ["_law_source_here", "_law_names_here", "_law_values_here"] (spCons K) := ⟨_, _, ok_cons (F := F__law_constraint) (m_int := m_int) (m_abs := m_abs) (C__law_draw := C__law_draw) (C__law_terms := C__law_terms) (C__law_modulus := C__law_modulus) (C__law_sum := C__law_sum), PySem.W.mg_of X G a__law_constraint, F__law_constraint.kp, b__law_constraint⟩
  have C__law_told_apart : Cal l.prog w K mg base "_law_told_apart" 5 ["_law_source_here", "_law_names_here", "_law_constraint_here", "_law_choice"] (spTold K) := ⟨_, _, ok_told (F := F__law_told_apart) (m_list := m_list) (m_len := m_len) (m_tuple := m_tuple) (B_Wholes := B_Wholes) (M_is_valid := M_is_valid) (C__law_draw := C__law_draw) (C__law_says := C__law_says) (C__law_valid := C__law_valid), PySem.W.mg_of X G a__law_told_apart, F__law_told_apart.kp, b__law_told_apart⟩
  have C__law_judged_right : Cal l.prog w K mg base "_law_judged_right" 9 ["_law_source_here", "_law_names_here", "_law_constraint_here"] (spJudged K) := ⟨_, _, ok_judged (F := F__law_judged_right) (m_tuple := m_tuple) (m_range := m_range) (B_Wholes := B_Wholes) (M_is_valid := M_is_valid) (M_names_in := M_names_in) (C__law_equal := C__law_equal) (C__law_told_apart := C__law_told_apart), PySem.W.mg_of X G a__law_judged_right, F__law_judged_right.kp, b__law_judged_right⟩
  have C__law_holds_right : Cal l.prog w K mg base "_law_holds_right" 5 ["_law_source_here", "_law_names_here", "_law_constraint_here", "_law_values_here"] (spHR K) := ⟨_, _, ok_hr (F := F__law_holds_right) (m_dict := m_dict) (m_len := m_len) (B_Wholes := B_Wholes) (M_holds := M_holds) (C__law_draw := C__law_draw) (C__law_says := C__law_says) (C__law_holds := C__law_holds), PySem.W.mg_of X G a__law_holds_right, F__law_holds_right.kp, b__law_holds_right⟩
  have C__law_first : Cal l.prog w K mg base "_law_first" 2 ["_law_theory", "_law_name", "_law_values_here"] (spFirst K) := ⟨_, _, ok_first (F := F__law_first) (m_int := m_int) (m_abs := m_abs) (m_len := m_len) (m_range := m_range) (C__law_factor := C__law_factor) (C__law_sum := C__law_sum) (C__law_shared := C__law_shared), PySem.W.mg_of X G a__law_first, F__law_first.kp, b__law_first⟩
  have C__law_lifted : Cal l.prog w K mg base "_law_lifted" 6 ["_law_theory", "_law_name", "_law_values_here"] (spLifted K) := ⟨_, _, ok_lifted (F := F__law_lifted) (er := er) (te := te) (B_Wholes := B_Wholes) (M_lift := M_lift), PySem.W.mg_of X G a__law_lifted, F__law_lifted.kp, b__law_lifted⟩
  have C__law_lift_right : Cal l.prog w K mg base "_law_lift_right" 7 ["_law_theory", "_law_name", "_law_values_here"] (spLR K) := ⟨_, _, ok_lr (F := F__law_lift_right) (m_dict := m_dict) (C__law_first := C__law_first) (C__law_lifted := C__law_lifted) (C__law_is_int := C__law_is_int), PySem.W.mg_of X G a__law_lift_right, F__law_lift_right.kp, b__law_lift_right⟩
  have C__law_ground_right : Cal l.prog w K mg base "_law_ground_right" 7 ["_law_theory"] (spGR K) := ⟨_, _, ok_gr (F := F__law_ground_right) (m_tuple := m_tuple) (m_dict := m_dict) (m_len := m_len) (m_isinstance := m_isinstance) (B_Wholes := B_Wholes) (M_ground := M_ground) (C__law_holds := C__law_holds), PySem.W.mg_of X G a__law_ground_right, F__law_ground_right.kp, b__law_ground_right⟩
  have C__law_table : Cal l.prog w K mg base "_law_table" 2 ["_law_source_here", "_law_names_here"] (spTable K) := ⟨_, _, ok_table (F := F__law_table) (m_len := m_len) (m_list := m_list) (m_range := m_range) (C__law_draw := C__law_draw), PySem.W.mg_of X G a__law_table, F__law_table.kp, b__law_table⟩
  have C__law_renamed_right : Cal l.prog w K mg base "_law_renamed_right" 9 ["_law_source_here", "_law_theory"] (spRR K) := ⟨_, _, ok_rr (F := F__law_renamed_right) (m_dict := m_dict) (m_tuple := m_tuple) (m_sorted := m_sorted) (B_Wholes := B_Wholes) (M_rename := M_rename) (C__law_table := C__law_table) (C__law_equal := C__law_equal), PySem.W.mg_of X G a__law_renamed_right, F__law_renamed_right.kp, b__law_renamed_right⟩
  exact ok_law F_law (m_range := m_range) (m_tuple := m_tuple) (m_dict := m_dict) (B_Wholes := B_Wholes) (g_Wholes := g_Wholes) (rdW := rdW) (cvW := cvW) (M_contradiction := M_contradiction) (M_pin := M_pin) (C__law_source := C__law_source) (C__law_draw := C__law_draw) (C__law_names := C__law_names) (C__law_values := C__law_values) (C__law_constraint := C__law_constraint) (C__law_judged_right := C__law_judged_right) (C__law_holds_right := C__law_holds_right) (C__law_renamed_right := C__law_renamed_right) (C__law_ground_right := C__law_ground_right) (C__law_equal := C__law_equal) (C__law_lift_right := C__law_lift_right)
end K31
open PySem PySem.W PyProof.Rows
set_option maxRecDepth 100000 in
set_option maxHeartbeats 0 in
theorem PySem.Challenge.cw_shadowlinks_k31_methods_of_wholes_holds : PySem.Challenge.rw_shadowlinks_k31_methods_of_wholes.Holds := by
  w_on; o_law; k_head; (case hw => w_witness2)
  k_fill
  refine L2.walk_of (l := PySem.Challenge.rw_shadowlinks_k31_methods_of_wholes) (n := 63) (k := 10) (x := "_law_script") (CX := fun _ => L2.CX0) (sp := fun w => K31.spLaw _) rfl (by decide) rfl ⟨rfl, by decide, by decide⟩ (fun w h Y => PySem.W.kIn_of Y) ?F (fun _ _ a ns hl _ hS => ⟨a, ns, rfl, hS, hl, fun _ => rfl⟩) (fun _ _ _ _ _ h => h)
  case F =>
    intro w mg fa h KX G hmg
    refine' K31.all_mk KX G hmg ?aC ?pgC ?hdC ?poC ?saC ?mkC ?kcC ?iniC ?aCS ?pgCS ?hdCS ?poCS ?saCS ?mkCS ?kcCS ?nT ?aCF_ ?xCF_ ?kkCF_ ?bbCF_ ?ttCF_ ?cfCF_ ?ssCF_ ?any_ ?tyC ?tga ?tsub ?tmWORD ?cbCWORD ?sgCWORD ?ttCWORD ?a__added ?l__added ?c__added ?k__added ?a_init ?l_init ?c_init ?k_init ?fi_init ?t_init ?a_MCS___getitem__ ?l_MCS___getitem__ ?c_MCS___getitem__ ?k_MCS___getitem__ ?i_MCS___getitem__ ?fn_MCS___getitem__ ?a_MCS_at ?l_MCS_at ?c_MCS_at ?k_MCS_at ?i_MCS_at ?a_MCS_renamed ?l_MCS_renamed ?c_MCS_renamed ?k_MCS_renamed ?i_MCS_renamed ?a_progression ?l_progression ?c_progression ?k_progression ?a_bezout ?l_bezout ?c_bezout ?k_bezout ?a_solve_one ?l_solve_one ?c_solve_one ?k_solve_one ?a_meet ?l_meet ?c_meet ?k_meet ?a_replace_names ?l_replace_names ?c_replace_names ?k_replace_names ?a_merge_names ?l_merge_names ?c_merge_names ?k_merge_names ?a_is_ascending ?l_is_ascending ?c_is_ascending ?k_is_ascending ?a_is_terms ?l_is_terms ?c_is_terms ?k_is_terms ?a__is_multiple ?l__is_multiple ?c__is_multiple ?k__is_multiple ?a_MC_names_in ?l_MC_names_in ?c_MC_names_in ?k_MC_names_in ?i_MC_names_in ?a_MC_holds ?l_MC_holds ?c_MC_holds ?k_MC_holds ?i_MC_holds ?a_MC_contradiction ?l_MC_contradiction ?c_MC_contradiction ?k_MC_contradiction ?i_MC_contradiction ?a_satisfies ?l_satisfies ?c_satisfies ?k_satisfies ?a_MC_ground ?l_MC_ground ?c_MC_ground ?k_MC_ground ?i_MC_ground ?a_fitting ?l_fitting ?c_fitting ?k_fitting ?aK_kind ?p_top ?z_super ?a_kind ?l_kind ?c_kind ?k_kind ?cdC_ ?mC ?sC ?tg ?fg ?i_V ?l_V ?c_V ?l_ccV ?l_cdaV ?v_cdaV ?p_fileV ?iV ?kV_ ?a_MC_pin ?l_MC_pin ?c_MC_pin ?k_MC_pin ?i_MC_pin ?a_MC_lift ?l_MC_lift ?c_MC_lift ?k_MC_lift ?i_MC_lift ?a_MC_rename ?l_MC_rename ?c_MC_rename ?k_MC_rename ?i_MC_rename ?a__law_source ?l__law_source ?c__law_source ?k__law_source ?a__law_draw ?l__law_draw ?c__law_draw ?k__law_draw ?a__law_shared ?l__law_shared ?c__law_shared ?k__law_shared ?a__law_is_int ?l__law_is_int ?c__law_is_int ?k__law_is_int ?a__law_equal ?l__law_equal ?c__law_equal ?k__law_equal ?a__law_says ?l__law_says ?c__law_says ?k__law_says ?a__law_factor ?l__law_factor ?c__law_factor ?k__law_factor ?a__law_sum ?l__law_sum ?c__law_sum ?k__law_sum ?a__law_holds ?l__law_holds ?c__law_holds ?k__law_holds ?a__law_valid ?l__law_valid ?c__law_valid ?k__law_valid ?a__law_names ?l__law_names ?c__law_names ?k__law_names ?a__law_terms ?l__law_terms ?c__law_terms ?k__law_terms ?a__law_modulus ?l__law_modulus ?c__law_modulus ?k__law_modulus ?a__law_values ?l__law_values ?c__law_values ?k__law_values ?a__law_constraint ?l__law_constraint ?c__law_constraint ?k__law_constraint ?a__law_told_apart ?l__law_told_apart ?c__law_told_apart ?k__law_told_apart ?a__law_judged_right ?l__law_judged_right ?c__law_judged_right ?k__law_judged_right ?a__law_holds_right ?l__law_holds_right ?c__law_holds_right ?k__law_holds_right ?a__law_first ?l__law_first ?c__law_first ?k__law_first ?a__law_lifted ?l__law_lifted ?c__law_lifted ?k__law_lifted ?a__law_lift_right ?l__law_lift_right ?c__law_lift_right ?k__law_lift_right ?a__law_ground_right ?l__law_ground_right ?c__law_ground_right ?k__law_ground_right ?a__law_table ?l__law_table ?c__law_table ?k__law_table ?a__law_renamed_right ?l__law_renamed_right ?c__law_renamed_right ?k__law_renamed_right ?a_law ?l_law ?c_law ?k_law ?z_tuple ?z_sorted ?z_dict ?z_sum ?z_zip ?z_set ?z_list ?z_all ?z_len ?z_int ?z_abs ?z_range ?z_isinstance ?z_bool ?z_str
    (case aC => k_is)
    (case pgC => k_is)
    (case hdC => k_is)
    (case poC => k_is)
    (case saC => k_is)
    (case mkC => k_is)
    (case kcC => k_is)
    (case iniC => k_is)
    (case aCS => k_is)
    (case pgCS => k_is)
    (case hdCS => k_is)
    (case poCS => k_is)
    (case saCS => k_is)
    (case mkCS => k_is)
    (case kcCS => k_is)
    (case nT => k_is)
    (case aCF_ => k_is)
    (case xCF_ => k_exc)
    (case kkCF_ => k_is)
    (case bbCF_ => k_is)
    (case ttCF_ => k_is)
    (case cfCF_ => k_is)
    (case ssCF_ => k_is)
    (case any_ => k_is)
    (case tyC => k_is)
    (case tga => k_is)
    (case tsub => k_is)
    (case tmWORD => k_is)
    (case cbCWORD => k_is)
    (case sgCWORD => k_is)
    (case ttCWORD => k_is)
    (case a__added => k_is)
    (case l__added => k_is)
    (case c__added => k_is)
    (case k__added => k_is)
    (case a_init => k_is)
    (case l_init => k_is)
    (case c_init => k_is)
    (case k_init => k_is)
    (case fi_init => k_is)
    (case t_init => k_is)
    (case a_MCS___getitem__ => k_is)
    (case l_MCS___getitem__ => k_is)
    (case c_MCS___getitem__ => k_is)
    (case k_MCS___getitem__ => k_is)
    (case i_MCS___getitem__ => k_is)
    (case fn_MCS___getitem__ => k_is)
    (case a_MCS_at => k_is)
    (case l_MCS_at => k_is)
    (case c_MCS_at => k_is)
    (case k_MCS_at => k_is)
    (case i_MCS_at => k_is)
    (case a_MCS_renamed => k_is)
    (case l_MCS_renamed => k_is)
    (case c_MCS_renamed => k_is)
    (case k_MCS_renamed => k_is)
    (case i_MCS_renamed => k_is)
    (case a_progression => k_is)
    (case l_progression => k_is)
    (case c_progression => k_is)
    (case k_progression => k_is)
    (case a_bezout => k_is)
    (case l_bezout => k_is)
    (case c_bezout => k_is)
    (case k_bezout => k_is)
    (case a_solve_one => k_is)
    (case l_solve_one => k_is)
    (case c_solve_one => k_is)
    (case k_solve_one => k_is)
    (case a_meet => k_is)
    (case l_meet => k_is)
    (case c_meet => k_is)
    (case k_meet => k_is)
    (case a_replace_names => k_is)
    (case l_replace_names => k_is)
    (case c_replace_names => k_is)
    (case k_replace_names => k_is)
    (case a_merge_names => k_is)
    (case l_merge_names => k_is)
    (case c_merge_names => k_is)
    (case k_merge_names => k_is)
    (case a_is_ascending => k_is)
    (case l_is_ascending => k_is)
    (case c_is_ascending => k_is)
    (case k_is_ascending => k_is)
    (case a_is_terms => k_is)
    (case l_is_terms => k_is)
    (case c_is_terms => k_is)
    (case k_is_terms => k_is)
    (case a__is_multiple => k_is)
    (case l__is_multiple => k_is)
    (case c__is_multiple => k_is)
    (case k__is_multiple => k_is)
    (case a_MC_names_in => k_is)
    (case l_MC_names_in => k_is)
    (case c_MC_names_in => k_is)
    (case k_MC_names_in => k_is)
    (case i_MC_names_in => k_is)
    (case a_MC_holds => k_is)
    (case l_MC_holds => k_is)
    (case c_MC_holds => k_is)
    (case k_MC_holds => k_is)
    (case i_MC_holds => k_is)
    (case a_MC_contradiction => k_is)
    (case l_MC_contradiction => k_is)
    (case c_MC_contradiction => k_is)
    (case k_MC_contradiction => k_is)
    (case i_MC_contradiction => k_is)
    (case a_satisfies => k_is)
    (case l_satisfies => k_is)
    (case c_satisfies => k_is)
    (case k_satisfies => k_is)
    (case a_MC_ground => k_is)
    (case l_MC_ground => k_is)
    (case c_MC_ground => k_is)
    (case k_MC_ground => k_is)
    (case i_MC_ground => k_is)
    (case a_fitting => k_is)
    (case l_fitting => k_is)
    (case c_fitting => k_is)
    (case k_fitting => k_is)
    (case aK_kind => k_is)
    (case p_top => rfl)
    (case z_super => k_is)
    (case a_kind => k_is)
    (case l_kind => k_is)
    (case c_kind => k_is)
    (case k_kind => k_is)
    (case cdC_ => k_is)
    (case mC => k_is)
    (case sC => ks_is)
    (case tg => k_is)
    (case fg => k_is)
    (case i_V => k_is)
    (case l_V => k_is)
    (case c_V => k_is)
    (case l_ccV => k_is)
    (case l_cdaV => k_is)
    (case v_cdaV => rfl)
    (case p_fileV => rfl)
    (case iV => k_is)
    (case kV_ => k_is)
    (case a_MC_pin => k_is)
    (case l_MC_pin => k_is)
    (case c_MC_pin => k_is)
    (case k_MC_pin => k_is)
    (case i_MC_pin => k_is)
    (case a_MC_lift => k_is)
    (case l_MC_lift => k_is)
    (case c_MC_lift => k_is)
    (case k_MC_lift => k_is)
    (case i_MC_lift => k_is)
    (case a_MC_rename => k_is)
    (case l_MC_rename => k_is)
    (case c_MC_rename => k_is)
    (case k_MC_rename => k_is)
    (case i_MC_rename => k_is)
    (case a__law_source => k_is)
    (case l__law_source => k_is)
    (case c__law_source => k_is)
    (case k__law_source => k_is)
    (case a__law_draw => k_is)
    (case l__law_draw => k_is)
    (case c__law_draw => k_is)
    (case k__law_draw => k_is)
    (case a__law_shared => k_is)
    (case l__law_shared => k_is)
    (case c__law_shared => k_is)
    (case k__law_shared => k_is)
    (case a__law_is_int => k_is)
    (case l__law_is_int => k_is)
    (case c__law_is_int => k_is)
    (case k__law_is_int => k_is)
    (case a__law_equal => k_is)
    (case l__law_equal => k_is)
    (case c__law_equal => k_is)
    (case k__law_equal => k_is)
    (case a__law_says => k_is)
    (case l__law_says => k_is)
    (case c__law_says => k_is)
    (case k__law_says => k_is)
    (case a__law_factor => k_is)
    (case l__law_factor => k_is)
    (case c__law_factor => k_is)
    (case k__law_factor => k_is)
    (case a__law_sum => k_is)
    (case l__law_sum => k_is)
    (case c__law_sum => k_is)
    (case k__law_sum => k_is)
    (case a__law_holds => k_is)
    (case l__law_holds => k_is)
    (case c__law_holds => k_is)
    (case k__law_holds => k_is)
    (case a__law_valid => k_is)
    (case l__law_valid => k_is)
    (case c__law_valid => k_is)
    (case k__law_valid => k_is)
    (case a__law_names => k_is)
    (case l__law_names => k_is)
    (case c__law_names => k_is)
    (case k__law_names => k_is)
    (case a__law_terms => k_is)
    (case l__law_terms => k_is)
    (case c__law_terms => k_is)
    (case k__law_terms => k_is)
    (case a__law_modulus => k_is)
    (case l__law_modulus => k_is)
    (case c__law_modulus => k_is)
    (case k__law_modulus => k_is)
    (case a__law_values => k_is)
    (case l__law_values => k_is)
    (case c__law_values => k_is)
    (case k__law_values => k_is)
    (case a__law_constraint => k_is)
    (case l__law_constraint => k_is)
    (case c__law_constraint => k_is)
    (case k__law_constraint => k_is)
    (case a__law_told_apart => k_is)
    (case l__law_told_apart => k_is)
    (case c__law_told_apart => k_is)
    (case k__law_told_apart => k_is)
    (case a__law_judged_right => k_is)
    (case l__law_judged_right => k_is)
    (case c__law_judged_right => k_is)
    (case k__law_judged_right => k_is)
    (case a__law_holds_right => k_is)
    (case l__law_holds_right => k_is)
    (case c__law_holds_right => k_is)
    (case k__law_holds_right => k_is)
    (case a__law_first => k_is)
    (case l__law_first => k_is)
    (case c__law_first => k_is)
    (case k__law_first => k_is)
    (case a__law_lifted => k_is)
    (case l__law_lifted => k_is)
    (case c__law_lifted => k_is)
    (case k__law_lifted => k_is)
    (case a__law_lift_right => k_is)
    (case l__law_lift_right => k_is)
    (case c__law_lift_right => k_is)
    (case k__law_lift_right => k_is)
    (case a__law_ground_right => k_is)
    (case l__law_ground_right => k_is)
    (case c__law_ground_right => k_is)
    (case k__law_ground_right => k_is)
    (case a__law_table => k_is)
    (case l__law_table => k_is)
    (case c__law_table => k_is)
    (case k__law_table => k_is)
    (case a__law_renamed_right => k_is)
    (case l__law_renamed_right => k_is)
    (case c__law_renamed_right => k_is)
    (case k__law_renamed_right => k_is)
    (case a_law => k_is)
    (case l_law => k_is)
    (case c_law => k_is)
    (case k_law => k_is)
    (case z_tuple => k_is)
    (case z_sorted => k_is)
    (case z_dict => k_is)
    (case z_sum => k_is)
    (case z_zip => k_is)
    (case z_set => k_is)
    (case z_list => k_is)
    (case z_all => k_is)
    (case z_len => k_is)
    (case z_int => k_is)
    (case z_abs => k_is)
    (case z_range => k_is)
    (case z_isinstance => k_is)
    (case z_bool => k_is)
    (case z_str => k_is)
#print axioms PySem.Challenge.cw_shadowlinks_k31_methods_of_wholes_holds
