import PyProof.Rows.All
import Wide.All
import OpenK.AllK
import Wide.FinOn
import HandS.ExcInit
import HandS.Nested
import KE.KExcSuper
import HandS.ForExc
import PyProof.Rows.SortShellAny
import HandS.SetTxt0
import HandS.TupSets
import HandS.ForMost
import HandS.Walk
import HandS.IsInst
import HandS.IterVal
import HandS.Star
import HandS.Deep
import HandS.DictComp
import HandS.Zip
import HandS.ExcField
import HandS.ExcIs
import KE.KExcIs
import HandS.WordsExc
import HandS.FStr
import HandS.Defaults
import HandS.CallSlots
import HandS.Wide
import HandS.Style
import HandS.OwnEq
import HandS.Property
import OpenK.KMeth
import OpenK.KOps
import KE.KOpsOwn
import KE.KOwnIter
import KE.KDictPairs
import HandS.Gcd
import HandS.Rev
import HandS.TupAny
import HandS.TupLe
import HandS.ClsMeth
import HandS.TupMul
import HandS.SetFor
import KE.DataFind
import KE.GoesRaise
import PyProof.RulesMatch
import HandS.TryMany
import HandS.OwnIter
import HandS.Iter
import HandS.Comp
import HandS.Dict
import KE.KDictKeyed
import KE.SortData
import KE.KeyNested
import PyProof.SetRoads
import HandS.Strs
import HandS.CallRecv
import HandS.StrMore
import PyProof.StrLawsAffix
import KE.IntTextLaws
import HandS.RaiseMore
import KE.GoesMore
import PyProof.StrBlock2
import PySem.Challenge.RW_shadowlinks_k06_assignments_read_back
set_option Elab.async false
set_option linter.all false
set_option maxRecDepth 100000
/-! An own exception's __init__ that begins with super().__init__(e), over ValueError. -/
namespace Sup
open PySem PySem.Spec PyProof.Rows L2 NdefX
abbrev vei : String := "ValueError.__init__"
def mwO (u a : Addr) : HO := .ext fun h => h.get? u = some (PySem.W.kxs_mw vei a)
theorem mwO_ok {P : Program} {w : World} {H : Hp} {h : Heap} {u a : Addr} (e : h.get? u = some (PySem.W.kxs_mw vei a)) : ObjOk P w H h u (mwO u a) := ⟨e, ⟨_, e⟩, fun h1 h2 z k => k _ z⟩
theorem mwO_at {P : Program} {w : World} {H : Hp} {h : Heap} {u a : Addr} (hok : HOk P w H h) (e : H u = some (mwO u a)) : h.get? u = some (PySem.W.kxs_mw vei a) := by
  have x : ObjOk P w H h u (.ext fun h => h.get? u = some (PySem.W.kxs_mw vei a)) := hok u _ e
  exact x.1
/-- what the written part says of a def that says super() -/
structure SupF (P : Program) (K : PySem.W.Frag) (mg : Str → Option Value) (env : Env) (sn : Str) (D : Addr) : Prop where
  ks : env.kindOf "super" = some .globalImplicit
  kc : env.kindOf "__class__" = some .free
  fn : ∃ (f : Addr) (oc : Value) (od : Option Addr) (fd : FuncData) (osl : Array (Option Value)) (ar : Arg), env.func = some f ∧ K.lookup f = some ⟨oc, od, .func fd, osl⟩ ∧ (fd.params.posonlyargs ++ fd.params.args).head? = some ar ∧ ar.arg = sn
  co : ∃ (cda : Addr) (ccl : Value) (cdd : Option Addr) (vs : Array Value) (ccs : Array (Option Value)) (file : Str) (tf : Tok), env.code = .ref cda ∧ K.lookup cda = some ⟨ccl, cdd, .fields vs, ccs⟩ ∧ vs[2]? = some (.str file tf) ∧ ((P.main.file : Str) == file) = true
  top : (P.main.scope.names.lookup ("super" : Str)).isSome = false
  ce : ∃ (cc : Addr) (cl : Value) (cld : Option Addr) (csl : Array (Option Value)), env.cells.lookup ("__class__" : Str) = some cc ∧ K.lookup cc = some ⟨cl, cld, .cell (some (.ref D)), csl⟩
  mg : mg "super" = none
  any : PySem.W.nsIn K cStatics "thirdparty.any" = some none
  it : interactive env = false
  ka : env.kindOf sn = some .local
/-- .. and of the class of the object -/
structure SupC (K : PySem.W.Frag) (C D : Addr) : Prop where
  cls : ∃ cd, PySem.W.clsIn K D = some cd
  sub : PySem.W.mroIn K C (.ref D) = some true
  sup : PySem.W.ks_superIn K C D "__init__" = some (some (.builtin vei))
  ve : PySem.W.subIn K (.ref C) (.type "ValueError") = some true
  exc : OexC K C
section
variable {X : Cx} {pins : List (Addr × Obj)} {σ : List (Option V)} {H : Hp} {s : Shared} {self : Str} {D a C : Addr} {body : List Stmt} {p0 p1 p2 pos pos' : Pos} {e : Expr} {te : TE}
theorem ld_super {E : Value → Shared → Prop} {Q : Value → Shared → Prop} (I : Inv X pins σ H s) (S : SupF X.prog X.K X.mg X.env self D) (h : Q (.type "super") s) : wpAny (model X.prog X.w) X.A (loadName X.env "super") Q E s := by
  obtain ⟨mb, h1, h2⟩ := I.mod.blt
  exact PySem.W.ks_loadName_global I.ok.kind S.ks (Calls.loadGlobal_builtin (by rw [I.ok.glob]; exact I.mod.glob.keeps I.bk) S.mg (by rw [I.ok.blt]; exact h1.keeps I.bk) ((h2 _ (by decide)).trans (by rfl)) h)
theorem self_at (I : Inv X pins σ H s) {u : V} (h1 : X.N[0]? = some self) (h2 : σ[0]? = some (some u)) (hk : X.env.kindOf self = some .local) : ∃ m v, s.heap.Ns X.env.locals m ∧ m self = some v ∧ RelV u v := by
  obtain ⟨m, hn, hl⟩ := I.loc
  obtain ⟨v, r, k⟩ := hl 0 self u h1 h2 (.inl hk)
  rcases k with ⟨_, k⟩ | ⟨k, _⟩
  · exact ⟨m, v, hn, k, r⟩
  · rcases k with k | k <;> · rw [hk] at k; cases k
theorem exo_inst {C a : Addr} (T : OexC X.K C) (I : Inv X pins σ H s) (e : H a = some (exo a C none)) : ∃ t1 : Addr, PySem.W.InstAt s.heap a { cls := .ref C, dict := none, data := .fields #[.ref t1, .none, .none, .none, .bool false, .none] } C none := by
  obtain ⟨t1, ho⟩ := exo_at I.hok e
  exact ⟨t1, ho, rfl, rfl, trivial⟩
/-- the wrapper called -/
theorem call_mw {u : Addr} {us : List Value} {Q : Value → Shared → Prop} {E : Value → Shared → Prop} {A : Around} (T : OexC X.K C) (I : Inv X pins σ H s) (eu : H u = some (mwO u a)) (ea : H a = some (exo a C none)) (hl : us.length ≤ sizeLine) (h : ∀ s', Inv X pins σ H s' → Q .none s') :
    wpAny (model X.prog X.w) A (call (.ref u) us) Q E s := by
  obtain ⟨nm, q, N, bs, bm, sn, sub, ab, col, dd, k0, k1, k2, k3, k5, hC, hbm⟩ := T.cls
  obtain ⟨t1, ho⟩ := exo_at I.hok ea
  have hu := mwO_at I.hok eu
  have hCh := I.kIn _ _ hC
  have FB := F.excBase_ValueError
  obtain ⟨hp, g, d, t, os⟩ := s
  refine wpAny_call (codeAny_of_tree ?_)
  show wpAny _ A.in1 (callAny (.ref u) ⟨us, []⟩) _ _ _
  simp only [callAny]
  refine wpAny_bind (wpAny_load hu ?_)
  simp only [PySem.W.kxs_mw, show (Value.type "method-wrapper" == Value.type "method" || Value.type "method-wrapper" == Value.type "builtin_function_or_method" || Value.type "method-wrapper" == Value.type "method-wrapper") = true by decide, if_true]
  refine PySem.W.KFB.if_so (by decide) ?_
  refine wpAny_bind (PySem.W.check_bound_init FB.toExcCallFacts hCh ho rfl ?_)
  refine wpAny_bind (wpAny_pure (wpAny_pure ?_))
  refine ⟨plainId_quiet FB.init.plain _, codeAny_builtin FB.initEntry ?_⟩
  refine PySem.W.exc_init_tree (cls := .ref C) (t0 := t1) (dv := none) (c2 := .none) (c3 := .none) (b4 := .bool false) ho hl fun h' k hx _ => ?_
  have J := I.write (t' := t) (x := a) (e := a) (o := exo a C none) (by rw [ea]; exact True.intro) (.inl rfl) k ⟨_, hx⟩ (exo_ok hx)
  have eu2 : upd H a (exo a C none) = H := by
    funext b
    by_cases hb : b = a
    · rw [hb, upd_same, ea]
    · rw [upd_ne hb]
  rw [eu2] at J
  exact h _ J
theorem sup_stmt {es : List Expr} {pl : Sem Bool} {ta : TA} {G : Hp → Prop} {Q : Flow → Shared → Prop} (I : Inv X pins σ H s) (S : SupF X.prog X.K X.mg X.env self D) (T : SupC X.K C D) (hN : X.N[0]? = some self) (h0 : σ[0]? = some (some (.ref a))) (ea : H a = some (exo a C none)) (ha : PA X (e :: es) ta)
    (h : ∀ u, H u = none → ta σ (upd H u (mwO u a)) fun vs H2 => vs.length ≤ 1000 ∧ H2 u = some (mwO u a) ∧ H2 a = some (exo a C none) ∧ G H2) (hq : ∀ H2 s', Inv X pins σ H2 s' → G H2 → Q .next s')
    (hev : eval (.Call (.Attribute (.Call (.Name "super" p0) [] [] p1) "__init__" p2) (e :: es) [] pos) X.env = (do
      let ov ← attributeBase (.Call (.Name "super" p0) [] [] p1) "__init__" X.env (eval (.Call (.Name "super" p0) [] [] p1) X.env)
      standAt p2.atName
      let (f, first) ← holding [ov] (getMethod ov "__init__" pl)
      callWith pos f first (backTo pos (starEach (e :: es) X.env)) []) := by rfl)
    (he : starEach (e :: es) X.env = (false, eval e X.env) :: starEach es X.env := by rfl) (hpl : (backTo pos (starEach es X.env)).any (·.1) = false := by rfl) :
    _root_.PySem.wpAt (model X.prog X.w) X.A (.func body X.env) (exec (.Expr (.Call (.Attribute (.Call (.Name "super" p0) [] [] p1) "__init__" p2) (e :: es) [] pos) pos') X.env) Q X.xe s := by
  refine ks_wpAt_Expr_any ?_ S.it
  refine ks_wpAt_MethodCall ?_ hev
  obtain ⟨f, oc, od, fd, osl, ar, hfu, lf, hp, har⟩ := S.fn
  obtain ⟨cda, ccl, cdd, vs, ccs, file, tf, hco, lc, hvs, hfile⟩ := S.co
  obtain ⟨cc, cl, cld, csl, hcl, lcc⟩ := S.ce
  obtain ⟨m, v, hn, hv, rv⟩ := self_at I hN h0 S.ka
  obtain rfl : v = Value.ref a := rv
  obtain ⟨t1, inst⟩ := exo_inst T.exc I ea
  obtain ⟨cdD, hD⟩ := T.cls
  have XK := I.kIn
  obtain ⟨oD, hD1, hD2⟩ : ∃ oD, s.heap.get? D = some oD ∧ oD.data = .cls cdD := by
    unfold PySem.W.clsIn at hD
    split at hD
    · rename_i c d cd' sl ho
      cases hD
      exact ⟨_, XK _ _ ho, rfl⟩
    · cases hD
  refine ks_wpAt_super_base S.ks S.kc (by decide) hfu (XK _ _ lf) rfl hp hco (XK _ _ lc) rfl hvs hfile S.top ?_
  refine ld_super I S ⟨rfl, ?_⟩
  refine wpAny_loadName_free I.ok.kind S.kc hcl ⟨_, XK _ _ lcc, rfl⟩ ?_
  refine wpAny_loadName_local I.ok.kind (har ▸ S.ka) hn (har ▸ hv) ?_
  refine ks_wpAny_isType_cls hD1 hD2 ⟨rfl, ?_⟩
  obtain ⟨hp0, g, d, t, os⟩ := s
  refine ks_wpAny_call_super hD1 hD2 inst.at_ rfl (fun c e => by cases e) (PySem.W.looks_mroIn XK T.sub) fun h' eso k => ?_
  have I2 : Inv X pins σ H ⟨h', g, d, t, os⟩ := I.kept (t' := t) k
  have XK2 := I2.kIn
  have sup := T.sup
  unfold PySem.W.ks_superIn at sup
  cases hc : PySem.W.clsIn X.K C with
  | none =>
    rw [hc] at sup
    cases sup
  | some cd =>
    rw [hc] at sup
    obtain ⟨t2, inst2⟩ := exo_inst T.exc I2 ea
    refine PySem.W.kxs_getMethod PySem.W.kxs_ValueError eso (PySem.W.looks_opaque XK2 S.any) (l₀ := cd.mro) ?_ rfl XK2 sup (inst2.type.andThen (PySem.W.looks_subIn XK2 T.ve)) (PySem.W.ks_ne XK2 inst2 hc) (by decide) ?_
    · exact fun A Q E s k q => wpAny_bind ((PySem.W.looks_clsIn XK2 hc) A _ E s k (wpAny_pure q))
    · have hnu : H h'.objs.size = none := I2.hok.fresh (Nat.le_refl _)
      have gu : (h'.push (PySem.W.kxs_mw vei a)).get? h'.objs.size = some (PySem.W.kxs_mw vei a) := Heap.get?_push_at rfl rfl
      have I3 : Inv X pins σ (upd H h'.objs.size (mwO h'.objs.size a)) ⟨h'.push (PySem.W.kxs_mw vei a), g, d, t + 1, os⟩ :=
        I2.laid (t' := t + 1) (fun b o e => Heap.get?_push_of_some _ e) (Nat.le_refl _) (mwO_ok gu)
      show wpAny _ _ (callWith pos (.ref h'.objs.size) [] (backTo pos (starEach (e :: es) X.env)) []) _ _ _
      have run := ha.run pos pins _ σ _ _ I3 (h _ hnu)
      rw [he] at run ⊢
      refine PySem.W.kxs_callWith (i := vei) (x := a) (by show (false || (backTo pos (starEach es X.env)).any (·.1)) = false; rw [hpl]; rfl) ?_
      refine Calls.evalArgs_plain (thn run fun us s1 ⟨vs, H1, I1, r1, hz, eu, ea1, hG⟩ => ⟨mwO_at I1.hok eu, ?_⟩)
      exact call_mw T.exc I1 eu ea1 (by show us.length ≤ _; rw [← Paired.length r1, sizeLine_eq]; omega) fun s' J => hq H1 s' J hG
end
section
variable {CX : CXT} {P : Program} {w : World} {K : PySem.W.Frag} {mg : Str → Option Value} {base : Heap} {k : Nat} {F : NF} {f cc D : Addr} {kV doc pm ct oc : Value} {an od : Option Addr} {osl : Array (Option Value)} {N ps : List Str} {sp : Sp} {self : Str} {e : Expr} {es : List Expr} {p0 p1 p2 pos pos' : Pos} {rest : List Stmt} {pl : Sem Bool}
theorem fn_sup (lk : K.lookup f = some ⟨oc, od, .func (PySem.W.fnX F.name F.qual F.params F.body F.scope F.cl .none kV doc pm an (.ref F.c) ct), osl⟩) (hcd : PySem.W.codeIn K (.ref F.c) F.qual = true) (hcl : F.cl = [(("__class__" : Str), cc)])
    (hcc : ∃ cl cld csl, K.lookup cc = some ⟨cl, cld, .cell (some (.ref D)), csl⟩) (S : NScope N ps ["__class__"] F.scope) (hF : ∀ L, SupF P K mg (envF F f L) self D) (hN : N[0]? = some self)
    (hbd : F.body = .Expr (.Call (.Attribute (.Call (.Name "super" p0) [] [] p1) "__init__" p2) (e :: es) [] pos) pos' :: rest)
    (len : ∀ vs H Q E, sp vs H Q E → vs.length = ps.length)
    (hbody : ∀ (A : Around) (outer : List Env) (s : Shared) (H : Hp) (vs : List V) (Q : VK) (E : XK), Room k (A.deeper (envF F f s.heap.objs.size)) → sp vs H Q E →
      ∃ (a C : Addr) (ta : TA) (t : TS), SupC K C D ∧ (startF N vs [none])[0]? = some (some (.ref a)) ∧ H a = some (exo a C none) ∧ PA (ncx CX P w K mg base N F f A outer s H E) (e :: es) ta ∧ PSs (ncx CX P w K mg base N F f A outer s H E) rest t ∧
        ∀ u, H u = none → ta (startF N vs [none]) (upd H u (mwO u a)) fun vs' H2 => vs'.length ≤ 1000 ∧ H2 u = some (mwO u a) ∧ H2 a = some (exo a C none) ∧ t { nx := fun _ H' => Q .non H', rt := Q } (startF N vs [none]) H2)
    (hev : ∀ L, eval (.Call (.Attribute (.Call (.Name "super" p0) [] [] p1) "__init__" p2) (e :: es) [] pos) (envF F f L) = (do
      let ov ← attributeBase (.Call (.Name "super" p0) [] [] p1) "__init__" (envF F f L) (eval (.Call (.Name "super" p0) [] [] p1) (envF F f L))
      standAt p2.atName
      let (g, first) ← holding [ov] (getMethod ov "__init__" pl)
      callWith pos g first (backTo pos (starEach (e :: es) (envF F f L))) []) := by intro L; rfl)
    (he : ∀ L, starEach (e :: es) (envF F f L) = (false, eval e (envF F f L)) :: starEach es (envF F f L) := by intro L; rfl) (hpl : ∀ L, (backTo pos (starEach es (envF F f L))).any (·.1) = false := by intro L; rfl) :
    FnOk P w K mg base CX (k + 1) f (PySem.W.fnX F.name F.qual F.params F.body F.scope F.cl .none kV doc pm an (.ref F.c) ct) ps sp := by
  refine ⟨len, fun A outer s H args us vs Q E hr e0 hb r hsp => ?_⟩
  have hl := len _ _ _ _ hsp
  have KX : K.In s.heap := e0.mod.kin.keeps fun b o e => (e0.bs b o e).1
  have lim : s.heap.NoLimit := e0.mod.nolimit.keeps fun b o e => (e0.bs b o e).1
  obtain ⟨cl, cld, csl, hcc⟩ := hcc
  have C : CellsAt F.cl ["__class__"] [none] s.heap H := by
    have one : ∀ {y : Str} {c : Addr}, F.cl.lookup y = some c → y = "__class__" ∧ c = cc := fun {y c} e => by
      rw [hcl] at e
      by_cases h : y = ("__class__" : Str)
      · subst h
        have e2 : some cc = some c := e
        exact ⟨rfl, (Option.some.inj e2).symm⟩
      · have h2 : (y == ("__class__" : Str)) = false := by simpa using h
        rw [List.lookup_cons, h2] at e
        cases e
    refine ⟨rfl, fun y c e => ?_, fun x y c e1 e2 => (one e1).1.trans (one e2).1.symm, fun i y hi => ?_⟩
    · rw [(one e).2]
      exact ⟨(e0.bs _ _ (e0.mod.kin _ _ hcc)).2, _, ⟨_, KX _ _ hcc, rfl⟩⟩
    · cases i with
      | zero =>
        have e : ("__class__" : Str) = y := Option.some.inj hi
        refine ⟨cc, by rw [hcl, ← e]; rfl, fun v hv => ?_⟩
        cases hv
      | succ i => cases hi
  refine ks_codeAny_call_defAt hr.depth (KX _ _ lk) rfl lim (PySem.W.codeRec_of KX hcd) rfl hb S.nocell (fun ⟨n, v⟩ hy => S.par n (List.of_mem_zip hy).1) (fun h₁ hns kp => ?_) S.co S.gen S.kind
  show _root_.PySem.wpAt (model P w) (A.deeper (envF F f s.heap.objs.size)) (.func F.body (envF F f s.heap.objs.size)) (execs F.body (envF F f s.heap.objs.size)) _ _ _
  obtain ⟨a, Ca, ta, t, hC, h0, ea, pa, ps', hq⟩ := hbody A outer s H vs Q E (hr.deeper _) hsp
  have I : Inv (ncx CX P w K mg base N F f A outer s H E) [] (startF N vs [none]) H { s with heap := h₁, toks := s.toks + (ps.zip us).length } := inv_startN S hr.hd e0 hl r C hns kp
  have fin : ∀ {s' : Shared} {σ' : L2.St} {H' : Hp} {v : V} {u : Value}, Inv (ncx CX P w K mg base N F f A outer s H E) [] σ' H' s' → L2.RelV v u → Q v H' → CE outer P w H s Q u s' :=
    fun {s' σ' H' v u} J rv q => ⟨v, H', J.os, J.bare, J.base, J.hok, rv, q⟩
  have main : ∀ (body : List Stmt), _root_.PySem.wpAt (model P w) (A.deeper (envF F f s.heap.objs.size)) (.func body (envF F f s.heap.objs.size)) (execs (.Expr (.Call (.Attribute (.Call (.Name "super" p0) [] [] p1) "__init__" p2) (e :: es) [] pos) pos' :: rest) (envF F f s.heap.objs.size))
      (fun fl s' => CR CX outer P w H s Q E (.ok (.ret (match fl with | .ret v => v | _ => .none))) s') (ncx CX P w K mg base N F f A outer s H E).xe { s with heap := h₁, toks := s.toks + (ps.zip us).length } := by
    intro body
    refine ks_wpAt_execs_cons ?_
    refine sup_stmt (X := ncx CX P w K mg base N F f A outer s H E) (body := body) (G := fun H2 => t { nx := fun _ H' => Q .non H', rt := Q } (startF N vs [none]) H2) I (hF _) hC hN h0 ea pa hq (fun H2 s' J hG => ?_) (hev _) (he _) (hpl _)
    refine wpAt_of_wpAny ?_
    refine wpAny_mono (ps'.run [] s' (startF N vs [none]) H2 _ J hG) (fun fl s' hs => ?_) fun e s' hs => hs
    cases fl with
    | ret u =>
      obtain ⟨v, σ', H', J, rv, q⟩ := hs
      exact fin J rv q
    | next =>
      obtain ⟨σ', H', J, q⟩ := hs
      exact fin (v := V.non) (u := Value.none) J rfl q
    | brk =>
      obtain ⟨_, _, _, q⟩ := hs
      exact False.elim q
    | cont =>
      obtain ⟨_, _, _, q⟩ := hs
      exact False.elim q
  have m2 := main F.body
  rw [← hbd] at m2
  exact m2
end
end Sup
/-! Sets of texts, made of a list or a tuple, and sorted: any texts, in whatever order the world walks them. -/
namespace Sx
open PySem PySem.Spec PyProof.Rows L2 PySem.Froz

/-! ### lists -/
/-- a list without twins whose members all stand in a list of the same length is that list in another order -/
theorem perm_of_sub : ∀ (l ks : List Str), l.Nodup → (∀ x, x ∈ l → x ∈ ks) → ks.length = l.length → l.Perm ks
  | [], ks, _, _, e => by
    have z : ks = [] := List.length_eq_zero_iff.mp e
    rw [z]
  | x :: l, ks, nd, sub, e => by
    obtain ⟨hx, nd'⟩ := List.nodup_cons.mp nd
    have hm : x ∈ ks := sub x List.mem_cons_self
    have p := List.perm_cons_erase hm
    have hl : (ks.erase x).length = l.length := by
      have q := p.length_eq
      simp only [List.length_cons] at q e
      omega
    refine ((perm_of_sub l (ks.erase x) nd' (fun y hy => ?_) hl).cons x).trans p.symm
    have hne : y ≠ x := fun z => hx (z ▸ hy)
    exact (List.mem_erase_of_ne hne).mpr (sub y (List.mem_cons_of_mem _ hy))

/-! ### the payload behind an add -/
theorem tail_ris {ep : Nat} {es : Array (Int × Value)} {t : SetTable} {d : Bool} (r : Ris t.place.toList) : Ris (tailTx ep es t d).2.2.place.toList := by
  unfold tailTx
  split
  · exact relayAll_ris t es _
  · exact r
theorem tail_led {ep : Nat} {es : Array (Int × Value)} {t : SetTable} {d : Bool} : (tailTx ep es t d).2.2.led = t.led := by
  unfold tailTx
  split
  · exact relayAll_led t es _
  · rfl
theorem add_ris {D : SD} (h : Int) (v : Value) (r : Ris D.2.2.place.toList) : Ris (addTx h v D).2.2.place.toList := by
  have r1 := layNew_ris D.2.2 D.1 h v r
  unfold addTx
  apply tail_ris
  split
  · exact r1
  · exact r1
theorem add_led {D : SD} (h : Int) (v : Value) : (addTx h v D).2.2.led = D.2.2.led := by
  have r1 := layNew_led D.2.2 D.1 h v
  unfold addTx
  rw [tail_led]
  split
  · exact r1
  · exact r1

/-- the set of the texts l stands at a -/
def SetX (P : Program) (w : World) (h : Heap) (a : Addr) (l : List Str) : Prop :=
  ∃ D : SD, h.get? a = some (sObj "set" D) ∧ TxOk P w D l ∧ l.Nodup ∧ Ris D.2.2.place.toList ∧ (w.params.followText "set-order" = true ∨ D.2.2.led = true)

section
variable {P : Program} {w : World} {A : Around} {E : Value → Shared → Prop} {s : Shared}

theorem SetX.at {h h' : Heap} {a : Addr} {l : List Str} (R : SetX P w h a l) (k : ∀ o, h.get? a = some o → h'.get? a = some o) : SetX P w h' a l := by
  obtain ⟨D, ho, r⟩ := R
  exact ⟨D, k _ ho, r⟩
theorem setX_fresh {h : Heap} {a : Addr} (ho : h.get? a = some { cls := .type "set", dict := none, data := .set #[] 0 (.fresh 0 0 (!w.params.followText "set-order")) }) : SetX P w h a [] := by
  refine ⟨(#[], 0, .fresh 0 0 (!w.params.followText "set-order")), ho, TxOk.nil rfl, List.nodup_nil, List.Pairwise.nil, ?_⟩
  show _ ∨ (!w.params.followText "set-order") = true
  cases w.params.followText "set-order"
  · exact .inr rfl
  · exact .inl rfl

/-- one text more, new or there already -/
theorem add_any {a : Addr} {l : List Str} {k : Str} {u : Tok} {Q : Bool → Shared → Prop} (R : SetX P w s.heap a l) (hb : l.length + 1 < scanBound)
    (hQ : ∀ b h' l', Heap.SameBut a s.heap h' → SetX P w h' a l' → (∀ x, x ∈ l' ↔ x = k ∨ x ∈ l) → l'.length ≤ l.length + 1 → Q b { s with heap := h' }) :
    wpAny (model P w) A (setAddHashed a (.str k u) (hashStr w k)) Q E s := by
  obtain ⟨D, ho, F, nd, r, hl⟩ := R
  rcases Classical.em (k ∈ l) with hk | hk
  · obtain ⟨es, ep, t⟩ := D
    have hd : (sObj "set" (es, ep, t)).data = .set es ep t := rfl
    have hf : t.fits es.size = true := F.fit
    have hel : ElemsOf (PySem.strKind P w) es.toList := F.el
    have hb0 : es.size < scanBound := by
      have z : es.size = l.length := F.sz
      omega
    have hkey : (PySem.strKind P w).is k (.str k u) = true := is_str k u
    unfold setAddHashed setAddHashedIn
    refine wpAny_holding (wpAny_bind (wpAny_setState_of ho hd hf ?_))
    dsimp only
    rw [byScan_of rfl hb0 hel]
    simp only [↓reduceIte]
    unfold setAddByScan
    refine wpAny_bind ?_
    refine wpAny_bind (wpAny_rule ?_)
    refine wpAny_bind (wpAny_setScan_of (knd := PySem.strKind P w) (k := k) hkey ho hd hf hel ?_)
    cases hfi : List.findIdx? (fun e => (PySem.strKind P w).is k e.2) es.toList with
    | none =>
      obtain ⟨e, he, q⟩ := (F.mem k).mp hk
      have c := List.findIdx?_eq_none_iff.mp hfi e he
      rw [q] at c
      cases c
    | some j =>
      dsimp only
      refine wpAny_pure (wpAny_pure ?_)
      exact hQ _ s.heap l (Heap.SameBut.refl a s.heap) ⟨(es, ep, t), ho, F, nd, r, hl⟩ (fun x => ⟨.inr, fun z => z.elim (fun e => e ▸ hk) id⟩) (Nat.le_succ _)
  · refine add_x ho F hk hb (hQ _ _ (k :: l) (Heap.SameBut.update s.heap a _) ⟨_, get_upd _ ho rfl, add_ok u F, List.nodup_cons.mpr ⟨hk, nd⟩, add_ris _ _ r, ?_⟩ (fun x => List.mem_cons) (Nat.le_refl _))
    exact hl.imp id fun z => by
      rw [add_led]
      exact z
end

/-! ### set(xs): the loop -/
section
variable {P : Program} {w : World} {A : Around} {R : Result → Shared → Prop} {I : Addr} {fp wr : List Addr} {G : Array GenState → Array GenState → Prop} {n : Nat} {Pv : Nat → Value → Prop} {St : Nat → Shared → Prop}
theorem fill_loop (W : WalksS P w A.in1 I fp wr G n Pv St) (S : Addr) (hSf : S ∉ fp) (xs : List Str) (hn : xs.length = n) (hval : ∀ i v, Pv i v → ∃ t, v = .str (xs.getD i Str.empty) t) (hb : n + 1 < scanBound) :
    ∀ (k i : Nat) (s : Shared) (l : List Str), n - i = k → i ≤ n → St i s → SetX P w s.heap S l → (∀ x, x ∈ l ↔ x ∈ xs.take i) → l.length ≤ i →
      (∀ s' l', Moved (S :: wr) G s s' → SetX P w s'.heap S l' → (∀ x, x ∈ l' ↔ x ∈ xs) → l'.length ≤ n → R (.ok (.ret .none)) s') →
      codeAny (model P w) A (.builtin "set.update.loop" ⟨[.ref S, .ref I], []⟩) R s := by
  have hSw : S ∉ wr := fun h => hSf (W.sub _ h)
  have hsub : ∀ b ∈ wr, b ∈ S :: wr := fun b hb => List.mem_cons_of_mem _ hb
  intro k
  induction k with
  | zero =>
    intro i s l hk hi hst hS hm hlen hR
    have hin : i = n := by omega
    subst hin
    refine codeAny_builtin PyProof.Rows.F.entry_set_update_loop ?_
    rw [Around.under_plainId PyProof.Rows.F.plain_set_update_loop _]
    show wpAny _ A.in1 (pyNext (.ref I) >>= _) _ _ s
    refine wpAny_bind (W.done s _ _ hst fun s' hmv => ?_)
    show wpAny _ A.in1 (ret Value.none) _ _ s'
    refine wpAny_pure (hR s' l (hmv.mono hsub) (hS.at fun o e => hmv.heap S o hSw e) (fun x => ?_) hlen)
    rw [hm x, ← hn, List.take_length]
  | succ k ih =>
    intro i s l hk hi hst hS hm hlen hR
    have hlt : i < n := by omega
    refine codeAny_builtin PyProof.Rows.F.entry_set_update_loop ?_
    rw [Around.under_plainId PyProof.Rows.F.plain_set_update_loop _]
    show wpAny _ A.in1 (pyNext (.ref I) >>= _) _ _ s
    refine wpAny_bind (W.item i s _ _ hlt hst fun v s' hP hst' hmv => ?_)
    obtain ⟨t, rfl⟩ := hval i v hP
    have hS' : SetX P w s'.heap S l := hS.at fun o e => hmv.heap S o hSw e
    show wpAny _ A.in1 (holding [Value.str (xs.getD i Str.empty) t] (setAdd S (.str (xs.getD i Str.empty) t)) >>= _) _ _ s'
    refine wpAny_bind (wpAny_holding ?_)
    unfold setAdd
    refine wpAny_holding ?_
    refine wpAny_bind ((PySem.strKind P w).pyHash (k := xs.getD i Str.empty) (strKind_is _ _ _ _) ?_)
    have hroom : l.length + 1 < scanBound := by omega
    refine add_any (s := { s' with toks := s'.toks + 1 }) hS' hroom fun b h' l' hsb hS2 hm2 hl2 => ?_
    have hix : i < xs.length := by omega
    have eg : xs.getD i Str.empty = xs[i] := by
      rw [List.getD_eq_getElem?_getD, List.getElem?_eq_getElem hix]
      rfl
    have hm3 : ∀ x, x ∈ l' ↔ x ∈ xs.take (i + 1) := fun x => by
      rw [hm2 x, List.take_succ, List.getElem?_eq_getElem hix, eg]
      show _ ↔ x ∈ xs.take i ++ [xs[i]]
      rw [List.mem_append, List.mem_singleton, hm x]
      exact Or.comm
    refine wpAny_pure ⟨plainId_quiet PyProof.Rows.F.plain_set_update_loop _, ih (i + 1) _ l' (by omega) hlt (W.frame _ s' _ _ hst' (Nat.le_succ _) fun b hb o e => ?_) hS2 hm3 (by omega) fun s'' l'' hmv'' hS'' hm'' hl'' => ?_⟩
    · rw [hsb.2 b (fun h : b = S => hSf (by rw [← h]; exact hb))]
      exact e
    · refine hR s'' l'' (Moved.trans W.gtrans ((hmv.mono hsub).then_heap (Nat.le_succ _) fun b o hb e => ?_) hmv'') hS'' hm'' hl''
      rw [hsb.2 b (fun h : b = S => hb (by rw [h]; exact List.mem_cons_self))]
      exact e
end

/-! ### set(xs): the call -/
section
variable {P : Program} {w : World} {A : Around} {E : Value → Shared → Prop} {s : Shared}
abbrev emptyObj (w : World) : Obj := { cls := .type "set", dict := none, data := .set #[] 0 (.fresh 0 0 (!w.params.followText "set-order")) }
theorem str_at {us : List Value} {xs : List Str} (h : StrsAre us xs) : ∀ (i : Nat) (v : Value), us[i]? = some v → ∃ t, v = .str (xs.getD i Str.empty) t := by
  induction h with
  | nil =>
    intro i v e
    cases e
  | cons y t h ih =>
    intro i v e
    cases i with
    | zero =>
      have q : Value.str y t = v := Option.some.inj e
      exact ⟨t, q.symm⟩
    | succ i => exact ih i v e

set_option maxRecDepth 100000 in
set_option maxHeartbeats 4000000 in
/-- set(xs), xs a list or a tuple of texts -/
theorem call_set {l : Addr} {items : Array Value} {xs : List Str} {Q : Value → Shared → Prop} (hh : A.handled = none) (hl : s.heap.IsList l items ∨ s.heap.IsTuple l items) (hi : StrsAre items.toList xs) (hb : xs.length + 1 < scanBound)
    (h : ∀ (h' : Heap) (tk : Nat) (ys : List Str), SetX P w h' s.heap.objs.size ys → (∀ x, x ∈ ys ↔ x ∈ xs) → ys.length ≤ xs.length → (∀ b o, s.heap.get? b = some o → h'.get? b = some o) → Q (.ref s.heap.objs.size) { s with heap := h', toks := tk }) :
    wpAny (model P w) A (call (.type "set") [.ref l]) Q E s := by
  have hisz : xs.length = items.size := by rw [← StrsAre.len_eq hi, Array.length_toList]
  have hval : ∀ (i : Nat) (v : Value), items[i]? = some v → ∃ t, v = .str (xs.getD i Str.empty) t := fun i v hv => str_at hi i v (by rw [Array.getElem?_toList]; exact hv)
  obtain ⟨c, tl, hmro⟩ := PySem.F.called_set.mro
  have hmade := PySem.F.called_set.made
  have hsub := PySem.F.called_set.sub
  refine wpAny_call (codeAny_of_tree ?_)
  show wpAny _ _ (callAny (.type "set") _) _ _ _
  refine wpAny_pure ⟨Code.quiet_builtin _ (by decide +kernel), codeAny_builtin PySem.F.entry_type_call ?_⟩
  rw [Around.under_plain (weight_type_call_type "set" [.ref l] []) rfl]
  have h1 := PySem.F.called_set.notType
  have h2 := PySem.F.called_set.canCreate
  have hct := PySem.F.typeCall_set_1 (.ref l)
  repeat (any_goals (first | assumption | wp_step))
  refine codeAny_mono (code_set_led1 (.ref l) (E := E) (Q₁ := fun obj s₁ => obj = .ref s.heap.objs.size ∧ s₁ = { s with heap := s.heap.push (emptyObj w) }) ⟨rfl, rfl⟩) fun r s₁ hr => ?_
  cases r with
  | error e => exact hr
  | ok fl =>
    cases fl with
    | ret obj =>
      obtain ⟨rfl, rfl⟩ := hr
      have hS : (s.heap.push (emptyObj w)).get? s.heap.objs.size = some (emptyObj w) := Heap.get?_push_size _ rfl
      have hT : Shared.TypeIs { s with heap := s.heap.push (emptyObj w) } (.ref s.heap.objs.size) "set" := ⟨_, hS, rfl⟩
      have hli := PySem.F.called_set.init.lookup
      have hbi := PySem.F.called_set.init.bind (.ref s.heap.objs.size)
      repeat (any_goals (first | assumption | wp_step))
      refine codeAny_mono (codeAny_call_builtin (R := wants (fun r s₂ => r = .none ∧ ∃ h' tk ys, s₂ = { s with heap := h', toks := tk } ∧ SetX P w h' s.heap.objs.size ys ∧ (∀ x, x ∈ ys ↔ x ∈ xs) ∧ ys.length ≤ xs.length ∧
          (∀ b o, s.heap.get? b = some o → h'.get? b = some o)) E) PySem.F.called_set.init.plain PySem.F.entry_set_init (check_set_init_1 hT ?_)) fun r₂ s₂ hr₂ => ?_
      · have hh3 : A.in1.in1.in1.handled = none := by simp [hh]
        have hz1 : (s.heap.push (emptyObj w)).objs.size = s.heap.objs.size + 1 := Heap.size_push ..
        rcases hl with hl | hl
        · obtain ⟨ol, hol, hcl, nl, hdl⟩ := hl
          obtain ⟨ocls, odict, odata, oslots⟩ := ol
          simp only at hcl hdl
          subst hcl; subst hdl
          have hol' : (s.heap.push (emptyObj w)).get? l = some { cls := .type "list", dict := odict, data := .seq items nl, slots := oslots } := Heap.get?_push_of_some _ hol
          have hsls := PySem.F.sub_list_set
          have hslf := PySem.F.sub_list_frozenset
          have hne : (Value.type "list" == Value.type "dict") = false := by decide
          have hl1 : (s.heap.push (emptyObj w)).IsList l items := ⟨_, hol', rfl, nl, rfl⟩
          unfold Builtin.«set.__init__» noKeywords Builtin.Frozenset.updateFrom
          generalize hPI : pyIter = PI
          wp_walk
          subst hPI
          refine wpAny_pyIter_list hl1 ?_
          refine wpAny_bind (wpAny_runValue ?_)
          have hlS : l < s.heap.objs.size := Heap.lt_size hol
          have hneI : l ≠ (s.heap.push (emptyObj w)).objs.size := by
            rw [hz1]
            exact Nat.ne_of_lt (Nat.lt_succ_of_lt hlS)
          have hSf : s.heap.objs.size ∉ [(s.heap.push (emptyObj w)).objs.size, l] := by
            simp only [List.mem_cons, List.mem_singleton, List.not_mem_nil, or_false, not_or]
            rw [hz1]
            exact ⟨Nat.ne_of_lt (Nat.lt_succ_self _), Nat.ne_of_gt hlS⟩
          have hget : ((s.heap.push (emptyObj w)).push { cls := .type "list_iterator", data := .fields #[.ref l, .int 0 0] }).get? s.heap.objs.size = some (emptyObj w) := Heap.get?_push_of_some _ hS
          refine fill_loop ((Walks.list hh3 _ l hneI items).toS) s.heap.objs.size hSf xs hisz hval (by omega) (items.size - 0) 0 _ [] (by omega) (Nat.zero_le _)
            ⟨⟨_, Heap.get?_push_size _ rfl, rfl, rfl⟩, (hl1.push _)⟩ (setX_fresh hget) (fun x => Iff.rfl) (Nat.le_refl _) ?hR
          case hR =>
            intro s' ys hm hS' hmm hlen
            obtain ⟨h', g', d', tk', os'⟩ := s'
            have eg : g' = s.gens := hm.gens
            have ed : d' = s.drawn := hm.drawn
            have eo : os' = s.os := hm.os
            subst eg; subst ed; subst eo
            show wpAny _ _ _ _ _ _
            refine wpAny_pure ?_
            show wpAny _ _ (ret Value.none) _ _ _
            refine wpAny_pure ⟨rfl, h', tk', ys, rfl, hS', hmm, by omega, fun b o e => ?_⟩
            have hb0 : b < s.heap.objs.size := Heap.lt_size e
            refine hm.heap b o ?_ (Heap.get?_push_of_some _ (Heap.get?_push_of_some _ e))
            simp only [List.mem_cons, List.mem_singleton, List.not_mem_nil, or_false, not_or]
            rw [hz1]
            exact ⟨Nat.ne_of_lt hb0, Nat.ne_of_lt (Nat.lt_succ_of_lt hb0)⟩
        · obtain ⟨ol, hol, hcl, nl, hdl⟩ := hl
          obtain ⟨ocls, odict, odata, oslots⟩ := ol
          simp only at hcl hdl
          subst hcl; subst hdl
          have hol' : (s.heap.push (emptyObj w)).get? l = some { cls := .type "tuple", dict := odict, data := .seq items nl, slots := oslots } := Heap.get?_push_of_some _ hol
          have hsls := PySem.F.sub_tuple_set
          have hslf := PySem.F.sub_tuple_frozenset
          have hne : (Value.type "tuple" == Value.type "dict") = false := by decide
          have hl1 : (s.heap.push (emptyObj w)).IsTuple l items := ⟨_, hol', rfl, nl, rfl⟩
          unfold Builtin.«set.__init__» noKeywords Builtin.Frozenset.updateFrom
          generalize hPI : pyIter = PI
          wp_walk
          subst hPI
          refine wpAny_pyIter_tuple hl1 ?_
          refine wpAny_bind (wpAny_runValue ?_)
          have hlS : l < s.heap.objs.size := Heap.lt_size hol
          have hneI : l ≠ (s.heap.push (emptyObj w)).objs.size := by
            rw [hz1]
            exact Nat.ne_of_lt (Nat.lt_succ_of_lt hlS)
          have hSf : s.heap.objs.size ∉ [(s.heap.push (emptyObj w)).objs.size, l] := by
            simp only [List.mem_cons, List.mem_singleton, List.not_mem_nil, or_false, not_or]
            rw [hz1]
            exact ⟨Nat.ne_of_lt (Nat.lt_succ_self _), Nat.ne_of_gt hlS⟩
          have hget : ((s.heap.push (emptyObj w)).push { cls := .type "tuple_iterator", data := .fields #[.ref l, .int 0 0] }).get? s.heap.objs.size = some (emptyObj w) := Heap.get?_push_of_some _ hS
          refine fill_loop ((Walks.tuple hh3 _ l hneI items).toS) s.heap.objs.size hSf xs hisz hval (by omega) (items.size - 0) 0 _ [] (by omega) (Nat.zero_le _)
            ⟨⟨_, Heap.get?_push_size _ rfl, rfl, rfl⟩, (hl1.push _)⟩ (setX_fresh hget) (fun x => Iff.rfl) (Nat.le_refl _) ?hR
          case hR =>
            intro s' ys hm hS' hmm hlen
            obtain ⟨h', g', d', tk', os'⟩ := s'
            have eg : g' = s.gens := hm.gens
            have ed : d' = s.drawn := hm.drawn
            have eo : os' = s.os := hm.os
            subst eg; subst ed; subst eo
            show wpAny _ _ _ _ _ _
            refine wpAny_pure ?_
            show wpAny _ _ (ret Value.none) _ _ _
            refine wpAny_pure ⟨rfl, h', tk', ys, rfl, hS', hmm, by omega, fun b o e => ?_⟩
            have hb0 : b < s.heap.objs.size := Heap.lt_size e
            refine hm.heap b o ?_ (Heap.get?_push_of_some _ (Heap.get?_push_of_some _ e))
            simp only [List.mem_cons, List.mem_singleton, List.not_mem_nil, or_false, not_or]
            rw [hz1]
            exact ⟨Nat.ne_of_lt hb0, Nat.ne_of_lt (Nat.lt_succ_of_lt hb0)⟩
      · cases r₂ with
        | error e => exact hr₂
        | ok fl₂ =>
          cases fl₂ with
          | ret r =>
            obtain ⟨rfl, h', tk, ys, rfl, hS', hmm, hlen, hk'⟩ := hr₂
            repeat (any_goals (first | assumption | wp_step))
            exact h _ _ _ hS' hmm hlen hk'
          | _ => exact hr₂.elim
    | _ => exact hr.elim

/-! ### sorted(set) -/
theorem strs_of : ∀ (l : List Value), (∀ v ∈ l, ∃ k tk, v = Value.str k tk) → StrsAre l (l.map strOf)
  | [], _ => .nil
  | v :: l, h => by
    obtain ⟨k, tk, rfl⟩ := h v List.mem_cons_self
    exact .cons k tk (strs_of l fun u hu => h u (List.mem_cons_of_mem _ hu))
theorem sorted_setX {a : Addr} {l : List Str} {Q : Value → Shared → Prop} (R : SetX P w s.heap a l) (hh : A.handled = none) (hlen : l.length + 1 < scanBound)
    (hQ : ∀ s' p (out : Array Value) (c : Nat) (ys : List Str), (∀ b o, s.heap.get? b = some o → s'.heap.get? b = some o) → s'.gens = s.gens → s'.os = s.os → s.heap.objs.size ≤ p →
      s'.heap.get? p = some (seqObj "list" out c) → StrsAre out.toList ys → sortedS ys = true → ys.Perm l → Q (.ref p) s') :
    wpAny (model P w) A (call (.builtin "sorted") [.ref a]) Q E s := by
  obtain ⟨⟨es, ep, t⟩, ho, F, nd, r, hl⟩ := R
  have hf : t.fits es.size = true := F.fit
  have hsz : es.size = l.length := F.sz
  refine Calls.call_function_entry kind_sorted plain_sorted entry_sorted (args_sorted1 _) ?_
  unfold Builtin.«sorted»
  refine wpAny_bind (m := checkCount "sorted" 1 1 _) (wpAny_pure ?_)
  refine wpAny_bind (collect_set (A := A.in1) hh ⟨_, ho, rfl, rfl⟩ hf (by show es.size < scanBound; rw [hsz]; omega) r hl fun s1 vs k1 hz g1 o1 pm => ?_)
  have hvl : vs.length = l.length := by rw [pm.length_eq, List.length_map, Array.length_toList]; exact hsz
  have hst : ∀ v ∈ vs, ∃ k tk, v = Value.str k tk ∧ k ∈ l := fun v hv => by
    obtain ⟨e, he, q⟩ := List.mem_map.mp (pm.mem_iff.mp hv)
    obtain ⟨⟨k, h1, _⟩, _⟩ := F.el e he
    obtain ⟨tk, h2⟩ := Value.isStrOf_shape h1
    exact ⟨k, tk, by rw [← q]; exact h2, (F.mem k).mpr ⟨e, he, h1⟩⟩
  have hI : StrsAre vs (vs.map strOf) := strs_of vs fun v hv => let ⟨k, tk, e, _⟩ := hst v hv; ⟨k, tk, e⟩
  have pk : (vs.map strOf).Perm l := by
    refine (perm_of_sub l (vs.map strOf) nd (fun x hx => ?_) (by rw [List.length_map, hvl])).symm
    obtain ⟨e, he, h1⟩ := (F.mem x).mp hx
    obtain ⟨tk, h2⟩ := Value.isStrOf_shape h1
    exact List.mem_map.mpr ⟨e.2, pm.mem_iff.mpr (List.mem_map.mpr ⟨e, he, rfl⟩), by rw [h2]; rfl⟩
  have hline : vs.length ≤ sizeLine := by
    rw [hvl, sizeLine_eq]
    have z : scanBound = 4096 := rfl
    omega
  refine wpAny_bind (wpAny_newList ?_ hline)
  have hoL : (s1.heap.push (seqObj "list" vs.toArray 0)).get? s1.heap.objs.size = some (seqObj "list" vs.toArray 0) := Heap.get?_push_size _ rfl
  refine wpAny_bind (wpAny_holding (wpAny_call_entry slot_list_sort ⟨_, hoL, rfl⟩ entry_list_sort (list_sort_treeKAny strKind_oneLt hoL hI.keysOf (fun v₁ v₂ rest e => keyKind_strs (by rw [← e]; exact hI)) hline fun st' hp hs => ⟨_, rfl, ?_⟩) (args_list_sort _)))
  obtain ⟨ys, a1, a2, a3⟩ := sorted_out_str hI hp hs
  obtain ⟨c, hc⟩ := sortedHeap_at (vs := vs) (out := (arrOf st').map (·.2)) hoL
  refine wpAny_pure ⟨_, rfl, hQ _ s1.heap.objs.size _ c ys (fun b u e => ?_) g1 o1 hz hc a1 a3 (a2.trans pk)⟩
  have q := k1 b u e
  have hlt := Heap.lt_size q
  show (sortedHeap (s1.heap.push (seqObj "list" vs.toArray 0)) s1.heap.objs.size vs _).get? b = some u
  rw [sortedHeap_old (Nat.ne_of_lt hlt) (by rw [size_push']; exact Nat.lt_succ_of_lt hlt)]
  exact Heap.get?_push_of_some _ q
end

/-! ### over the layer -/
def SetV (P : Program) (w : World) (a : Addr) (l : List Str) : HO := .ext fun h => SetX P w h a l
section
variable {X : Cx}
theorem setV_new {P : Program} {w : World} {H : Hp} {h : Heap} {a : Addr} {l : List Str} (R : SetX P w h a l) : ObjOk P w H h a (SetV P w a l) := by
  have ⟨o, ho, _⟩ := R
  exact ⟨R, ⟨_, ho⟩, fun h1 h2 p k => SetX.at p k⟩
/-- set(xs), xs a list or a tuple of texts -/
def rSetX (K : PySem.W.Frag) (P : Program) (w : World) : List V → Hp → VK → Prop := fun vs H Q => ∃ (a : Addr) (xs : List Str), vs = [V.ref a] ∧ (SqL K H a (xs.map V.str) ∨ SqT K H a (xs.map V.str)) ∧ xs.length < 4000 ∧
  ∀ p ys, H p = none → (∀ x, x ∈ ys ↔ x ∈ xs) → ys.Nodup → ys.length ≤ xs.length → Q (.ref p) (upd H p (SetV P w p ys))
theorem cr_setX (hc : X.calm = true) : CallR X (.type "set") (rSetX X.K X.prog X.w) := by
  intro pins s σ H vs us Q I r h
  obtain ⟨a, xs, rfl, hs, hlen, q⟩ := h
  rw [Vals.ref1 r]
  have hn : H s.heap.objs.size = none := I.hok.fresh (Nat.le_refl _)
  have hz : xs.length + 1 < scanBound := by
    have z : scanBound = 4096 := rfl
    omega
  obtain ⟨its, rv, pl⟩ : ∃ its : List Value, Vals (xs.map V.str) its ∧ (s.heap.IsList a its.toArray ∨ s.heap.IsTuple a its.toArray) := by
    rcases hs with hs | hs
    · obtain ⟨its, rv, pl, _⟩ := I.list hs
      exact ⟨its, rv, .inl pl.isList⟩
    · obtain ⟨its, rv, pl, _⟩ := I.tuple hs
      exact ⟨its, rv, .inr pl⟩
  refine call_set (P := X.prog) (w := X.w) (I.ok.hd hc) pl (by simpa using rv.strs) hz fun h' tk ys R hm hl k => ?_
  have nd : ys.Nodup := by
    obtain ⟨_, _, _, z, _⟩ := R
    exact z
  exact ⟨.ref s.heap.objs.size, upd H s.heap.objs.size (SetV X.prog X.w s.heap.objs.size ys), I.laid (t' := tk) k (Nat.le_refl _) (setV_new R), rfl, q _ ys hn hm nd hl⟩
/-- sorted(a set of texts) -/
def rSortX (P : Program) (w : World) : List V → Hp → VK → Prop := fun vs H Q => ∃ (a : Addr) (l : List Str), vs = [V.ref a] ∧ H a = some (SetV P w a l) ∧ l.length < 4000 ∧
  ∀ ys p, ys.Perm l → sortedS ys = true → H p = none → Q (.ref p) (upd H p (.lst (ys.map V.str)))
theorem cr_sortX (hc : X.calm = true) : CallR X (.builtin "sorted") (rSortX X.prog X.w) := by
  intro pins s σ H vs us Q I r h
  obtain ⟨a, l, rfl, ha, hlen, q⟩ := h
  have R : SetX X.prog X.w s.heap a l := (I.hok a _ ha).1
  rw [Vals.ref1 r]
  have hz : l.length + 1 < scanBound := by
    have z : scanBound = 4096 := rfl
    omega
  refine sorted_setX R (I.ok.hd hc) hz fun s' p out c ys k g o hp hg hi hs pm => ?_
  have hl2 : (ys.map V.str).length ≤ sizeLine := by
    rw [List.length_map, pm.length_eq, sizeLine_eq]
    omega
  have hn : H p = none := I.hok.fresh hp
  have J : Inv X pins σ (upd H p (.lst (ys.map V.str))) { s with heap := s'.heap, gens := s'.gens, drawn := s'.drawn, toks := s'.toks } :=
    I.call (ch := []) (Un.laid k hp hn) (I.hok.laid k hp ⟨hl2, out.toList, c, vals_of_strs hi, hg⟩) (by rw [g]; exact I.bare) (fun _ z => nomatch z)
  have e : s' = { s with heap := s'.heap, gens := s'.gens, drawn := s'.drawn, toks := s'.toks } := by
    cases s'
    cases s
    cases o
    rfl
  rw [e]
  exact ⟨.ref p, _, J, rfl, q ys p pm hs hn⟩
end
end Sx
/-! Calls of the module's own defs by their promises, walks over a list or a tuple, data that stays. -/
namespace Bx
open PySem PySem.Spec PyProof.Rows L2 TL

/-- the module's name x holds a def that keeps sp, by at most level k -/
structure Cal (P : Program) (w : World) (K : PySem.W.Frag) (mg : Str → Option Value) (base : Heap) (x : Str) (k : Nat) (ps : List Str) (sp : Sp) : Prop where
  ex : ∃ (f : Addr) (fd : FuncData), FnOk P w K mg base CX0 k f fd ps sp ∧ mg x = some (.ref f) ∧ PySem.W.keepIn K (.ref f) = true ∧ Binds K fd ps []
/-- the same of a def with a star parameter alone -/
structure CalR (P : Program) (w : World) (K : PySem.W.Frag) (mg : Str → Option Value) (base : Heap) (x : Str) (k : Nat) (sp : Sp) : Prop where
  ex : ∃ f : Addr, FnR P w K mg base CX0 k f sp ∧ mg x = some (.ref f) ∧ PySem.W.keepIn K (.ref f) = true
section
variable {X : Cx} {x : Str} {k : Nat} {ps : List Str} {sp : Sp} {e : Expr} {es : List Expr} {t : TA} {p pos : Pos}
def tCal (sp : Sp) (t : TA) : TE := fun σ H Q => t σ H fun vs H1 => sp vs H1 Q E0
theorem pe_cal (c : Cal X.prog X.w X.K X.mg X.base x k ps sp) (hr : Room k X.A) (ha : PA X (e :: es) t) (hg : Gl X x := by rfl) (hdb : (x == ("__debug__" : Str)) = false := by decide)
    (he : starEach (e :: es) X.env = (false, eval e X.env) :: starEach es X.env := by rfl) (hpl : (backTo pos (starEach es X.env)).any (·.1) = false := by rfl) : PE X (.Call (.Name x p) (e :: es) [] pos) (tCal sp t) := by
  obtain ⟨f, fd, ok, g, kp, b⟩ := c.ex
  have z := pe_call (E := E0) ok hr hg g kp b .nil pass0 ha hdb he hpl (p := p)
  refine ⟨fun pins s σ H Q I h => z.run pins s σ H Q I ?_⟩
  unfold tCall
  simp only [List.append_nil]
  exact h
theorem pe_cal0 (c : Cal X.prog X.w X.K X.mg X.base x k ps sp) (hr : Room k X.A) (hg : Gl X x := by rfl) (hdb : (x == ("__debug__" : Str)) = false := by decide) : PE X (.Call (.Name x p) [] [] pos) (tCal sp tNil) := by
  obtain ⟨f, fd, ok, g, kp, b⟩ := c.ex
  have z := pe_call0 (E := E0) (pos := pos) ok hr hg g kp b .nil pass0 hdb (p := p)
  refine ⟨fun pins s σ H Q I h => z.run pins s σ H Q I ?_⟩
  exact h
theorem pe_calR (c : CalR X.prog X.w X.K X.mg X.base x k sp) (hr : Room k X.A) (ha : PA X (e :: es) t) (hg : Gl X x := by rfl) (hdb : (x == ("__debug__" : Str)) = false := by decide)
    (he : starEach (e :: es) X.env = (false, eval e X.env) :: starEach es X.env := by rfl) (hpl : (backTo pos (starEach es X.env)).any (·.1) = false := by rfl) : PE X (.Call (.Name x p) (e :: es) [] pos) (tCal sp t) := by
  obtain ⟨f, ok, g, kp⟩ := c.ex
  refine ⟨fun pins s σ H Q I h => ?_⟩
  refine wpAny_Call_Name_kw (ld_glob I hg g ?_ hdb)
  refine PySem.W.callWith_K (h₀ := X.base) I.ok.mod.kin kp (thn (ha.run pos pins s σ H _ I h) fun us s1 ⟨vs, H1, I1, r, q⟩ => ⟨I1.kIn, ?_⟩) he hpl
  exact wpAny_call (run_fnR ok hr pass0 I1 r q)
theorem pe_calR0 (c : CalR X.prog X.w X.K X.mg X.base x k sp) (hr : Room k X.A) (hg : Gl X x := by rfl) (hdb : (x == ("__debug__" : Str)) = false := by decide) : PE X (.Call (.Name x p) [] [] pos) (tCal sp tNil) := by
  obtain ⟨f, ok, g, kp⟩ := c.ex
  refine ⟨fun pins s σ H Q I h => ?_⟩
  refine wpAny_Call_Name_kw (ld_glob I hg g ?_ hdb)
  exact PySem.W.callWith_K0 I.kIn kp (wpAny_call (run_fnR ok hr pass0 I .nil h))

/-- x(*y) -/
theorem pe_calS {te : TE} {sp_ : Pos} (c : CalR X.prog X.w X.K X.mg X.base x k sp) (hr : Room k X.A) (he : PE X e te) (hg : Gl X x := by rfl) (hdb : (x == ("__debug__" : Str)) = false := by decide) (hst : starEach [.Starred e sp_] X.env = [(true, eval e X.env)] := by rfl) :
    PE X (.Call (.Name x p) [.Starred e sp_] [] pos) (fun σ H Q => te σ H fun y H1 => ∃ a xs, y = V.ref a ∧ (SqT X.K H1 a xs ∨ SqL X.K H1 a xs) ∧ sp xs H1 Q E0) := by
  obtain ⟨f, ok, g, kp⟩ := c.ex
  exact StX.pe_callS1 ok hr kp hg g pass0 he hdb hst

/-- a walk over a list or a tuple -/
def SeqCase (K : PySem.W.Frag) (a : Addr) (H : Hp) (R : It → Hp → Prop) : Prop := ((∃ xs, SqL K H a xs) ∧ R (Itl K a) H) ∨ ((∃ xs, SqT K H a xs) ∧ R (Itt K a) H)
def iSeq (K : PySem.W.Frag) (tl : TE) : TI := fun σ H R => tl σ H fun x H1 => ∃ a, x = .ref a ∧ SeqCase K a H1 R
theorem pi_seq {tg l : Expr} {tl : TE} (hl : PE X l tl) : PI X tg l (iSeq X.K tl) := by
  refine ⟨fun pins s σ H R I h => ?_⟩
  refine thn (hl.run pins s σ H _ I h) fun v s1 ⟨x, H1, I1, r1, q1⟩ => ?_
  obtain ⟨a, e, q1⟩ := q1
  subst e
  cases r1
  rcases q1 with ⟨⟨xs, hq⟩, q⟩ | ⟨⟨xs, hq⟩, q⟩
  · obtain ⟨its, rv, p, hz⟩ := I1.list hq
    refine wpAny_pyIter_list p.isList ?_
    exact pi_one (tk := s1.toks) I1 _ (turn_list a _) ⟨_, Heap.get?_push_size _ rfl, rfl, rfl⟩ q
  · obtain ⟨its, rv, p, hz⟩ := I1.tuple hq
    refine wpAny_pyIter_tuple (show s1.heap.IsTuple a its.toArray from p) ?_
    exact pi_one (tk := s1.toks) I1 _ (turn_tuple a _) ⟨_, Heap.get?_push_size _ rfl, rfl, rfl⟩ q
end

/-! ### rules with the written part named (within a block) -/
section
variable {X : Cx} {K : PySem.W.Frag}
theorem ix_listK (h : X.K = K) : IxR X (rIxL K) := h ▸ ix_list
theorem ix_tupK (h : X.K = K) : IxR X (rIxT K) := h ▸ ix_tup
theorem op_in_seqK (h : X.K = K) : OpR X (compareOp .In) (rIn K false) := h ▸ op_in_seq
theorem call_list_ofK (h : X.K = K) : CallR X (.type "list") (fun xs H Q => ∃ p ys, xs = [.ref p] ∧ (SqL K H p ys ∨ SqT K H p ys) ∧ ∀ l, H l = none → Q (.ref l) (upd H l (.lst ys))) := by
  subst h
  exact call_list_of
theorem call_tuple_ofK (h : X.K = K) : CallR X (.type "tuple") (fun xs H Q => ∃ p ys, xs = [.ref p] ∧ ((SqL K H p ys ∧ ∀ l, H l = none → Q (.ref l) (upd H l (.tup ys))) ∨ (SqT K H p ys ∧ Q (.ref p) H))) := by
  subst h
  exact call_tuple_of
theorem call_len_seqK (h : X.K = K) : CallR X (.builtin "len") (fun xs H Q => ∃ p ys, xs = [.ref p] ∧ (SqL K H p ys ∨ SqT K H p ys) ∧ Q (.int ys.length) H) := by
  subst h
  exact call_len_seq
theorem cr_allK (h : X.K = K) (hc : X.calm = true) : CallR X (.builtin "all") (rAll K) := by
  subst h
  exact cr_all hc
theorem pg_tupK {es : List Expr} {k : Nat} {t : TGs} {n : Nat} {pos : Pos} (h : X.K = K) (hc : X.calm = true) (hs : PGs X es t)
    (hn : (assignEach es X.env).length = n := by rfl) (hst : (assignEach es X.env).findIdx? (·.1) = none := by rfl) : PG X (.Tuple es k pos) (gTup K n t) := by
  subst h
  exact pg_tup hc hs hn hst
theorem op_notIn_seqK (h : X.K = K) : OpR X (compareOp .NotIn) (rIn K true) := h ▸ op_notIn_seq
end

/-! ### heaps -/
theorem same_new {H : Hp} {p : Addr} {o : HO} (h : H p = none) : Same H (upd H p o) := fun b x e => by
  rw [upd_ne (ne_of_none e h)]
  exact e
theorem same_at {H H2 : Hp} {p : Addr} {o : HO} (h : H p = none) (s : Same H H2) : Same H (upd H2 p o) := fun b x e => by
  rw [upd_ne (ne_of_none e h)]
  exact s b x e
theorem Same.tup {K : PySem.W.Frag} {H H' : Hp} {a : Addr} {xs : List V} (e : Same H H') (h : SqT K H a xs) : SqT K H' a xs := by
  rcases h with (h | ⟨o, h⟩) | h
  · exact .inl (.inl (e _ _ h))
  · exact .inl (.inr ⟨o, e _ _ h⟩)
  · exact .inr h
theorem sq {K : PySem.W.Frag} {H : Hp} {a : Addr} {xs : List V} (h : H a = some (.lst xs)) : SqL K H a xs := Or.inl (Or.inl h)
theorem sqt {K : PySem.W.Frag} {H : Hp} {a : Addr} {xs : List V} (h : H a = some (.tup xs)) : SqT K H a xs := Or.inl (Or.inl h)
/-- all that was tracked but a is as it was -/
def SameBut (a : Addr) (H H' : Hp) : Prop := ∀ b o, b ≠ a → H b = some o → H' b = some o
theorem SameBut.refl (a : Addr) (H : Hp) : SameBut a H H := fun _ _ _ h => h
theorem SameBut.trans {a : Addr} {H H1 H2 : Hp} (x : SameBut a H H1) (y : SameBut a H1 H2) : SameBut a H H2 := fun b o n h => y b o n (x b o n h)
theorem Same.but {a : Addr} {H H' : Hp} (x : Same H H') : SameBut a H H' := fun b o _ h => x b o h
theorem SameBut.upd {a : Addr} {H : Hp} {o : HO} : SameBut a H (upd H a o) := fun b x n h => by
  rw [upd_ne n]
  exact h
/-- new objects do not disturb: what was tracked at H, where a was not -/
theorem SameBut.same {a : Addr} {H H1 H2 : Hp} (x : Same H H1) (n : H a = none) (y : SameBut a H1 H2) : Same H H2 := fun b o h => y b o (ne_of_none h n) (x b o h)
theorem sz {n : Nat} (h : n ≤ 100000) : n ≤ sizeLine := Nat.le_trans h (by decide)
theorem szl {n : Nat} (h : n < 100000) : n < sizeLine := Nat.lt_of_lt_of_le h (by decide)
/-- the source of draws at a -/
def Src (H : Hp) (a : Addr) : Prop := ∃ n c : Int, H a = some (.lst [.int n, .int c])

/-! ### data -/
mutual
theorem dp_same {K : PySem.W.Frag} {H H' : Hp} (e : Same H H') : ∀ {v : V} {d : PyData}, Dp K H v d → Dp K H' v d
  | _, _, .non => .non
  | _, _, .bl b => .bl b
  | _, _, .int i => .int i
  | _, _, .str x => .str x
  | _, _, .lst h a => .lst (e.seq h) (dpAll_same e a)
  | _, _, .tup h a => .tup (Bx.Same.tup e h) (dpAll_same e a)
theorem dpAll_same {K : PySem.W.Frag} {H H' : Hp} (e : Same H H') : ∀ {vs : List V} {ds : List PyData}, DpAll K H vs ds → DpAll K H' vs ds
  | _, _, .nil => .nil
  | _, _, .cons h a => .cons (dp_same e h) (dpAll_same e a)
end
theorem dp_strs {K : PySem.W.Frag} {H : Hp} : ∀ ys : List Str, DpAll K H (ys.map V.str) (ys.map PyData.str)
  | [] => .nil
  | y :: ys => .cons (.str y) (dp_strs ys)
theorem dp_ints {K : PySem.W.Frag} {H : Hp} : ∀ ys : List Int, DpAll K H (ys.map V.int) (ys.map PyData.int)
  | [] => .nil
  | y :: ys => .cons (.int y) (dp_ints ys)
theorem dp_map {K : PySem.W.Frag} {H : Hp} {α : Type} {f : α → V} {g : α → PyData} : ∀ {l : List α}, (∀ x ∈ l, Dp K H (f x) (g x)) → DpAll K H (l.map f) (l.map g)
  | [], _ => .nil
  | x :: l, h => .cons (h x List.mem_cons_self) (dp_map fun y hy => h y (List.mem_cons_of_mem _ hy))

/-! ### walks with any body -/
theorem walk_any {J : It} {n : Nat} {G : Hp → Prop} {Y : Nat → Hp → V → Hp → Prop} (w : Walk J n G Y) {Z : Hp → Prop} {B : (Hp → Prop) → V → Hp → Prop} {H0 : Hp} (Pv : Nat → Hp → Prop) (h0 : Pv 0 H0) (hG : ∀ i H, i ≤ n → Pv i H → G H)
    (hs : ∀ i x H H', i < n → Pv i H → Y i H x H' → B (Pv (i + 1)) x H') (hd : ∀ H, Pv n H → Z H) :
    ∃ W : Nat → Nat → Hp → Prop, (∃ m, W 0 m H0) ∧ ∀ i m H, W i m H → (J.stop i H ∧ Z H) ∨ (J.go i H ∧ ∃ Nx : Hp → Prop, (∀ H', Nx H' → ∃ m', m' < m ∧ W (i + 1) m' H') ∧ ∀ x H', J.yld i H x H' → B Nx x H') := by
  refine ⟨fun i m H => m = n - i ∧ i ≤ n ∧ Pv i H, ⟨n, by simp, Nat.zero_le _, h0⟩, ?_⟩
  rintro i m H ⟨rfl, hi, p⟩
  have q := hG i H hi p
  by_cases hlt : i < n
  · exact .inr ⟨w.goes i H hlt q, Pv (i + 1), fun H' p' => ⟨n - (i + 1), by omega, rfl, hlt, p'⟩, fun x H' y => hs i x H H' hlt p (w.yields i H x H' hlt q y)⟩
  · have e : i = n := by omega
    subst e
    exact .inl ⟨w.stops H q, hd H p⟩

/-! ### a def with a star parameter alone -/
theorem okStar {P : Program} {w : World} {K : PySem.W.Frag} {mg : Str → Option Value} {base : Heap} {x qual pn : Str} {st : Stmt} {f : Addr} {fd : FuncData} {N : List Str} {k : Nat} {sp : Sp} (F : Fun K x qual st f fd) (S : FnScope N [pn] (defScope st))
    (hb : ∀ (kV doc pm : Value) (an : Option Addr) (cdv ct : Value) (rest : List Value), bindArgs (PySem.W.fnOf x qual (defArgs st) (defBody st) (defScope st) .none kV doc pm an cdv ct) ⟨rest, []⟩ = (newTuple rest >>= fun t => pure [(pn, t)]))
    (hbody : ∀ (cdv : Value) (A : Around) (outer : List Env) (s : Shared) (H : Hp) (vs : List V) (Q : VK) (E : XK), Room k (A.deeper (envOfC qual (defScope st) s.heap.objs.size f cdv)) → sp vs H Q E →
      ∃ t, PSs (cxOf CX0 P w K mg base N qual (defScope st) f cdv A outer s H E) (defBody st) t ∧ t { nx := fun _ H' => Q .non H', rt := Q } (start N vs) H) :
    FnR P w K mg base CX0 (k + 1) f (fun vs H Q E => vs.length ≤ sizeLine ∧ ∀ p, H p = none → sp [V.ref p] (upd H p (.tup vs)) Q E) := by
  obtain ⟨oc, od, kV, doc, pm, an, cdv, ct, osl, rfl, lk, hcd⟩ := F.ex
  have z := StX.fn_star (P := P) (w := w) (K := K) (mg := mg) (base := base) (CX := CX0) (ps := []) (sp := sp) lk hcd S StX.cxUp_none (fun us rest hl => by
    have e : us = [] := List.length_eq_zero_iff.mp hl
    subst e
    exact hb kV doc pm an cdv ct rest) (hbody cdv)
  exact z.imp fun vs H Q E h => ⟨[], vs, rfl, rfl, h.1, h.2⟩

/-- one parameter ahead of the star -/
theorem okStar1 {P : Program} {w : World} {K : PySem.W.Frag} {mg : Str → Option Value} {base : Heap} {x qual p1 pn : Str} {st : Stmt} {f : Addr} {fd : FuncData} {N : List Str} {k : Nat} {sp : Sp} (F : Fun K x qual st f fd) (S : FnScope N [p1, pn] (defScope st))
    (h0 : ∀ (kV doc pm : Value) (an : Option Addr) (cdv ct a : Value), bindArgs (PySem.W.fnOf x qual (defArgs st) (defBody st) (defScope st) .none kV doc pm an cdv ct) ⟨[a], []⟩ = (newTuple [] >>= fun t => pure [(p1, a), (pn, t)]))
    (h1 : ∀ (kV doc pm : Value) (an : Option Addr) (cdv ct a r : Value) (rs : List Value), bindArgs (PySem.W.fnOf x qual (defArgs st) (defBody st) (defScope st) .none kV doc pm an cdv ct) ⟨a :: r :: rs, []⟩ = (newTuple (r :: rs) >>= fun t => pure [(p1, a), (pn, t)]))
    (hbody : ∀ (cdv : Value) (A : Around) (outer : List Env) (s : Shared) (H : Hp) (vs : List V) (Q : VK) (E : XK), Room k (A.deeper (envOfC qual (defScope st) s.heap.objs.size f cdv)) → sp vs H Q E →
      ∃ t, PSs (cxOf CX0 P w K mg base N qual (defScope st) f cdv A outer s H E) (defBody st) t ∧ t { nx := fun _ H' => Q .non H', rt := Q } (start N vs) H) :
    FnR P w K mg base CX0 (k + 1) f (fun vs H Q E => ∃ v rest, vs = v :: rest ∧ rest.length ≤ sizeLine ∧ ∀ p, H p = none → sp [v, V.ref p] (upd H p (.tup rest)) Q E) := by
  obtain ⟨oc, od, kV, doc, pm, an, cdv, ct, osl, rfl, lk, hcd⟩ := F.ex
  have z := StX.fn_star (P := P) (w := w) (K := K) (mg := mg) (base := base) (CX := CX0) (ps := [p1]) (sp := sp) lk hcd S StX.cxUp_none
    (StX.bind_star1 (B := fun us => bindArgs (PySem.W.fnOf x qual (defArgs st) (defBody st) (defScope st) .none kV doc pm an cdv ct) ⟨us, []⟩) (h0 kV doc pm an cdv ct) (h1 kV doc pm an cdv ct)) (hbody cdv)
  exact z.imp fun vs H Q E ⟨v, rest, e, hl, h⟩ => ⟨[v], rest, e, rfl, hl, h⟩

/-! ### a walk over a list or a tuple, told once -/
theorem seq_case {K : PySem.W.Frag} {H : Hp} {a : Addr} {xs : List V} {R : It → Hp → Prop} (h : SqL K H a xs ∨ SqT K H a xs) (k : ∀ (J : It) (G : Hp → Prop), Walk J xs.length G (YAt xs) → (∀ H', Same H H' → G H') → R J H) : SeqCase K a H R := by
  rcases h with h | h
  · exact .inl ⟨⟨_, h⟩, k _ _ walk_list fun H' s => s.seq h⟩
  · exact .inr ⟨⟨_, h⟩, k _ _ walk_tup fun H' s => Bx.Same.tup s h⟩
theorem at_map {α : Type} {l : List α} {f : α → V} {i : Nat} {x : V} (h : (l.map f)[i]? = some x) : ∃ y, l[i]? = some y ∧ x = f y := by
  rw [List.getElem?_map] at h
  cases e : l[i]? with
  | none =>
    rw [e] at h
    cases h
  | some y =>
    rw [e] at h
    exact ⟨y, rfl, (Option.some.inj h).symm⟩

/-! ### texts in ascending order -/
theorem rising_at : ∀ (p : Str) (r : List Str), risingS p r = true → ∀ (k : Nat) (x y : Str), (p :: r)[k]? = some x → (p :: r)[k + 1]? = some y → ltCps y.cps.toList x.cps.toList = false
  | p, [], _, k, x, y, _, h2 => by
    simp at h2
  | p, q :: r, h, k, x, y, h1, h2 => by
    have h3 : (!ltCps q.cps.toList p.cps.toList && risingS q r) = true := h
    rw [Bool.and_eq_true] at h3
    cases k with
    | zero =>
      have e1 : p = x := Option.some.inj h1
      have e2 : q = y := Option.some.inj h2
      rw [← e1, ← e2]
      simpa using h3.1
    | succ k => exact rising_at q r h3.2 k x y h1 h2
theorem sorted_at {l : List Str} (h : sortedS l = true) (nd : l.Nodup) {k : Nat} {x y : Str} (h1 : l[k]? = some x) (h2 : l[k + 1]? = some y) : x.cps.toList < y.cps.toList := by
  cases l with
  | nil => cases h1
  | cons p r =>
    have a := rising_at p r h k x y h1 h2
    rw [ltCps_eq] at a
    refine Std.lt_of_le_of_ne (of_decide_eq_false a) fun e => ?_
    have e2 : x = y := ext_tl e
    obtain ⟨i1, e3⟩ := List.getElem?_eq_some_iff.mp h1
    obtain ⟨i2, e4⟩ := List.getElem?_eq_some_iff.mp h2
    have z := List.pairwise_iff_getElem.mp nd k (k + 1) i1 i2 (Nat.lt_succ_self k)
    exact z (e3.trans (e2.trans e4.symm))

/-! ### membership of texts -/
theorem inV_str (x : Str) (ys : List Str) : inV (.str x) (ys.map V.str) = decide (x ∈ ys) := by
  unfold inV
  rw [List.any_map]
  induction ys with
  | nil => rfl
  | cons y ys ih =>
    rw [List.any_cons, ih]
    show ((y == x) || _) = _
    by_cases e : y = x
    · subst e
      simp
    · have e2 : (y == x) = false := by simpa using e
      rw [e2, Bool.false_or]
      by_cases h : x ∈ ys
      · rw [decide_eq_true h, decide_eq_true (List.mem_cons_of_mem _ h)]
      · rw [decide_eq_false h, decide_eq_false (fun z => (List.mem_cons.mp z).elim (fun z => e z.symm) h)]
theorem flat_all (ys : List Str) : (ys.map V.str).all flatV = true := by
  rw [List.all_map, List.all_eq_true]
  intro y _
  rfl
theorem lay_strs : ∀ ys : List Str, (∀ y ∈ ys, PyData.strOk y = true) → PyData.canLayAll0 (ys.map PyData.str) = true ∧ PyData.depthAll (ys.map PyData.str) ≤ 1
  | [], _ => ⟨rfl, by decide⟩
  | y :: ys, h => by
    obtain ⟨a, b⟩ := lay_strs ys fun z hz => h z (List.mem_cons_of_mem _ hz)
    constructor
    · show (PyData.strOk y && PyData.canLayAll0 (ys.map PyData.str)) = true
      rw [a, h y List.mem_cons_self]
      rfl
    · show max (PyData.depth (.str y)) (PyData.depthAll (ys.map PyData.str)) ≤ 1
      exact Nat.max_le.mpr ⟨by first | exact Nat.zero_le _ | decide | exact Nat.le_refl _, b⟩
theorem lay_lists : ∀ L : List (List Str), (∀ ys ∈ L, ∀ y ∈ ys, PyData.strOk y = true) → PyData.canLayAll0 (L.map fun ys => PyData.list (ys.map PyData.str)) = true ∧ PyData.depthAll (L.map fun ys => PyData.list (ys.map PyData.str)) ≤ 2
  | [], _ => ⟨rfl, by decide⟩
  | ys :: L, h => by
    obtain ⟨a, b⟩ := lay_lists L fun z hz => h z (List.mem_cons_of_mem _ hz)
    obtain ⟨c, d⟩ := lay_strs ys (h ys List.mem_cons_self)
    constructor
    · show (PyData.canLayAll0 (ys.map PyData.str) && PyData.canLayAll0 (L.map fun ys => PyData.list (ys.map PyData.str))) = true
      rw [a, c]
      rfl
    · show max (PyData.depthAll (ys.map PyData.str) + 1) (PyData.depthAll (L.map fun ys => PyData.list (ys.map PyData.str))) ≤ 2
      exact Nat.max_le.mpr ⟨by omega, b⟩

/-! ### signs of a written text -/
theorem pick {L : Str} {r : Int} (h0 : 0 ≤ r) (h1 : r < (tl L).length) : ∃ c, atI L.cps.toList r = some c ∧ c ∈ tl L := by
  obtain ⟨n, rfl⟩ := Int.eq_ofNat_of_zero_le h0
  have hn : n < (tl L).length := by omega
  exact ⟨(tl L)[n], atI_nat (List.getElem?_eq_getElem hn), List.getElem_mem hn⟩
end Bx
/-! Data that stands in the heap, beside objects that change; rules told of data. -/
namespace Dx
open PySem PySem.Spec PyProof.Rows L2 Bx TL

/-! ### the heap without some addresses -/
def mn (H : Hp) (S : List Addr) : Hp := fun b => if b ∈ S then none else H b
theorem mn_in {H : Hp} {S : List Addr} {b : Addr} (h : b ∈ S) : mn H S b = none := if_pos h
theorem mn_out {H : Hp} {S : List Addr} {b : Addr} (h : b ∉ S) : mn H S b = H b := if_neg h
theorem mn_same {H : Hp} {S : List Addr} : Same (mn H S) H := fun b o e => by
  by_cases h : b ∈ S
  · rw [mn_in h] at e
    cases e
  · rw [mn_out h] at e
    exact e
theorem mn_nil {H : Hp} : mn H [] = H := funext fun b => mn_out (by simp)
theorem mn_sub {H : Hp} {S T : List Addr} (h : ∀ b, b ∈ S → b ∈ T) : Same (mn H T) (mn H S) := fun b o e => by
  by_cases h1 : b ∈ T
  · rw [mn_in h1] at e
    cases e
  · rw [mn_out h1] at e
    rw [mn_out fun z => h1 (h b z)]
    exact e
theorem mn_upd {H : Hp} {S : List Addr} {a : Addr} {o : HO} (h : a ∈ S) : mn (upd H a o) S = mn H S := funext fun b => by
  by_cases h1 : b ∈ S
  · rw [mn_in h1, mn_in h1]
  · rw [mn_out h1, mn_out h1, upd_ne (show b ≠ a from fun z => h1 (by rw [z]; exact h))]
theorem mn_new {H : Hp} {S : List Addr} {p : Addr} {o : HO} (h : H p = none) : Same (mn H S) (mn (upd H p o) S) := fun b u e => by
  by_cases h1 : b ∈ S
  · rw [mn_in h1] at e
    cases e
  · rw [mn_out h1] at e ⊢
    rw [upd_ne (ne_of_none e h)]
    exact e
theorem mn_but {H H' : Hp} {S : List Addr} {a : Addr} (h : a ∈ S) (s : SameBut a H H') : Same (mn H S) (mn H' S) := fun b u e => by
  by_cases h1 : b ∈ S
  · rw [mn_in h1] at e
    cases e
  · rw [mn_out h1] at e ⊢
    exact s b u (fun z => h1 (z ▸ h)) e
theorem mn_all {H H' : Hp} {S : List Addr} (s : Same H H') : Same (mn H S) (mn H' S) := fun b u e => by
  by_cases h1 : b ∈ S
  · rw [mn_in h1] at e
    cases e
  · rw [mn_out h1] at e ⊢
    exact s b u e
theorem mn_to {H H' : Hp} {S T : List Addr} (h : ∀ b, b ∈ S → b ∈ T) (s : Same (mn H S) (mn H' S)) : Same (mn H T) (mn H' T) := fun b u e => by
  by_cases h1 : b ∈ T
  · rw [mn_in h1] at e
    cases e
  · rw [mn_out h1] at e ⊢
    have z := s b u (by rw [mn_out fun z => h1 (h b z)]; exact e)
    rw [mn_out fun z => h1 (h b z)] at z
    exact z
/-- what is tracked beside S was there, or is new -/
theorem mn_at {H : Hp} {S : List Addr} {b : Addr} {o : HO} (h : b ∉ S) (e : H b = some o) : mn H S b = some o := by
  rw [mn_out h]
  exact e
theorem mn_keep {H H' : Hp} {S : List Addr} (s : Same (mn H S) (mn H' S)) {b : Addr} {o : HO} (h : b ∉ S) (e : H b = some o) : H' b = some o := mn_same _ _ (s _ _ (mn_at h e))
theorem mn_free {H H' : Hp} {S : List Addr} (s : Same (mn H S) (mn H' S)) {b : Addr} (h : b ∉ S) (e : H' b = none) : H b = none := by
  cases z : H b with
  | none => rfl
  | some o =>
    rw [mn_keep s h z] at e
    cases e

/-! ### data -/
section
variable {K : PySem.W.Frag} {H : Hp}
theorem dp_lst {v : V} {ds : List PyData} (h : Dp K H v (.list ds)) : ∃ a xs, v = .ref a ∧ SqL K H a xs ∧ DpAll K H xs ds := by
  cases h with
  | lst s a => exact ⟨_, _, rfl, s, a⟩
theorem dp_tup {v : V} {ds : List PyData} (h : Dp K H v (.tuple ds)) : ∃ a xs, v = .ref a ∧ SqT K H a xs ∧ DpAll K H xs ds := by
  cases h with
  | tup s a => exact ⟨_, _, rfl, s, a⟩
theorem dp_str {v : V} {s : Str} (h : Dp K H v (.str s)) : v = .str s := by cases h; rfl
theorem dp_int {v : V} {i : Int} (h : Dp K H v (.int i)) : v = .int i := by cases h; rfl
theorem da_len : ∀ {xs : List V} {ds : List PyData}, DpAll K H xs ds → xs.length = ds.length
  | _, _, .nil => rfl
  | _, _, .cons _ t => congrArg (· + 1) (da_len t)
theorem da_get : ∀ {xs : List V} {ds : List PyData}, DpAll K H xs ds → ∀ {i : Nat} {d : PyData}, ds[i]? = some d → ∃ v, xs[i]? = some v ∧ Dp K H v d
  | _, _, .nil, i, d, e => by cases e
  | _, _, .cons h t, 0, d, e => by
    cases e
    exact ⟨_, rfl, h⟩
  | _, _, .cons h t, i + 1, d, e => da_get t e
theorem da_at : ∀ {xs : List V} {ds : List PyData}, DpAll K H xs ds → ∀ {i : Nat} {v : V}, xs[i]? = some v → ∃ d, ds[i]? = some d ∧ Dp K H v d
  | _, _, .nil, i, d, e => by cases e
  | _, _, .cons h t, 0, d, e => by
    cases e
    exact ⟨_, rfl, h⟩
  | _, _, .cons h t, i + 1, d, e => da_at t e
theorem da_app : ∀ {xs ys : List V} {ds es : List PyData}, DpAll K H xs ds → DpAll K H ys es → DpAll K H (xs ++ ys) (ds ++ es)
  | _, _, _, _, .nil, h => h
  | _, _, _, _, .cons h t, k => .cons h (da_app t k)
theorem da_one {v : V} {d : PyData} (h : Dp K H v d) : DpAll K H [v] [d] := .cons h .nil
theorem da_strs : ∀ {xs : List V} {ns : List Str}, DpAll K H xs (ns.map PyData.str) → xs = ns.map V.str
  | [], [], _ => rfl
  | [], _ :: _, h => by cases h
  | _ :: _, [], h => by cases h
  | x :: xs, n :: ns, h => by
    cases h with
    | cons h t =>
      rw [dp_str h, da_strs t]
      rfl
theorem da_ints : ∀ {xs : List V} {ns : List Int}, DpAll K H xs (ns.map PyData.int) → xs = ns.map V.int
  | [], [], _ => rfl
  | [], _ :: _, h => by cases h
  | _ :: _, [], h => by cases h
  | x :: xs, n :: ns, h => by
    cases h with
    | cons h t =>
      rw [dp_int h, da_ints t]
      rfl
theorem da_take : ∀ {xs : List V} {ds : List PyData}, DpAll K H xs ds → ∀ n, DpAll K H (xs.take n) (ds.take n)
  | _, _, .nil, n => by
    rw [List.take_nil, List.take_nil]
    exact .nil
  | _, _, .cons h t, 0 => .nil
  | _, _, .cons h t, n + 1 => .cons h (da_take t n)
/-- the strs of a tuple of texts -/
theorem dp_names {v : V} {ns : List Str} (h : Dp K H v (.tuple (ns.map PyData.str))) : ∃ a, v = .ref a ∧ SqT K H a (ns.map V.str) := by
  obtain ⟨a, xs, rfl, s, t⟩ := dp_tup h
  rw [da_strs t] at s
  exact ⟨a, rfl, s⟩
theorem dp_namesL {v : V} {ns : List Str} (h : Dp K H v (.list (ns.map PyData.str))) : ∃ a, v = .ref a ∧ SqL K H a (ns.map V.str) := by
  obtain ⟨a, xs, rfl, s, t⟩ := dp_lst h
  rw [da_strs t] at s
  exact ⟨a, rfl, s⟩
theorem names_dp {a : Addr} {ns : List Str} (h : SqT K H a (ns.map V.str)) : Dp K H (.ref a) (.tuple (ns.map PyData.str)) := .tup h (dp_strs ns)
theorem namesL_dp {a : Addr} {ns : List Str} (h : SqL K H a (ns.map V.str)) : Dp K H (.ref a) (.list (ns.map PyData.str)) := .lst h (dp_strs ns)
end

/-! ### what may be compared: no dicts, not too deep -/
def Lay (n : Nat) (d : PyData) : Prop := d.canLay0 = true ∧ d.depth ≤ n
def Lays (n : Nat) (ds : List PyData) : Prop := PyData.canLayAll0 ds = true ∧ PyData.depthAll ds ≤ n
theorem lays_nil {n : Nat} : Lays n [] := ⟨rfl, Nat.zero_le _⟩
theorem lays_cons {n : Nat} {d : PyData} {ds : List PyData} (h : Lay n d) (t : Lays n ds) : Lays n (d :: ds) := by
  constructor
  · show (d.canLay0 && PyData.canLayAll0 ds) = true
    rw [h.1, t.1]
    rfl
  · show max d.depth (PyData.depthAll ds) ≤ n
    exact Nat.max_le.mpr ⟨h.2, t.2⟩
theorem lays_of {n : Nat} : ∀ {ds : List PyData}, (∀ d ∈ ds, Lay n d) → Lays n ds
  | [], _ => lays_nil
  | d :: ds, h => lays_cons (h d List.mem_cons_self) (lays_of fun x hx => h x (List.mem_cons_of_mem _ hx))
theorem lay_tuple {n : Nat} {ds : List PyData} (h : Lays n ds) : Lay (n + 1) (.tuple ds) := ⟨h.1, Nat.succ_le_succ h.2⟩
theorem lay_list {n : Nat} {ds : List PyData} (h : Lays n ds) : Lay (n + 1) (.list ds) := ⟨h.1, Nat.succ_le_succ h.2⟩
theorem lay_int {n : Nat} {i : Int} : Lay n (.int i) := ⟨rfl, Nat.zero_le _⟩
theorem lay_str {n : Nat} {s : Str} (h : PyData.strOk s = true) : Lay n (.str s) := ⟨h, Nat.zero_le _⟩
theorem lay_up {m n : Nat} {d : PyData} (h : Lay m d) (k : m ≤ n) : Lay n d := ⟨h.1, Nat.le_trans h.2 k⟩
theorem lays_up {m n : Nat} {ds : List PyData} (h : Lays m ds) (k : m ≤ n) : Lays n ds := ⟨h.1, Nat.le_trans h.2 k⟩
theorem lays_mem {n : Nat} : ∀ {ds : List PyData}, Lays n ds → ∀ d ∈ ds, Lay n d
  | d :: ds, h, x, hx => by
    have h1 : (d.canLay0 && PyData.canLayAll0 ds) = true := h.1
    have h2 : max d.depth (PyData.depthAll ds) ≤ n := h.2
    rw [Bool.and_eq_true] at h1
    rw [Nat.max_le] at h2
    rcases List.mem_cons.mp hx with e | e
    · rw [e]
      exact ⟨h1.1, h2.1⟩
    · exact lays_mem ⟨h1.2, h2.2⟩ x e
theorem lays_strs {n : Nat} {ns : List Str} (h : ∀ s ∈ ns, PyData.strOk s = true) : Lays n (ns.map PyData.str) := lays_of fun d hd => by
  obtain ⟨s, hs, rfl⟩ := List.mem_map.mp hd
  exact lay_str (h s hs)
theorem lays_ints {n : Nat} {ns : List Int} : Lays n (ns.map PyData.int) := lays_of fun d hd => by
  obtain ⟨s, _, rfl⟩ := List.mem_map.mp hd
  exact lay_int
theorem shape {n : Nat} {d : PyData} (h : Lay n d) (k : n ≤ 64) : SeqAt.shaped d = true := by
  unfold SeqAt.shaped
  rw [Bool.and_eq_true]
  exact ⟨h.1, decide_eq_true (Nat.le_trans h.2 k)⟩
theorem eq_refl {n : Nat} {d : PyData} (h : Lay n d) : PyData.eqv d d = true := SeqAt.eqv_refl d h.1

/-! ### strict order of lists of texts, and equal lists -/
def Asc (l : List Str) : Prop := l.Pairwise fun x y => x.cps.toList < y.cps.toList
theorem asc_of : ∀ {l : List Str}, sortedS l = true → l.Nodup → Asc l := by
  intro l h nd
  have key : ∀ (d i : Nat) (x y : Str), l[i]? = some x → l[i + (d + 1)]? = some y → x.cps.toList < y.cps.toList := by
    intro d
    induction d with
    | zero => exact fun i x y h1 h2 => sorted_at h nd h1 h2
    | succ d ih =>
      intro i x y h1 h2
      have hl : i + (d + 1) < l.length := by
        have := (List.getElem?_eq_some_iff.mp h2).1
        omega
      have h3 : l[i + (d + 1)]? = some l[i + (d + 1)] := List.getElem?_eq_getElem hl
      exact List.lt_trans (ih i x _ h1 h3) (sorted_at h nd h3 h2)
  refine List.pairwise_iff_getElem.mpr fun i j hi hj hij => ?_
  exact key (j - i - 1) i _ _ (List.getElem?_eq_getElem hi) (by rw [show i + (j - i - 1 + 1) = j by omega]; exact List.getElem?_eq_getElem hj)
theorem asc_nodup {l : List Str} (h : Asc l) : l.Nodup := List.Pairwise.imp (fun {x y} hxy e => by
  rw [e] at hxy
  exact List.lt_irrefl _ hxy) h
theorem asc_eq : ∀ {l m : List Str}, Asc l → Asc m → (∀ x, x ∈ l ↔ x ∈ m) → l = m
  | [], [], _, _, _ => rfl
  | [], y :: m, _, _, h => absurd ((h y).mpr List.mem_cons_self) (by simp)
  | x :: l, [], _, _, h => absurd ((h x).mp List.mem_cons_self) (by simp)
  | x :: l, y :: m, h1, h2, h => by
    obtain ⟨a1, a2⟩ := List.pairwise_cons.mp h1
    obtain ⟨b1, b2⟩ := List.pairwise_cons.mp h2
    have e : x = y := by
      rcases List.mem_cons.mp ((h x).mp List.mem_cons_self) with e | e
      · exact e
      · rcases List.mem_cons.mp ((h y).mpr List.mem_cons_self) with e' | e'
        · exact e'.symm
        · exact absurd (List.lt_trans (a1 y e') (b1 x e)) (List.lt_irrefl _)
    subst e
    have nl : x ∉ l := fun z => List.lt_irrefl _ (a1 x z)
    have nm : x ∉ m := fun z => List.lt_irrefl _ (b1 x z)
    rw [asc_eq a2 b2 fun z => ⟨fun hz => (List.mem_cons.mp ((h z).mp (List.mem_cons_of_mem _ hz))).resolve_left fun e => nl (e ▸ hz), fun hz => (List.mem_cons.mp ((h z).mpr (List.mem_cons_of_mem _ hz))).resolve_left fun e => nm (e ▸ hz)⟩]

/-! ### sorted(xs), xs tuples of ints of one length: some order -/
def rSortRows (K : PySem.W.Frag) : List V → Hp → VK → Prop := fun vs H Q => ∃ (a : Addr) (xs : List V) (d : Nat) (B : Int), vs = [V.ref a] ∧ SqL K H a xs ∧ xs.length < 64 ∧ (∀ x ∈ xs, ∃ ns, TupI K H x ns ∧ ns.length = d ∧ TS.Bd B ns) ∧ (d = 0 → xs.length ≤ 1) ∧
  ∀ (ys : List V) (p : Addr), ys.Perm xs → H p = none → Q (.ref p) (upd H p (.lst ys))
theorem cr_sortRows {X : Cx} : CallR X (.builtin "sorted") (rSortRows X.K) := by
  intro pins s σ H vs us Q I r h
  obtain ⟨a, xs, d, B, rfl, hs, h64, hx, h1, q⟩ := h
  by_cases hd : 1 ≤ d
  · exact cr_sortT hd pins s σ H _ us Q I r ⟨a, xs, rfl, hs, h64, hx, fun ys p pm _ n => q ys p pm n⟩
  · have hl1 : xs.length ≤ 1 := h1 (by omega)
    obtain ⟨its, rv, hl, hz⟩ := I.list hs
    have hlen := rv.length
    rw [Vals.ref1 r]
    refine Srt.sorted_any hl.isList (by rw [← hlen]; exact hz) (fun h2 => absurd h2 (by omega)) fun out hp => ?_
    have e : out = its := by
      match its, hlen, hp with
      | [], _, hp => exact hp.eq_nil
      | [v], _, hp => exact List.perm_singleton.mp hp
      | _ :: _ :: _, hlen, _ =>
        simp only [List.length_cons] at hlen
        omega
    subst e
    obtain ⟨ep, he'⟩ := PyProof.Rows.sortedAll_at s.heap out out.toArray
    exact ⟨.ref _, upd H (s.heap.objs.size + 1) (.lst xs), I.laid (t' := s.toks) (fun _ _ => PyProof.Rows.sortedAll_old) (Nat.le_succ _) ⟨hz, out, ep, rv, by simpa using he'⟩, rfl, q xs _ (List.Perm.refl _) (I.hok.fresh (Nat.le_succ _))⟩

/-! ### the room of a call for a comparison of data -/
theorem room {k : Nat} {A : Around} (r : Room k A) : A.units + 65 < cLine := by
  have := r.un
  omega

/-! ### a list or a tuple of data -/
theorem dp_seq {K : PySem.W.Frag} {H : Hp} {v : V} {ds : List PyData} (h : Dp K H v (.list ds) ∨ Dp K H v (.tuple ds)) : ∃ a xs, v = .ref a ∧ DpAll K H xs ds ∧ (SqL K H a xs ∨ SqT K H a xs) := by
  rcases h with h | h
  · obtain ⟨a, xs, rfl, s, t⟩ := dp_lst h
    exact ⟨a, xs, rfl, t, .inl s⟩
  · obtain ⟨a, xs, rfl, s, t⟩ := dp_tup h
    exact ⟨a, xs, rfl, t, .inr s⟩

/-! ### name = {k: v for ..} -/
section
variable {X : Cx}
theorem ps_setDc {i : Nat} {y : Str} {py : Pos} {kx vx tg iter : Expr} {ifs : List Expr} {scope : Scope} {own : List (Str × Nat)} {pos spos : Pos} {wi : TI} {g : TG} {tt : TT} {tk tv : TE} (hc : X.calm = true) (hN : X.N.Nodup) (hy : X.N[i]? = some y) (hyl : X.env.scope.names.lookup y = some .local)
    (hsw : swapsWith (.DictComp kx vx [⟨tg, iter, ifs, 0⟩] scope pos) (some (.Name y py)) spos.line X.env = pure true) (hi : PI X tg iter wi) (ok : BlkOk X.N X.env.scope scope own)
    (hg : ∀ (s : Shared) (H : Hp) (C : Addr) (cl : List (Str × Addr)) (fp : List Addr), PG (X.blk s H scope (compEnvC scope cl C X.env) fp) tg g) (ht : ∀ (s : Shared) (H : Hp) (C : Addr) (cl : List (Str × Addr)) (fp : List Addr), PTs (X.blk s H scope (compEnvC scope cl C X.env) fp) ifs tt)
    (hk : ∀ (s : Shared) (H : Hp) (C : Addr) (cl : List (Str × Addr)) (fp : List Addr), PE (X.blk s H scope (compEnvC scope cl C X.env) fp) kx tk)
    (he : ∀ (s : Shared) (H : Hp) (C : Addr) (cl : List (Str × Addr)) (fp : List Addr), PE (X.blk s H scope (compEnvC scope cl C X.env) fp) vx tv) (hs : ∀ x, foldedSetIterable iter X.env x = pure x := by intro _; rfl) :
    PS X (.Assign [.Name y py] (.DictComp kx vx [⟨tg, iter, ifs, 0⟩] scope pos) spos) (tAsg (tDc wi g tt tk tv (own.map (·.2))) (gName i)) := by
  refine ⟨fun pins s σ H D I h => ?_⟩
  rw [exec_Assign_Name_used _ _ _ _ hsw]
  refine wpAny_bind (wpAny_standAt (wpAny_bind ?_))
  show wpAny _ X.A (do let _ ← comprehension (.DictComp kx vx [⟨tg, iter, ifs, 0⟩] scope pos) scope X.env _ newDict false (eval iter X.env) (some (assign (.Name y py) X.env))) _ _ s
  have h : tDc wi g tt tk tv (own.map (·.2)) σ H (fun x H1 => gName i x σ H1 D.nx) := h
  refine wpAny_bind (thn (dc_core (Qf := fun _ s' => SP X pins D .next s') hc hN I hi ok hg ht hk he hs h fun L C s' m H' I' q hn f => ?_) fun _ s' hq => wpAny_pure (wpAny_pure hq))
  show wpAny _ _ (assign (.Name y py) X.env (.ref L)) _ _ _
  refine wpAny_assign_Name (store_ok2 (v := V.ref L) I' hN hy (.inl hyl) rfl (fun s2 I2 ⟨a, sb, ha⟩ => ?_) (.inr hyl))
  obtain ⟨f0, f1, f2, f3, f4, f5⟩ := f
  have haC : C ≠ a := by
    rcases ha with z | z
    · rw [z]; exact f1
    · exact fun e => f4 y a z e.symm
  refine ⟨m, hn.sameBut sb haC, fun h3 sb3 => ?_⟩
  exact ⟨_, H', I2.turned (t' := s2.toks) (fun b o hb e => (sb3.2 b hb).trans e) f0 f1 f3 f4 f5, q⟩
theorem sw_trueD {kx vx : Expr} {gs : List Comprehension} {scope : Scope} {pos py : Pos} {y : Str} {l : Nat} {env : Env} (hk : env.scope.kind = .function) (hy : env.scope.names.lookup y = some .local) (hl : (py.line == pos.line) = true)
    (ha : (scope.names.any fun (n, k) => n == y && (k == .local || k == .cell)) = false) : swapsWith (.DictComp kx vx gs scope pos) (some (.Name y py)) l env = pure true := by
  have ky : env.kindOf y = some .local := hy
  have hb : env.blockKind = .function := by unfold Env.blockKind; rw [hk]; rfl
  unfold swapsWith
  simp only [hb, ky, ha, Expr.pos, hl]
  rfl
end
end Dx
/-! Own errors with one field, whose __init__ says super().__init__(f'..'). -/
namespace Er
open PySem PySem.Spec PyProof.Rows L2 Bx TL Dx Sup NdefX
/-- __init__(self, y): the error at a gets a dict with f = y -/
def spErr (ok : V → Prop) (C : Addr) (f : Str) : Sp := fun vs H Q _ => ∃ (a : Addr) (v : V), vs = [.ref a, v] ∧ ok v ∧ H a = some (exo a C none) ∧
  ∀ (d : Addr) (H' : Hp), (∀ b o, b ≠ a → H b = some o → H' b = some o) → H d = none → d ≠ a → H' a = some (exo a C (some d)) → H' d = some (exd d [(f, v)]) → Q .non H'
/-- the class at C, named x: an own error over ValueError with one field -/
structure Err (P : Program) (w : World) (K : PySem.W.Frag) (mg : Str → Option Value) (base : Heap) (x : Str) (C : Addr) (f y : Str) (ok : V → Prop) (k : Nat) : Prop where
  init : ∃ (fI : Addr) (fd : FuncData), PySem.W.findIn K (.ref C) "__init__" = some (some (.ref fI)) ∧ PySem.W.typeIn K (.ref fI) = some (.type "function") ∧ FnOk P w K mg base CX0 k fI fd ["self", y] (spErr ok C f) ∧ Binds K fd ["self", y] []
  exc : OexC K C
  g : mg x = some (.ref C)
  te : PySem.W.exmOne K (.ref C) (.ref C) = some true
  xf : XfC K C
  no : PySem.W.findIn K (.ref C) f = some none
section
variable {X : Cx} {x : Str} {C : Addr} {f y : Str} {ok : V → Prop} {k : Nat} {e : Expr} {te : TE} {p pos pos' : Pos} {W : WX}
theorem ps_raiseE (c : Err X.prog X.w X.K X.mg X.base x C f y ok k) (hc : X.calm = true) (tk : Takes X W) (hr : Room (k + 1) X.A) (he : PE X e te) (hg : Gl X x := by rfl) (hdb : (x == ("__debug__" : Str)) = false := by decide)
    (hst : starEach [e] X.env = (false, eval e X.env) :: starEach [] X.env := by rfl) (hpl : (backTo pos (starEach [] X.env)).any (·.1) = false := by rfl) :
    PS X (.Raise (some (.Call (.Name x p) [e] [] pos)) none pos') (fun _ σ H => te σ H fun v H1 => ok v ∧ ∀ d H3, Same H1 H3 → H1 d = none → H3 d = some (.xd [(f, v)]) → W (.ref C) (some d) σ H3) := by
  obtain ⟨fI, fd, iC, tI, F1, hb⟩ := c.init
  have he2 : PE X e (fun σ H Q => ∃ R : VK, te σ H R ∧ ∀ v H1, R v H1 → Q v H1) := ⟨fun pins s σ H Q I ⟨R, h, hR⟩ => thn (he.run pins s σ H R I h) fun v s1 ⟨x, H1, I1, r, q⟩ => ⟨x, H1, I1, r, hR _ _ q⟩⟩
  have z := ps_raise (pos := pos') hc tk (pmk_oex (pos := pos) (p := p) (dvs := []) c.exc iC tI F1 hr hb .nil (pass0) hg c.g (pa_cons he2 pa_nil hst) hdb hst hpl)
  refine ⟨fun pins s σ H D I h => z.run pins s σ H D I ?_⟩
  refine ⟨_, h, fun v H1 hq => ?_⟩
  obtain ⟨hok, hw⟩ := hq
  refine ⟨by show 1 ≤ 1000; decide, fun a na => ⟨a, v, rfl, hok, upd_same, fun d H' keep nd da ea ed => ?_⟩⟩
  have nd1 : H1 d = none := by
    rw [upd_ne da] at nd
    exact nd
  refine ⟨rfl, d, _, ea, ed, nd1, hw d _ (fun b o e => ?_) nd1 upd_same⟩
  have ba : b ≠ a := ne_of_none e na
  rw [upd_ne (ne_of_none e nd1), del_ne ba]
  exact keep b o ba (by rw [upd_ne ba]; exact e)
end
/-! ### isinstance of an error with a dict -/
def rIsD (K : PySem.W.Frag) (a : Addr) (cls : Value) (d : Option Addr) : List V → Hp → VK → Prop := fun xs H Q => ∃ (D dd : Addr) (c : V) (cv : Value) (b : Bool) (fs : List (Str × V)), xs = [.ref a, c] ∧ cls = .ref D ∧ d = some dd ∧ (PySem.W.clsIn K D).isSome = true ∧ ExcC K D ∧
  H dd = some (.xd fs) ∧ (∀ u, RelV c u → u = cv) ∧ PySem.W.kitOne K (.ref D) cv = some b ∧ Q (.bl b) H
theorem call_isD {X : Cx} {a : Addr} {cls : Value} {d : Option Addr} {oe : Obj} {pn : List (Addr × Obj)} (hz : Zc cls d oe) (hf : ∃ vs, oe.data = .fields vs) : CallR (X.suite a ((a, oe) :: pn)) (.builtin "isinstance") (rIsD X.K a cls d) := by
  intro pins s σ H xs us Q I r h
  obtain ⟨D, dd, c, cv, b, fs, rfl, rfl, rfl, hcl, C, hdd, hcv, e, q⟩ := h
  cases r with
  | cons rx rr =>
    cases rr with
    | cons rt rr =>
      cases rr
      cases rx
      have ec := hcv _ rt
      subst ec
      obtain ⟨hget, _⟩ := I.pin (a, oe) (List.mem_append.mpr (.inl List.mem_cons_self))
      obtain ⟨vs, hv⟩ := hf
      obtain ⟨oD, hD⟩ : ∃ o, s.heap.get? dd = some o := by
        obtain ⟨mA, hn, _⟩ := I.hok dd _ hdd
        obtain ⟨o, _, _, e, _⟩ := hn
        exact ⟨o, e⟩
      have J : PySem.W.InstAt s.heap a oe D (some oD) := by
        obtain ⟨oc, od, oda, osl⟩ := oe
        obtain ⟨h1, h2⟩ := hz
        dsimp only at h1 h2 hv
        subst h1 h2 hv
        exact ⟨hget, rfl, rfl, hD⟩
      exact PySem.W.kia_one (PySem.W.kitx_exc hcl C.hg C.hk C.hs C.ha C.hn C.ht C.hm) I.kIn J e (fun z => nomatch z) fun tk => ⟨.bl b, H, I.kept (t' := tk) fun _ _ z => z, rfl, q⟩
/-! ### calls of defs that may raise -/
section
variable {X : Cx} {CX : CXT} {k n : Nat} {f : Addr} {fd : FuncData} {ps ks : List Str} {sp : Sp} {E : L2.St → XK} {x : Str} {p pos : Pos} {e : Expr} {es : List Expr} {kws : List Keyword} {t tk : TA} {g : List Value → List Value → List Value} {gV : List V → List V → List V}
theorem run_fnNS {pins : List (Addr × Obj)} {σ : L2.St} {H : Hp} {s : Shared} {Q : VK} {us ws : List Value} {vs zs : List V} (F : FnOk X.prog X.w X.K X.mg X.base CX k f fd ps sp) (hr : Room k X.A) (hb : KBn X.K fd ps n ks g gV) (hx : PassesAt CX X σ (E σ))
    (I : Inv X pins σ H s) (r : Vals vs us) (rz : Vals zs ws) (l1 : vs.length = n) (l2 : zs.length = ks.length) (h : sp (gV vs zs) H Q (E σ)) : wpAny (model X.prog X.w) X.A (call (.ref f) us (ks.zip ws)) (EP X pins σ Q) X.xe s := by
  refine wpAny_call (codeAny_mono (F.run X.A X.stack s H ⟨us, ks.zip ws⟩ (g us ws) (gV vs zs) Q (E σ) hr I.env0 (hb.to s us ws I.kIn (by rw [← r.length]; exact l1) (by rw [← rz.length]; exact l2)) (hb.rel r rz) h) fun r s' hq => ?_)
  cases r with
  | error e => exact hx pins H s e s' I hq
  | ok fl =>
    cases fl with
    | ret u => exact I.after hq
    | next => exact False.elim hq
    | brk => exact False.elim hq
    | cont => exact False.elim hq
def tCallNS (n m : Nat) (sp : Sp) (gV : List V → List V → List V) (E : L2.St → XK) (t tk : TA) : TE := fun σ H Q => t σ H fun vs H1 => tk σ H1 fun zs H2 => vs.length = n ∧ zs.length = m ∧ sp (gV vs zs) H2 Q (E σ)
theorem pe_callNS (F : FnOk X.prog X.w X.K X.mg X.base CX k f fd ps sp) (hr : Room k X.A) (hg : Gl X x) (hm : X.mg x = some (.ref f)) (hk : PySem.W.keepIn X.K (.ref f) = true) (hb : KBn X.K fd ps n ks g gV) (hx : ∀ σ, PassesAt CX X σ (E σ))
    (ha : PA X (e :: es) t) (hkw : PK X kws tk) (hall : (backToKw pos (keywordEach kws X.env)).all (·.1.isSome) = true := by rfl) (hks : (backToKw pos (keywordEach kws X.env)).filterMap (·.1) = ks := by rfl)
    (hdb : (x == ("__debug__" : Str)) = false := by decide) (he : starEach (e :: es) X.env = (false, eval e X.env) :: starEach es X.env := by rfl)
    (hpl : ((backTo pos (starEach (e :: es) X.env)).any (·.1) || (backToKw pos (keywordEach kws X.env)).any (·.1.isNone)) = false := by rfl) :
    PE X (.Call (.Name x p) (e :: es) kws pos) (tCallNS n ks.length sp gV E t tk) := by
  refine ⟨fun pins s σ H Q I h => ?_⟩
  refine wpAny_Call_Name_kw (ld_glob I hg hm ?_ hdb)
  refine PySem.W.callWith_KW (h₀ := X.base) I.ok.mod.kin hk hall (thn (ha.run pos pins s σ H _ I h) fun us s1 ⟨vs, H1, I1, r, q⟩ => ?_) hpl he
  refine thn (hkw.run pos pins s1 σ H1 _ I1 q) fun ws s2 ⟨zs, H2, I2, rz, l1, l2, q2⟩ => ⟨I2.kIn, ?_⟩
  rw [hks]
  exact run_fnNS F hr hb (hx σ) I2 r rz l1 l2 q2
/-- the module's name x holds a def of one parameter and a keyword-only one with a default; it may raise -/
structure CalX (P : Program) (w : World) (K : PySem.W.Frag) (mg : Str → Option Value) (base : Heap) (x y : Str) (k : Nat) (ps : List Str) (dv : V) (sp : Sp) : Prop where
  ex : ∃ (f : Addr) (fd : FuncData), FnOk P w K mg base (L2.CX P w) k f fd ps sp ∧ mg x = some (.ref f) ∧ PySem.W.keepIn K (.ref f) = true ∧ (∃ ds, Vals [dv] ds ∧ Binds K fd ps ds) ∧ KBn K fd ps 1 [y] (fun us ws => us ++ ws) (fun vs zs => vs ++ zs)
variable {y : Str} {dv : V} {W : WX} {tk1 : TA}
def tCalX (sp : Sp) (dv : V) (W : WX) (t : TA) : TE := fun σ H Q => t σ H fun vs H1 => sp (vs ++ [dv]) H1 Q (fun cls d H' => W cls d σ H')
def tCalXK (sp : Sp) (W : WX) (t tk : TA) : TE := fun σ H Q => t σ H fun vs H1 => tk σ H1 fun zs H2 => vs.length = 1 ∧ zs.length = 1 ∧ sp (vs ++ zs) H2 Q (fun cls d H' => W cls d σ H')
theorem pe_calX (c : CalX X.prog X.w X.K X.mg X.base x y k ps dv sp) (tkW : Takes X W) (hr : Room k X.A) (ha : PA X (e :: es) t) (hg : Gl X x := by rfl) (hdb : (x == ("__debug__" : Str)) = false := by decide)
    (he : starEach (e :: es) X.env = (false, eval e X.env) :: starEach es X.env := by rfl) (hpl : (backTo pos (starEach es X.env)).any (·.1) = false := by rfl) : PE X (.Call (.Name x p) (e :: es) [] pos) (tCalX sp dv W t) := by
  obtain ⟨f, fd, ok, hm, kp, ⟨ds, hv, hb⟩, _⟩ := c.ex
  have z := pe_callSD (E := fun σ cls d H' => W cls d σ H') ok hr hg hm kp hb hv (fun σ => passAt tkW σ) ha hdb he hpl (p := p)
  exact ⟨fun pins s σ H Q I h => z.run pins s σ H Q I h⟩
theorem pe_calXK (c : CalX X.prog X.w X.K X.mg X.base x y k ps dv sp) (tkW : Takes X W) (hr : Room k X.A) (ha : PA X (e :: es) t) (hkw : PK X kws tk1) (hg : Gl X x := by rfl) (hall : (backToKw pos (keywordEach kws X.env)).all (·.1.isSome) = true := by rfl) (hks : (backToKw pos (keywordEach kws X.env)).filterMap (·.1) = [y] := by rfl)
    (hdb : (x == ("__debug__" : Str)) = false := by decide) (he : starEach (e :: es) X.env = (false, eval e X.env) :: starEach es X.env := by rfl)
    (hpl : ((backTo pos (starEach (e :: es) X.env)).any (·.1) || (backToKw pos (keywordEach kws X.env)).any (·.1.isNone)) = false := by rfl) : PE X (.Call (.Name x p) (e :: es) kws pos) (tCalXK sp W t tk1) := by
  obtain ⟨f, fd, ok, hm, kp, _, hb⟩ := c.ex
  have z := pe_callNS (E := fun σ cls d H' => W cls d σ H') ok hr hg hm kp hb (fun σ => passAt tkW σ) ha hkw hall hks hdb he hpl (p := p)
  exact ⟨fun pins s σ H Q I h => z.run pins s σ H Q I h⟩
end
end Er
/-! zip of two tuples, walked; great products and quotients; xs[::-1]. -/
namespace Zx
open PySem PySem.Spec PyProof.Rows L2 Bx TL Dx
theorem walk_zipT {K : PySem.W.Frag} {a b : Addr} {xs ys : List V} {n : Nat} (hn : n = min xs.length ys.length) : Walk (RZ.ItzT K a b) n (fun H => SqT K H a xs ∧ SqT K H b ys) (YPair (fun i => xs[i]?) (fun i => ys[i]?)) := by
  subst hn
  refine ⟨fun i _ hi q => ?_, fun _ q => ⟨xs, ys, q.1, q.2, by omega⟩, fun i H v H' _ q y => ?_⟩
  · have h1 : i < xs.length := by omega
    have h2 : i < ys.length := by omega
    exact ⟨xs, ys, xs[i], ys[i], q.1, q.2, by simp [h1], by simp [h2]⟩
  · obtain ⟨T, x, z, h1, h2, h3, h4, h5⟩ := y
    exact ⟨T, x, z, h1, h2, h3, h4 xs q.1, h5 ys q.2⟩
end Zx
namespace Zx
open PySem PySem.Spec PyProof.Rows L2
theorem ne_t {p : Prop} [Decidable p] (h : (!decide p) = true) : ¬ p := by simpa using h
theorem ne_f {p : Prop} [Decidable p] (h : ¬ (!decide p) = true) : p := by simpa using h
theorem int_t {x y : Int} (h : decide (V.int x = V.int y) = true) : x = y := V.int.inj (of_decide_eq_true h)
theorem int_f {x y : Int} (h : ¬ decide (V.int x = V.int y) = true) : x ≠ y := fun e => h (decide_eq_true (congrArg V.int e))
theorem int_nt {x y : Int} (h : (!decide (V.int x = V.int y)) = true) : x ≠ y := fun e => ne_t h (congrArg V.int e)
theorem int_nf {x y : Int} (h : ¬ (!decide (V.int x = V.int y)) = true) : x = y := V.int.inj (ne_f h)
end Zx
namespace Zx
open PySem PySem.Spec PyProof.Rows L2 Bx
section
variable {K : PySem.W.Frag}
theorem ty_tup {H : Hp} {a : Addr} {xs : List V} (h : SqT K H a xs) : TyX K H (.ref a) (.type "tuple") := by
  rcases h with (h | ⟨o, h⟩) | h
  · exact .base (.tup h)
  · exact .fTuple h
  · obtain ⟨o, its, n, h1, h2, _⟩ := h
    exact .kTuple h1 h2
def spRight : Sp := fun vs H Q _ => ∃ a : Addr, vs = [.ref a] ∧ Src H a ∧ ∀ H', SameBut a H H' → Q (.bl true) H'
end
end Zx
namespace Zx
open PySem PySem.Spec PyProof.Rows L2 Bx
theorem cont_of {α : Type} {R X : α → Prop} {G : Prop} (first : (∀ a, R a → X a) → G) (rest : ∀ a, R a → X a) : G := first rest
theorem cont_of2 {α β : Type} {R X : α → β → Prop} {G : Prop} (first : (∀ a b, R a b → X a b) → G) (rest : ∀ a b, R a b → X a b) : G := first rest
theorem but_new {a : Addr} {H H3 : Hp} {p : Addr} {o : HO} (h : H p = none) (s : SameBut a (upd H p o) H3) : SameBut a H H3 := fun b x n e => s b x n (by rw [upd_ne (ne_of_none e h)]; exact e)
theorem but_at {a : Addr} {H H2 : Hp} {p : Addr} {o : HO} (h : H p = none) (s : SameBut a H H2) : SameBut a H (upd H2 p o) := fun b x n e => by
  rw [upd_ne (ne_of_none e h)]
  exact s b x n e
theorem src_same {a : Addr} {H1 H2 : Hp} (s : Src H1 a) (t : Same H1 H2) : Src H2 a := by
  obtain ⟨n, c, h⟩ := s
  exact ⟨n, c, t _ _ h⟩
theorem src_ne {a o : Addr} {H : Hp} (s : Src H a) (h : H o = none) : a ≠ o := by
  obtain ⟨n, c, z⟩ := s
  exact ne_of_none z h
theorem but_free {a o : Addr} {H H1 : Hp} (s : SameBut a H H1) (n : o ≠ a) (h : H1 o = none) : H o = none := by
  cases e : H o with
  | none => rfl
  | some x =>
    rw [s o x n e] at h
    cases h
theorem src_upd {a o : Addr} {H : Hp} {u : HO} (s : Src H a) (n : a ≠ o) : Src (upd H o u) a := by
  obtain ⟨x, c, h⟩ := s
  exact ⟨x, c, by rw [upd_ne n]; exact h⟩

end Zx
namespace Zx
open PySem PySem.Spec PyProof.Rows L2 Bx
theorem set_same {σ : L2.St} {i : Nat} {v : V} (h : σ[i]? = some (some v)) : σ.set i (some v) = σ := by
  obtain ⟨hi, e⟩ := List.getElem?_eq_some_iff.mp h
  rw [← e]
  exact List.set_getElem_self hi
/-- if c: name = e -/
theorem if_asg {c : Prop} [Decidable c] {te : TE} {i : Nat} {D : Ends} {σ : L2.St} {H : Hp} {old : V} (R : V → Hp → Prop) (hi : σ[i]? = some (some old))
    (h1 : c → ∀ Z : V → Hp → Prop, (∀ v H', R v H' → Z v H') → te σ H Z) (h2 : ¬ c → R old H) (rest : ∀ v H', R v H' → D.nx (σ.set i (some v)) H') : if c then tAsg te (gName i) D σ H else tNext D σ H := by
  split
  · rename_i h
    exact h1 h (fun v H' => D.nx (σ.set i (some v)) H') rest
  · rename_i h
    have := rest old H (h2 h)
    rw [set_same hi] at this
    exact this
/-- if c: name = e else: name = f -/
theorem if_asg2 {c : Prop} [Decidable c] {te tf : TE} {i : Nat} {D : Ends} {σ : L2.St} {H : Hp} (R : V → Hp → Prop)
    (h1 : c → ∀ Z : V → Hp → Prop, (∀ v H', R v H' → Z v H') → te σ H Z) (h2 : ¬ c → ∀ Z : V → Hp → Prop, (∀ v H', R v H' → Z v H') → tf σ H Z) (rest : ∀ v H', R v H' → D.nx (σ.set i (some v)) H') : if c then tAsg te (gName i) D σ H else tAsg tf (gName i) D σ H := by
  split
  · rename_i h
    exact h1 h (fun v H' => D.nx (σ.set i (some v)) H') rest
  · rename_i h
    exact h2 h (fun v H' => D.nx (σ.set i (some v)) H') rest
end Zx
/-! Own classes: methods that operators and built-ins call. -/
namespace Ow
open PySem PySem.Spec PyProof.Rows L2 Bx TL Dx Zx
/-- the class at C (or one above it) has the method m, a def that keeps sp -/
structure OwM (P : Program) (w : World) (K : PySem.W.Frag) (mg : Str → Option Value) (base : Heap) (CX : CXT) (C : Addr) (m : Str) (k : Nat) (ps : List Str) (sp : Sp) : Prop where
  ex : ∃ (f : Addr) (fd : FuncData), FnOk P w K mg base CX k f fd ps sp ∧ PySem.W.findIn K (.ref C) m = some (some (.ref f)) ∧ PySem.W.isFn K (.ref f) = true ∧ PySem.W.keepIn K (.ref f) = true ∧ Binds K fd ps []
section
variable {X : Cx} {pins : List (Addr × Obj)} {σ : L2.St} {H : Hp} {s : Shared} {C a dx : Addr} {fs : List (Str × V)}
/-- an instance as the library's operators see it -/
theorem inst_of (I : Inv X pins σ H s) (e : H a = some (.ins C dx fs)) : ∃ od, PySem.W.InstAt s.heap a (PySem.W.instObj C dx) C (some od) := by
  obtain ⟨mA, J, _⟩ := ins_get I.hok e
  obtain ⟨od, J2, _⟩ := J.look
  exact ⟨od, J2⟩
/-- a def is called, somewhere within -/
theorem call_at {CX : CXT} {k : Nat} {f : Addr} {fd : FuncData} {ps : List Str} {sp : Sp} {A1 : Around} {us : List Value} {vs : List V} {Q : VK} {E : XK} {E1 : Value → Shared → Prop} (sb : Sub X k A1) (ok : FnOk X.prog X.w X.K X.mg X.base CX k f fd ps sp) (b : Binds X.K fd ps [])
    (I : Inv X pins σ H s) (r : Vals vs us) (hsp : sp vs H Q E) (hx : ∀ e s', CX X.stack H s E e s' → E1 e s') : wpAny (model X.prog X.w) A1 (call (.ref f) us) (EP X pins σ Q) E1 s := by
  have z0 := I.env0
  have e0 : Env0 X.prog X.w X.K X.mg X.base A1 X.stack s H := ⟨by rw [sb.fr]; exact z0.frames, z0.mod, z0.bs, z0.bsz, z0.funs, z0.frf, z0.hok, z0.bare⟩
  have n1 := ok.len _ _ _ _ hsp
  have n2 : us.length = ps.length := by rw [← r.length]; exact n1
  have bb := b s us I.kIn (by rw [List.append_nil]; exact n2)
  rw [List.append_nil] at bb
  refine wpAny_call (codeAny_mono (ok.run A1 X.stack s H ⟨us, []⟩ us vs Q E sb.room e0 bb r hsp) fun res s' back => ?_)
  match res, back with
  | .error e, back => exact hx e s' back
  | .ok (.ret u), back => exact I.after back
  | .ok .next, back => exact back.elim
  | .ok .brk, back => exact back.elim
  | .ok .cont, back => exact back.elim
theorem sub_self {n : Nat} (hr : Room n X.A) : Sub X n X.A := ⟨hr, rfl⟩
/-- len(o) -/
def rLenO (C : Addr) (sp : Sp) : List V → Hp → VK → Prop := fun xs H Q => ∃ a dx fs, xs = [.ref a] ∧ H a = some (.ins C dx fs) ∧ sp [.ref a] H (fun v H' => ∃ n : Nat, v = .int (n : Int) ∧ n < 2 ^ 62 ∧ Q (.int (n : Int)) H') E0
theorem call_lenO {k : Nat} {ps : List Str} {sp : Sp} (c : OwM X.prog X.w X.K X.mg X.base CX0 C "__len__" k ps sp) (hr : Room (k + 1) X.A) : CallR X (.builtin "len") (rLenO C sp) := by
  intro pins s σ H xs us Q I r h
  obtain ⟨a, dx, fs, rfl, ha, hsp⟩ := h
  obtain ⟨f, fd, ok, hs, hf, _, hb⟩ := c.ex
  obtain ⟨od, J⟩ := inst_of I ha
  obtain ⟨m, hF⟩ := I.fr
  have r0 := r
  cases r with
  | cons r1 r2 =>
    cases r2
    cases r1
    refine PySem.W.len_K hF I.ok.mod.kin J hs hf ?_
    refine wpAny_mono (call_at ((sub_self hr).in1) ok hb I r0 hsp (fun e s' z => z.elim)) (fun u s' hu => ?_) (fun _ _ z => z)
    obtain ⟨v, H', I', rv, n, rfl, hn, hq⟩ := hu
    obtain ⟨t, rfl⟩ := rv
    exact ⟨⟨by omega, by omega⟩, .int n, H', I'.tok _, ⟨_, rfl⟩, hq⟩
/-- x in o, x not in o -/
def rInO (C : Addr) (sp : Sp) (neg : Bool) : V → V → Hp → VK → Prop := fun x y H Q => ∃ a dx fs, y = .ref a ∧ H a = some (.ins C dx fs) ∧ sp [.ref a, x] H (fun v H' => ∃ b : Bool, v = .bl b ∧ Q (.bl (b != neg)) H') E0
theorem truth_bl {M : Model} {A : Around} {E : Value → Shared → Prop} {s : Shared} {b : Bool} {Q : Bool → Shared → Prop} (h : Q b s) : wpAny M A (truthy (.bool b)) Q E s := by
  unfold truthy
  exact wpAny_pure h
theorem op_inO {k : Nat} {ps : List Str} {sp : Sp} (c : OwM X.prog X.w X.K X.mg X.base CX0 C "__contains__" k ps sp) (hr : Room k X.A) : OpR X (compareOp .In) (rInO C sp false) := by
  intro pins s σ H x y u v Q I rx ry h
  obtain ⟨a, dx, fs, rfl, ha, hsp⟩ := h
  obtain ⟨f, fd, ok, hs, hf, _, hb⟩ := c.ex
  obtain ⟨od, J⟩ := inst_of I ha
  obtain ⟨m, hF⟩ := I.fr
  cases ry
  refine PySem.W.in_K hF I.ok.mod.kin J hs hf ?_
  refine wpAny_mono (call_at (sub_self hr) ok hb I (vs := [.ref a, x]) (.cons rfl (.cons rx .nil)) hsp (fun e s' z => z.elim)) (fun u s' hu => ?_) (fun _ _ z => z)
  obtain ⟨v, H', I', rv, b, rfl, hq⟩ := hu
  cases rv
  refine truth_bl ⟨.bl b, H', I', rfl, ?_⟩
  rw [show (b != false) = b by cases b <;> rfl] at hq
  exact hq
theorem op_notInO {k : Nat} {ps : List Str} {sp : Sp} (c : OwM X.prog X.w X.K X.mg X.base CX0 C "__contains__" k ps sp) (hr : Room k X.A) : OpR X (compareOp .NotIn) (rInO C sp true) := by
  intro pins s σ H x y u v Q I rx ry h
  obtain ⟨a, dx, fs, rfl, ha, hsp⟩ := h
  obtain ⟨f, fd, ok, hs, hf, _, hb⟩ := c.ex
  obtain ⟨od, J⟩ := inst_of I ha
  obtain ⟨m, hF⟩ := I.fr
  cases ry
  refine PySem.W.notIn_K hF I.ok.mod.kin J hs hf ?_
  refine wpAny_mono (call_at (sub_self hr) ok hb I (vs := [.ref a, x]) (.cons rfl (.cons rx .nil)) hsp (fun e s' z => z.elim)) (fun u s' hu => ?_) (fun _ _ z => z)
  obtain ⟨v, H', I', rv, b, rfl, hq⟩ := hu
  cases rv
  refine truth_bl ⟨.bl (!b), H', I', rfl, ?_⟩
  rw [show (b != true) = !b by cases b <;> rfl] at hq
  exact hq
end
end Ow
/-! Own classes: o[i], o op x, loops over o. -/
namespace Ow
open PySem PySem.Spec PyProof.Rows L2 Bx TL Dx Zx ItX
/-! ### o[i] -/
section
variable {X : Cx} {C : Addr} {CXc : CXT} {k : Nat} {ps : List Str} {sp : Sp} {W : WX} {a b : Expr} {ta tb : TE} {pos : Pos}
def tSubO (C : Addr) (sp : Sp) (W : WX) (ta tb : TE) : TE := fun σ H Q => ta σ H fun x H1 => tb σ H1 fun y H2 => ∃ p dx fs, x = .ref p ∧ H2 p = some (.ins C dx fs) ∧ sp [.ref p, y] H2 Q (fun cls d H' => W cls d σ H')
theorem pe_subO (c : OwM X.prog X.w X.K X.mg X.base CXc C "__getitem__" k ps sp) (fi : ∀ f, PySem.W.findIn X.K (.ref C) "__getitem__" = some (some (.ref f)) → PySem.W.fnIn X.K f = true) (hr : Room (k + 1) X.A) (hx : ∀ σ, PassesAt CXc X σ (fun cls d H' => W cls d σ H')) (ha : PE X a ta) (hb : PE X b tb)
    (hs : ∀ v u, subscripted b true v u = runValue (.builtin "lifetime.subscript" ⟨[v, u], []⟩) := by intro _ _; rfl) : PE X (.Subscript a b pos) (tSubO C sp W ta tb) := by
  refine ⟨fun pins s σ H Q I h => ?_⟩
  refine Subscript_ (binT ha hb I (R := fun x y H2 => ∃ p dx fs, x = .ref p ∧ H2 p = some (.ins C dx fs) ∧ sp [.ref p, y] H2 Q (fun cls d H' => W cls d σ H')) h fun v u s2 x y H2 I2 rx ry q => ?_)
  obtain ⟨p, dx, fs, rfl, hp, hsp⟩ := q
  obtain ⟨f, fd, ok, hfi, hf, _, hbd⟩ := c.ex
  obtain ⟨od, J⟩ := inst_of I2 hp
  obtain ⟨m, hF⟩ := I2.fr
  cases rx
  refine PySem.W.sub_K hF I2.ok.mod.kin J hfi (fi f hfi) hf ?_ (hs _ _)
  exact call_at ((sub_self hr).in1) ok hbd I2 (vs := [.ref p, y]) (.cons rfl (.cons ry .nil)) hsp (fun e s' z => hx σ pins H2 s2 e s' I2 z)
end
/-! ### o op x, x of a built-in type -/
/-- what the written part says of an operator of C with a second operand of the built-in type T -/
structure BinF (K : PySem.W.Frag) (C : Addr) (op : Operator) (T : String) : Prop where
  first : PySem.W.selfFirst K C = true
  refl : ∃ rc, PySem.W.findIn K (.ref C) (dunderR op.info.2) = some rc ∧ (rc = none ∨ ∃ g : Addr, rc = some (.ref g))
  t1 : ∃ fo, PySem.W.findIn K (.type T) (PySem.dunder op.info.2) = some fo
  t2 : ∃ ro, PySem.W.findIn K (.type T) (dunderR op.info.2) = some ro
  sub : PySem.W.subIn K (.type T) (.ref C) = some false
/-- the type of a value, looked at -/
def LkT (M : Model) (h : Heap) (v : Value) (T : String) : Prop := PySem.W.Looks M h (typeOf v) (.type T)
theorem bin_looks {prog : Program} {w : World} {A : Around} {E : Value → Shared → Prop} {s : Shared} {K : PySem.W.Frag} {x C f : Addr} {ox : Obj} {od : Option Obj} {T : String} {op : Operator} {b : Value} {Q : Value → Shared → Prop}
    (X : K.In s.heap) (I : PySem.W.InstAt s.heap x ox C od) (B : BinF K C op T) (hb : LkT (model prog w) s.heap b T) (hs : PySem.W.findIn K (.ref C) (PySem.dunder op.info.2) = some (some (.ref f))) (hf : PySem.W.isFn K (.ref f) = true)
    (h : wpAny (model prog w) A (call (.ref f) [.ref x, b]) (PySem.W.CmpBack Q) E s) : wpAny (model prog w) A (binaryOp op (.ref x) b) Q E s := by
  obtain ⟨hc, ⟨rc, hrc, hrp⟩, ⟨fo, h1⟩, ⟨ro, h2⟩, hsub⟩ := B
  obtain ⟨cd, rest, hcd, hm⟩ := PySem.W.ksp_first hc
  cases hi : op.info with
  | mk sym nm =>
    rw [hi] at hs hrc h1 h2
    dsimp only at hs hrc h1 h2
    have called := PySem.W.ksp_try X I hs hf h
    have d1 : PySem.W.Looks (model prog w) s.heap (typeOf (.ref x)) (.ref C) := I.type
    have d3 : PySem.W.Looks (model prog w) s.heap (fillsNumberSlot (.ref C) nm) true := PySem.W.fills_K X hcd hm hs
    have d4 := PySem.W.ksp_fillsT (M := model prog w) X h1 h2
    have d5 : PySem.W.Looks (model prog w) s.heap (isSubtype (.type T) (.ref C)) false := PySem.W.looks_subIn X hsub
    have d6 : PySem.W.Looks (model prog w) s.heap (numberSlotInPython (.ref C) nm) true := PySem.W.ksp_inPy X hs hrc hrp
    have d7 : PySem.W.Looks (model prog w) s.heap (numberSlotInPython (.type T) nm) false := PySem.W.Looks.of_pure rfl
    have d8 : PySem.W.Looks (model prog w) s.heap (typeLookup (.type T) (dunderR nm)) ro := PySem.W.looks_findIn X h2
    unfold LkT at hb
    clear X I hs hf h
    obtain ⟨hp, g, dd, tt, os⟩ := s
    generalize ((fo.isSome && !isSeqSlot fo) || (ro.isSome && !isSeqSlot ro)) = right at d4
    have other : (Value.ref C == Value.type T) = false := by
      cases z : (Value.ref C == Value.type T) with
      | false => rfl
      | true => cases beq_iff_eq.mp z
    simp only [binaryOp, hi]
    refine wpAny_holding (wpAny_bind ?_)
    unfold binaryOp1
    refine wpAny_bind (d1.at (wpAny_bind ?_))
    refine hb.at (wpAny_bind (d3.at ?_))
    simp only [other, Bool.false_eq_true, if_false]
    cases right
    · ksp_lk
      refine wpAny_mono called (fun r s' z => ?_) fun _ _ e => e
      obtain ⟨v, rfl, z⟩ := z
      ksp_lk
      exact z
    · ksp_lk
      refine wpAny_mono called (fun r s' z => ?_) fun _ _ e => e
      obtain ⟨v, rfl, z⟩ := z
      ksp_lk
      exact z
end Ow
namespace Ow
open PySem PySem.Spec PyProof.Rows L2 Bx TL Dx Zx ItX
section
variable {X : Cx} {pins : List (Addr × Obj)} {σ : L2.St} {H : Hp} {s : Shared}
/-- the built-in types of second operands -/
inductive TyO (K : PySem.W.Frag) (H : Hp) : V → String → Prop
  | int (i : Int) : TyO K H (.int i) "int"
  | str (z : Str) : TyO K H (.str z) "str"
  | tup {p : Addr} {xs : List V} (h : SqT K H p xs) : TyO K H (.ref p) "tuple"
theorem lk_of {y : V} {v : Value} {T : String} (I : Inv X pins σ H s) (r : RelV y v) (t : TyO X.K H y T) : LkT (model X.prog X.w) s.heap v T := by
  cases t with
  | int i =>
    obtain ⟨u, rfl⟩ := r
    exact PySem.W.Looks.of_pure rfl
  | str z =>
    obtain ⟨u, rfl⟩ := r
    exact PySem.W.Looks.of_pure rfl
  | tup h =>
    cases r
    obtain ⟨its, rv, ht, _⟩ := I.tuple h
    obtain ⟨o, ho, hc, _⟩ := ht
    unfold LkT
    rw [← hc]
    exact (PySem.W.Looks.ld ho).andThen .now
theorem back_ep {Q : VK} {u : Value} {s' : Shared} (h : EP X pins σ Q u s') : PySem.W.CmpBack (EP X pins σ Q) u s' := by
  obtain ⟨v, H', I', r, q⟩ := h
  have h2 : EP X pins σ Q u s' := ⟨v, H', I', r, q⟩
  cases v with
  | non => cases r; exact h2
  | bl b => cases r; exact h2
  | int i => obtain ⟨t, rfl⟩ := r; exact h2
  | str z => obtain ⟨t, rfl⟩ := r; exact h2
  | byt b => obtain ⟨t, rfl⟩ := r; exact h2
  | flt b => obtain ⟨t, rfl⟩ := r; exact h2
  | ref a => cases r; exact h2
  | ty n => cases r; exact h2
end
section
variable {X : Cx} {C : Addr} {CXc : CXT} {k : Nat} {ps : List Str} {sp : Sp} {W : WX} {a b : Expr} {ta tb : TE} {pos : Pos} {op : Operator} {T m : String}
def tBinO (K : PySem.W.Frag) (C : Addr) (T : String) (sp : Sp) (W : WX) (ta tb : TE) : TE := fun σ H Q => ta σ H fun x H1 => tb σ H1 fun y H2 => ∃ p dx fs, x = .ref p ∧ H2 p = some (.ins C dx fs) ∧ TyO K H2 y T ∧ sp [.ref p, y] H2 Q (fun cls d H' => W cls d σ H')
theorem pe_binO (c : OwM X.prog X.w X.K X.mg X.base CXc C (PySem.dunder op.info.2) k ps sp) (B : BinF X.K C op T) (hr : Room k X.A) (hx : ∀ σ, PassesAt CXc X σ (fun cls d H' => W cls d σ H')) (ha : PE X a ta) (hb : PE X b tb) : PE X (.BinOp a op b pos) (tBinO X.K C T sp W ta tb) := by
  refine ⟨fun pins s σ H Q I h => ?_⟩
  refine wpAny_BinOp (binT ha hb I (R := fun x y H2 => ∃ p dx fs, x = .ref p ∧ H2 p = some (.ins C dx fs) ∧ TyO X.K H2 y T ∧ sp [.ref p, y] H2 Q (fun cls d H' => W cls d σ H')) h fun v u s2 x y H2 I2 rx ry q => ?_)
  obtain ⟨p, dx, fs, rfl, hp, ht, hsp⟩ := q
  obtain ⟨f, fd, ok, hfi, hf, _, hbd⟩ := c.ex
  obtain ⟨od, J⟩ := inst_of I2 hp
  cases rx
  refine bin_looks I2.kIn J B (lk_of I2 ry ht) hfi hf ?_
  refine wpAny_mono (call_at (sub_self hr) ok hbd I2 (vs := [.ref p, y]) (.cons rfl (.cons ry .nil)) hsp (fun e s' z => hx σ pins H2 s2 e s' I2 z)) (fun u s' z => back_ep z) fun _ _ z => z
end
/-! ### iter(t), t a tuple -/
def TiO (t it : Addr) : HO := .ext fun h => h.IsTupleIter it t 0
theorem tiO_ok {P : Program} {w : World} {H : Hp} {h : Heap} {t it : Addr} (e : h.IsTupleIter it t 0) : ObjOk P w H h it (TiO t it) := by
  obtain ⟨o, ho, hc, hd⟩ := id e
  exact ⟨e, ⟨o, ho⟩, fun h1 h2 z k => z.at fun o e => k _ e⟩
def rIterT (K : PySem.W.Frag) (n : Nat) : List V → Hp → VK → Prop := fun xs H Q => ∃ (t : Addr) (zs : List V), xs = [.ref t] ∧ SqT K H t zs ∧ ∀ it, H it = none → n ≤ it → Q (.ref it) (upd H it (TiO t it))
theorem call_iterT {X : Cx} : CallR X (.builtin "iter") (rIterT X.K X.s_0.heap.objs.size) := by
  intro pins s σ H xs us Q I r h
  obtain ⟨t, zs, rfl, hq, q⟩ := h
  cases r with
  | cons r1 r2 =>
    cases r2
    cases r1
    obtain ⟨its, rv, pl, hz⟩ := I.tuple hq
    refine Calls.call_function_entry (by decide +kernel) (by decide +kernel) PySem.W.kdk_entry_iter (PySem.W.kdk_args_iter _) ?_
    unfold Builtin.«iter»
    refine wpAny_bind (m := someArgs "iter" 1 2 _) (wpAny_of_eq (a := [Value.ref t]) (by first | rfl | kernel_rfl!) ?_)
    show wpAny _ _ (pyIter (.ref t) >>= _) _ _ _
    refine wpAny_bind (wpAny_pyIter_tuple pl ?_)
    refine wpAny_pure ⟨_, rfl, .ref s.heap.objs.size, _, I.laid (t' := s.toks) (fun b u e => Heap.get?_push_of_some _ e) (Nat.le_refl _) (tiO_ok ⟨_, Heap.get?_push_size _ rfl, rfl, rfl⟩), rfl, q _ (I.hok.fresh (Nat.le_refl _)) I.sz⟩
end Ow
namespace Ow
open PySem PySem.Spec PyProof.Rows L2 Bx TL Dx Zx ItX
/-- a def of the text, called at a state that one knows -/
theorem run_here {CX : CXT} {P : Program} {w : World} {K : PySem.W.Frag} {mg : Str → Option Value} {base : Heap} {k : Nat} {f : Addr} {nm qn : Str} {params : Arguments} {body : List Stmt} {scope : Scope} {dV kV doc pm cdv ct oc : Value} {an od : Option Addr} {osl : Array (Option Value)} {N ps : List Str}
    {A : Around} {outer : List Env} {s : Shared} {H : Hp} {args : Args} {us : List Value} {vs : List V} {Q : VK} {E : XK} (lk : K.lookup f = some ⟨oc, od, .func (PySem.W.fnOf nm qn params body scope dV kV doc pm an cdv ct), osl⟩) (cd : PySem.W.codeIn K cdv qn = true) (S : FnScope N ps scope) (room : Room (k + 1) A)
    (e0 : Env0 P w K mg base A outer s H) (hb : BindsTo s (PySem.W.fnOf nm qn params body scope dV kV doc pm an cdv ct) args (ps.zip us)) (rel : Vals vs us) (len : vs.length = ps.length)
    (reads : Room k (A.deeper (envOfC qn scope s.heap.objs.size f cdv)) → ∃ t, PSs (cxOf CX P w K mg base N qn scope f cdv A outer s H E) body t ∧ t { nx := fun _ H' => Q .non H', rt := Q } (start N vs) H) :
    codeAny (model P w) A (.call (.ref f) args) (CR CX outer P w H s Q E) s := by
  have kx : K.In s.heap := e0.mod.kin.keeps (fun p q z => (e0.bs p q z).1)
  have open_ : s.heap.NoLimit := e0.mod.nolimit.keeps (fun p q z => (e0.bs p q z).1)
  have kinds : ∀ y ∈ ps.zip us, scope.names.lookup y.1 = some .local ∨ (scope.names.lookup y.1 = some .cell ∧ ((cellsFrom (s.heap.objs.size + 1) scope.names []).lookup y.1).isSome = true) := by
    rintro ⟨one, val⟩ hy
    exact (S.par one (List.of_mem_zip hy).1).imp id (fun q => ⟨q, PySem.W.cellsFrom_some _ _ _ (.inl q)⟩)
  refine codeAny_call_function room.depth (kx _ _ lk) rfl S.co S.gen rfl (PySem.W.codeRec_of kx cd) ?_
  refine hb _ _ _ _ ?_
  refine wpAny_newFunctionEnv_cells S.kind kinds (fun env he s1 x => ?_)
  cases he
  refine ⟨open_.keeps x.toInCall.keep, codeAny_func ?_⟩
  obtain ⟨t, pt, ht⟩ := reads (room.deeper _)
  have J0 := inv_start (CX := CX) (E := E) S room.hd e0 len rel x
  refine wpAny_mono (pt.run [] s1 (start N vs) H _ J0 ht) ?_ (fun e s' z => z)
  intro fl s' back
  match fl, back with
  | .ret u, ⟨v, σ', H', J, rv, q⟩ => exact ⟨v, H', J.os, J.bare, J.base, J.hok, rv, q⟩
  | .next, ⟨σ', H', J, q⟩ => exact ⟨V.non, H', J.os, J.bare, J.base, J.hok, rfl, q⟩
  | .brk, ⟨_, _, _, q⟩ => exact q.elim
  | .cont, ⟨_, _, _, q⟩ => exact q.elim
/-! ### for x in o, where def __iter__(self): return iter(self.f) -/
structure ItM (P : Program) (w : World) (K : PySem.W.Frag) (mg : Str → Option Value) (base : Heap) (C : Addr) (f : Str) (k : Nat) : Prop where
  ex : ∃ fi : Addr, PySem.W.findIn K (.ref C) "__iter__" = some (some (.ref fi)) ∧ PySem.W.isFn K (.ref fi) = true ∧
    ∀ (A : Around) (outer : List Env) (s : Shared) (H : Hp) (E : XK) (p dx t : Addr) (fs : List (Str × V)) (zs : List V), Room k A → Env0 P w K mg base A outer s H → H p = some (.ins C dx fs) → fs.lookup f = some (.ref t) → SqT K H t zs →
      codeAny (model P w) A (.call (.ref fi) ⟨[.ref p], []⟩) (CR CX0 outer P w H s (fun v H' => ∃ it, v = .ref it ∧ H it = none ∧ s.heap.objs.size ≤ it ∧ H' = upd H it (TiO t it)) E) s
section
variable {X : Cx} {C : Addr}
def tIterO (K : PySem.W.Frag) (C : Addr) (f : Str) (te : TE) : TI := fun σ H R => te σ H fun x H1 => ∃ p dx fs t zs, x = .ref p ∧ H1 p = some (.ins C dx fs) ∧ fs.lookup f = some (.ref t) ∧ SqT K H1 t zs ∧ R (Itt K t) H1
theorem pi_iterO {tg l : Expr} {te : TE} {k : Nat} {f : Str} (c : ItM X.prog X.w X.K X.mg X.base C f k) (hr : Room k X.A) (he : PE X l te) : PI X tg l (tIterO X.K C f te) := by
  refine ⟨fun pins s σ H R I h => ?_⟩
  refine thn (he.run pins s σ H _ I h) fun v s1 ⟨x, H1, I1, r1, q1⟩ => ?_
  obtain ⟨p, dx, fs, t, zs, rfl, hp, hl, hz, hR⟩ := q1
  obtain ⟨fi, hfi, hf, go⟩ := c.ex
  obtain ⟨od, J⟩ := inst_of I1 hp
  obtain ⟨m, hF⟩ := I1.fr
  cases r1
  refine PySem.W.owit_iter hF I1.ok.mod.kin J hfi hf ?_
  refine wpAny_call (codeAny_mono (go X.A X.stack s1 H1 E0 p dx t fs zs hr I1.env0 hp hl hz) fun res s' back => ?_)
  match res, back with
  | .error e, back => exact back.elim
  | .ok .next, back => exact back.elim
  | .ok .brk, back => exact back.elim
  | .ok .cont, back => exact back.elim
  | .ok (.ret u), back =>
    obtain ⟨v, H2, I2, rv, it, rfl, n1, hy, rfl⟩ := I1.after back
    cases rv
    have e2 : upd H1 it (TiO t it) it = some (TiO t it) := upd_same
    have hit : s'.heap.IsTupleIter it t 0 := by
      have : ObjOk X.prog X.w (upd H1 it (TiO t it)) s'.heap it (.ext fun h => h.IsTupleIter it t 0) := I2.hok it _ e2
      exact this.1
    show wpAny _ _ (specialOf (.ref it) "__next__") _ _ _
    refine wpAny_specialOf (name := Str.ofString "__next__") hit.typeIs PySem.F.slot_tuple_iterator_next.lookup ?_
    have hn : X.s_0.heap.objs.size ≤ it := Nat.le_trans I1.sz hy
    have I3 := inv_drop I2 e2
    have fp := inv_fp I2 e2 hn
    rw [dropH_upd n1] at I3 fp
    refine ⟨it, [it], _, _, H1, rfl, I3, turn_tuple t it, hit, fun b hb => ?_, hR⟩
    rw [List.mem_singleton.mp hb]
    exact fp
end
end Ow
/-! Own classes: o + p of one class, k * o, -o; dict(t) of a tuple of pairs. -/
namespace Ow
open PySem PySem.Spec PyProof.Rows L2 Bx TL Dx Zx ItX
theorem bin_same {prog : Program} {w : World} {A : Around} {E : Value → Shared → Prop} {s : Shared} {K : PySem.W.Frag} {x y C f : Addr} {ox oy : Obj} {od oe : Option Obj} {op : Operator} {Q : Value → Shared → Prop}
    (X : K.In s.heap) (I : PySem.W.InstAt s.heap x ox C od) (J : PySem.W.InstAt s.heap y oy C oe) (first : PySem.W.selfFirst K C = true) (hs : PySem.W.findIn K (.ref C) (PySem.dunder op.info.2) = some (some (.ref f))) (hf : PySem.W.isFn K (.ref f) = true)
    (h : wpAny (model prog w) A (call (.ref f) [.ref x, .ref y]) (PySem.W.CmpBack Q) E s) : wpAny (model prog w) A (binaryOp op (.ref x) (.ref y)) Q E s := by
  obtain ⟨cd, rest, hcd, hm⟩ := PySem.W.ksp_first first
  cases hi : op.info with
  | mk sym nm =>
    rw [hi] at hs
    dsimp only at hs
    have called := PySem.W.ksp_try X I hs hf h
    have d1 : PySem.W.Looks (model prog w) s.heap (typeOf (.ref x)) (.ref C) := I.type
    have d2 : PySem.W.Looks (model prog w) s.heap (typeOf (.ref y)) (.ref C) := J.type
    have d3 : PySem.W.Looks (model prog w) s.heap (fillsNumberSlot (.ref C) nm) true := PySem.W.fills_K X hcd hm hs
    clear X I J hs hf h
    obtain ⟨hp, g, dd, tt, os⟩ := s
    have same : (Value.ref C == Value.ref C) = true := beq_self_eq_true _
    simp only [binaryOp, hi]
    refine wpAny_holding (wpAny_bind ?_)
    unfold binaryOp1
    refine wpAny_bind (d1.at (wpAny_bind ?_))
    refine d2.at (wpAny_bind (d3.at ?_))
    simp only [same, if_true]
    ksp_lk
    refine wpAny_mono called (fun r s' z => ?_) fun _ _ e => e
    obtain ⟨v, rfl, z⟩ := z
    ksp_lk
    exact z
section
variable {X : Cx} {C : Addr} {k : Nat} {ps : List Str} {sp : Sp} {op : Operator}
def rBinSame (C : Addr) (sp : Sp) : V → V → Hp → VK → Prop := fun x y H Q => ∃ p q dx dy fs gs, x = .ref p ∧ y = .ref q ∧ H p = some (.ins C dx fs) ∧ H q = some (.ins C dy gs) ∧ sp [.ref p, .ref q] H Q E0
theorem op_same (c : OwM X.prog X.w X.K X.mg X.base CX0 C (PySem.dunder op.info.2) k ps sp) (first : PySem.W.selfFirst X.K C = true) (hr : Room k X.A) : OpR X (binaryOp op) (rBinSame C sp) := by
  intro pins s σ H x y u v Q I rx ry h
  obtain ⟨p, q, dx, dy, fs, gs, rfl, rfl, hp, hq, hsp⟩ := h
  obtain ⟨f, fd, ok, hs, hf, _, hb⟩ := c.ex
  obtain ⟨od, J⟩ := inst_of I hp
  obtain ⟨oe, J2⟩ := inst_of I hq
  cases rx
  cases ry
  refine bin_same I.kIn J J2 first hs hf ?_
  refine wpAny_mono (call_at (sub_self hr) ok hb I (vs := [.ref p, .ref q]) (.cons rfl (.cons rfl .nil)) hsp (fun e s' z => z.elim)) (fun u s' z => back_ep z) fun _ _ z => z
/-- o op x -/
def rBinT (K : PySem.W.Frag) (C : Addr) (T : String) (sp : Sp) : V → V → Hp → VK → Prop := fun x y H Q => ∃ p dx fs, x = .ref p ∧ H p = some (.ins C dx fs) ∧ TyO K H y T ∧ sp [.ref p, y] H Q E0
theorem op_ownT {T : String} (c : OwM X.prog X.w X.K X.mg X.base CX0 C (PySem.dunder op.info.2) k ps sp) (B : BinF X.K C op T) (hr : Room k X.A) : OpR X (binaryOp op) (rBinT X.K C T sp) := by
  intro pins s σ H x y u v Q I rx ry h
  obtain ⟨p, dx, fs, rfl, hp, ht, hsp⟩ := h
  obtain ⟨f, fd, ok, hs, hf, _, hb⟩ := c.ex
  obtain ⟨od, J⟩ := inst_of I hp
  cases rx
  refine bin_looks I.kIn J B (lk_of I ry ht) hs hf ?_
  refine wpAny_mono (call_at (sub_self hr) ok hb I (vs := [.ref p, y]) (.cons rfl (.cons ry .nil)) hsp (fun e s' z => z.elim)) (fun u s' z => back_ep z) fun _ _ z => z
/-- -o -/
theorem un_negO (c : OwM X.prog X.w X.K X.mg X.base CX0 C "__neg__" k ps sp) (hr : Room k X.A) : UnR X (unaryOp .USub) (fun x H Q => ∃ p dx fs, x = .ref p ∧ H p = some (.ins C dx fs) ∧ sp [.ref p] H Q E0) := by
  intro pins s σ H x u Q I rx h
  obtain ⟨p, dx, fs, rfl, hp, hsp⟩ := h
  obtain ⟨f, fd, ok, hs, hf, _, hb⟩ := c.ex
  obtain ⟨od, J⟩ := inst_of I hp
  obtain ⟨m, hF⟩ := I.fr
  cases rx
  refine PySem.W.ksp_neg hF I.ok.mod.kin J hs hf ?_
  exact call_at (sub_self hr) ok hb I (vs := [.ref p]) (.cons rfl .nil) hsp (fun e s' z => z.elim)
/-- o[i] -/
theorem pe_subO0 {a b : Expr} {ta tb : TE} {pos : Pos} (c : OwM X.prog X.w X.K X.mg X.base CX0 C "__getitem__" k ps sp) (fi : ∀ f, PySem.W.findIn X.K (.ref C) "__getitem__" = some (some (.ref f)) → PySem.W.fnIn X.K f = true) (hr : Room (k + 1) X.A) (ha : PE X a ta) (hb : PE X b tb)
    (hs : ∀ v u, subscripted b true v u = runValue (.builtin "lifetime.subscript" ⟨[v, u], []⟩) := by intro _ _; rfl) : PE X (.Subscript a b pos) (tSubO C sp (fun _ _ _ _ => False) ta tb) :=
  pe_subO c fi hr (fun _ _ _ _ _ _ _ h => h.elim) ha hb hs
end
end Ow
/-! tuple(xs) without a dict of its own; dict(t) of such a tuple of pairs; k * o. -/
namespace Ow
open PySem PySem.Spec PyProof.Rows L2 Bx TL Dx Zx ItX
/-- a tuple without a dict of its own -/
def PlT (H : Hp) (a : Addr) (xs : List V) : Prop := ∃ o, H a = some (.frz o (.tup xs)) ∧ o.dict = none
theorem PlT.sq {K : PySem.W.Frag} {H : Hp} {a : Addr} {xs : List V} (h : PlT H a xs) : SqT K H a xs := .inl (.inr ⟨_, h.choose_spec.1⟩)
theorem PlT.same {H H' : Hp} {a : Addr} {xs : List V} (s : Same H H') (h : PlT H a xs) : PlT H' a xs := ⟨_, s _ _ h.choose_spec.1, h.choose_spec.2⟩
section
variable {X : Cx}
def rTupF (K : PySem.W.Frag) : List V → Hp → VK → Prop := fun xs H Q => ∃ p ys, xs = [.ref p] ∧ SqL K H p ys ∧ ∀ l o, H l = none → o.dict = none → Q (.ref l) (upd H l (.frz o (.tup ys)))
theorem call_tupleF : CallR X (.type "tuple") (rTupF X.K) := by
  intro pins s σ H xs us Q I r h
  obtain ⟨p, ys, rfl, hq, q⟩ := h
  obtain ⟨u, rfl, rx⟩ := vals1 r
  cases rx
  obtain ⟨its, r', pl, hz⟩ := I.list hq
  have hlen := r'.length
  refine call_tuple_list pl.isList (fun h' kp => ?_) (by simp only [List.size_toArray] <;> omega)
  have I1 : Inv X pins σ H { s with heap := h' } := I.kept (t' := s.toks) kp
  let o : Obj := { cls := .type "tuple", data := .seq its.toArray }
  have I2 : Inv X pins σ (upd H h'.objs.size (.frz o (.tup ys))) { s with heap := h'.push o } :=
    I1.laid (t' := s.toks) (fun b o e => Heap.get?_push_of_some _ e) (Nat.le_refl _) (show ObjOk X.prog X.w _ _ _ (.frz o (.tup ys)) from ⟨Heap.get?_push_size _ rfl, hz, its, r', IsTup.new _ _⟩)
  exact ⟨.ref h'.objs.size, _, I2, rfl, q _ o (I1.hok.fresh (Nat.le_refl _)) rfl⟩
def rDictT (K : PySem.W.Frag) : List V → Hp → VK → Prop := fun xs H Q => ∃ (a : Addr) (ps : List Addr) (kvs : List (Key × V)), xs = [.ref a] ∧ PlT H a (ps.map V.ref) ∧ Paired (fun p kv => SqT K H p [kV kv.1, kv.2]) ps kvs ∧
    ∀ p, H p = none → Q (.ref p) (upd H p (.dK (mergeK [] kvs)))
theorem call_dictT (hcalm : X.calm = true) : CallR X (.type "dict") (rDictT X.K) := by
  intro pins s σ H xs us Q I r q
  obtain ⟨a, ps, kvs, rfl, ⟨o, ha, hod⟩, hp, q⟩ := q
  obtain ⟨u, rfl, rx⟩ := vals1 r
  cases rx
  obtain ⟨hg, hz, its, rv, o2, ho2, hc, n, hdat⟩ : ObjOk X.prog X.w H s.heap a (.frz o (.tup (ps.map V.ref))) := I.hok a _ ha
  rw [hg] at ho2
  obtain rfl := Option.some.inj ho2
  have ei := refs_at rv
  subst ei
  obtain ⟨prs, rel, hl, hpr⟩ := pairs_of I hp
  rw [List.length_map] at hz
  have at_ : ∀ (j : Nat) (q : Key × Value), prs[j]? = some q → ∃ u : Value, IsTup s.heap (ps.getD j 0) #[u, q.2] ∧ ps[j]? = some (ps.getD j 0) ∧ keyIs q.1 u = true := fun j q e => by
    obtain ⟨b, u, e1, e2, e3⟩ := hpr j q e
    have e4 : ps.getD j 0 = b := by rw [List.getD_eq_getElem?_getD, e1]; rfl
    rw [e4]
    exact ⟨u, e2, e1, e3⟩
  classical
  let key : Nat → Value := fun j => match prs[j]? with
    | some q => (if h : ∃ u : Value, IsTup s.heap (ps.getD j 0) #[u, q.2] ∧ keyIs q.1 u = true then h.choose else .none)
    | none => .none
  have keyAt : ∀ (j : Nat) (q : Key × Value), prs[j]? = some q → IsTup s.heap (ps.getD j 0) #[key j, q.2] ∧ keyIs q.1 (key j) = true := fun j q e => by
    obtain ⟨u, h1, _, h3⟩ := at_ j q e
    have hh : ∃ u : Value, IsTup s.heap (ps.getD j 0) #[u, q.2] ∧ keyIs q.1 u = true := ⟨u, h1, h3⟩
    have ek : key j = hh.choose := by
      show (match prs[j]? with | some q => _ | none => _) = _
      rw [e]
      exact dif_pos hh
    rw [ek]
    exact hh.choose_spec
  let vps : List (Value × Value) := (List.range prs.length).map fun j => (key j, match prs[j]? with | some q => q.2 | none => .none)
  have vlen : vps.length = prs.length := by simp [vps]
  have vat : ∀ j k v, vps[j]? = some (k, v) → ∃ q : Key × Value, prs[j]? = some q ∧ k = key j ∧ v = q.2 := fun j k v e => by
    have hj : j < prs.length := by
      have := (List.getElem?_eq_some_iff.mp e).1
      omega
    have e1 : prs[j]? = some prs[j] := List.getElem?_eq_getElem hj
    refine ⟨prs[j], e1, ?_⟩
    have e2 : vps[j]? = some (key j, prs[j].2) := by
      simp only [vps, List.getElem?_map, List.getElem?_range hj, Option.map_some, e1]
    rw [e2] at e
    cases e
    exact ⟨rfl, rfl⟩
  have P := PySem.PairArg.tuple (prog := X.prog) (w := X.w) a (ps.map Value.ref).toArray (fun j => ps.getD j 0) vps
  refine PySem.call_dict_pairs (knd := mixKind X.prog X.w) (kvs := prs) P (I.ok.hd hcalm) ⟨⟨o, n, hg, hc, hod, hdat⟩, by rw [List.size_toArray, List.length_map, vlen, hl], fun j k v e => ?_⟩ ⟨vlen.symm, fun i k v e => ?_⟩ (by rw [vlen, hl]; exact hz) fun h' tk hd' kp => ?_
  · obtain ⟨q, e1, rfl, rfl⟩ := vat j k v e
    obtain ⟨u, _, e3, _⟩ := at_ j q e1
    refine ⟨?_, .inl (keyAt j q e1).1⟩
    rw [List.getElem?_toArray, List.getElem?_map, e3]
    rfl
  · obtain ⟨q, e1, rfl, rfl⟩ := vat i k v e
    exact ⟨q.1, e1, (keyAt i q e1).2⟩
  · have hm : (s.heap.objs.size == sysModules) = false := beq_eq_false_iff_ne.mpr (Nat.ne_of_gt I.big)
    have hlen : (mergeK [] kvs).length ≤ sizeLine := by
      refine Nat.le_trans (length_mergeK kvs []) ?_
      rw [List.length_nil, Nat.zero_add, rel.length, hl]
      exact hz
    exact ⟨.ref s.heap.objs.size, upd H s.heap.objs.size (.dK (mergeK [] kvs)), I.laid (t' := tk) (fun b o e => kp b o (fun h => nomatch h) e) (Nat.le_refl _) (show ObjOk X.prog X.w _ _ _ (.dK (mergeK [] kvs)) from ⟨hlen, hm, merged [] prs, KV.merge rel .nil, hd'⟩), rfl, q _ (I.hok.fresh (Nat.le_refl _))⟩
end
/-! ### k * o -/
theorem int_mul_ins (a : Int) (t : Tok) (l C dx : Addr) :
    Meets (Builtin.«int.__mul__» ⟨[.int a t, .ref l], []⟩) (fun _ R s => s.heap.get? l = some (PySem.W.instObj C dx) ∧ R (.ok (.ret Value.notImplemented)) s) :=
  .of_wp fun prog w A R s h => by obtain ⟨hp, g, d, tk, os⟩ := s; obtain ⟨hl, h⟩ := h; wp_walk; exact ⟨_, rfl, h⟩
theorem int_declines {prog : Program} {w : World} {A : Around} {E : Value → Shared → Prop} {s : Shared} {k : Int} {t : Tok} {x C dx : Addr} {Q : Value → Shared → Prop} (hg : s.heap.get? x = some (PySem.W.instObj C dx)) (q : Q .notImplemented s) :
    wpAny (model prog w) A (call (.builtin "int.__mul__") [.int k t, .ref x]) Q E s :=
  call_meets F.slot_int_mul (typeIs_int s k t) F.entry_int_mul (F.args_int_mul_2 _ _) (int_mul_ins k t x C dx) ⟨hg, q⟩
theorem try_declines {prog : Program} {w : World} {A : Around} {E : Value → Shared → Prop} {s : Shared} {k : Int} {t : Tok} {x C dx : Addr} {Q : Option Value → Shared → Prop} (hg : s.heap.get? x = some (PySem.W.instObj C dx)) (q : Q none s) :
    wpAny (model prog w) A (tryMethod (.int k t) (dunder "mul") (.ref x)) Q E s := by
  refine wpAny_tryMethod_declines (T := "int") (name := dunder "mul") (id := "int.__mul__") ?_ ?_ ?_
  · exact typeIs_int s k t
  · exact F.slot_int_mul
  exact int_declines hg ⟨rfl, q⟩
theorem bin_right {prog : Program} {w : World} {A : Around} {E : Value → Shared → Prop} {s : Shared} {K : PySem.W.Frag} {x C f dx : Addr} {od : Option Obj} {k : Int} {t : Tok} {Q : Value → Shared → Prop}
    (X : K.In s.heap) (I : PySem.W.InstAt s.heap x (PySem.W.instObj C dx) C od) (first : PySem.W.selfFirst K C = true) (hl : PySem.W.findIn K (.ref C) "__mul__" = some (some (.ref f))) (hs : ∃ g : Addr, PySem.W.findIn K (.ref C) "__rmul__" = some (some (.ref g)) ∧ PySem.W.isFn K (.ref g) = true ∧
      wpAny (model prog w) A (call (.ref g) [.ref x, .int k t]) (PySem.W.CmpBack Q) E s)
    (hsub : PySem.W.subIn K (.ref C) (.type "int") = some false) : wpAny (model prog w) A (binaryOp .Mult (.int k t) (.ref x)) Q E s := by
  obtain ⟨g, hr, hf, h⟩ := hs
  obtain ⟨cd, rest, hcd, hm⟩ := PySem.W.ksp_first first
  have hg : s.heap.get? x = some (PySem.W.instObj C dx) := by
    exact I.at_
  have called := PySem.W.ksp_try X I hr hf h
  have d1 : PySem.W.Looks (model prog w) s.heap (typeOf (.ref x)) (.ref C) := I.type
  have d3 : PySem.W.Looks (model prog w) s.heap (fillsNumberSlot (.ref C) "mul") true := PySem.W.fills_K X hcd hm hl
  have d5 : PySem.W.Looks (model prog w) s.heap (isSubtype (.ref C) (.type "int")) false := PySem.W.looks_subIn X hsub
  clear X I hl hr hf h
  simp only [binaryOp]
  refine wpAny_holding (wpAny_bind ?_)
  show wpAny _ _ (binaryOp1 "mul" _ _) _ _ _
  simp only [binaryOp1]
  refine wpAny_bind (wpAny_typeOf (typeIs_int s k t) (wpAny_bind (d1.at (wpAny_bind (wpAny_of_eq F.fills_int_mul ?_)))))
  have hne : (Value.type "int" == Value.ref C) = false := Bool.eq_false_iff.mpr fun q => by cases beq_iff_eq.mp q
  simp only [hne, Bool.false_eq_true, if_false]
  refine wpAny_bind (d3.at ?_)
  simp only [Bool.and_self, if_true]
  refine wpAny_bind (d5.at ?_)
  have hpy : numberSlotInPython (.type "int") "mul" = pure false := rfl
  simp only [Bool.false_eq_true, if_false, pure_bind, Bool.not_false, Bool.and_self, if_true, hpy]
  refine wpAny_bind (try_declines hg ?_)
  refine wpAny_bind (wpAny_mono called (fun r s' z => ?_) fun _ _ e => e)
  obtain ⟨v, rfl, z⟩ := z
  exact wpAny_bind (wpAny_rule (wpAny_pure (wpAny_pure z)))
section
variable {X : Cx} {C : Addr} {k : Nat} {ps : List Str} {sp : Sp}
/-- k * o -/
def rMulR (C : Addr) (sp : Sp) : V → V → Hp → VK → Prop := fun x y H Q => ∃ p dx fs n, x = .int n ∧ y = .ref p ∧ H p = some (.ins C dx fs) ∧ sp [.ref p, .int n] H Q E0
theorem op_mulR (c : OwM X.prog X.w X.K X.mg X.base CX0 C "__rmul__" k ps sp) (first : PySem.W.selfFirst X.K C = true) (hl : ∃ f : Addr, PySem.W.findIn X.K (.ref C) "__mul__" = some (some (.ref f))) (hsub : PySem.W.subIn X.K (.ref C) (.type "int") = some false) (hr : Room k X.A) : OpR X (binaryOp .Mult) (rMulR C sp) := by
  intro pins s σ H x y u v Q I rx ry h
  obtain ⟨p, dx, fs, n, rfl, rfl, hp, hsp⟩ := h
  obtain ⟨f, fd, ok, hs, hf, _, hb⟩ := c.ex
  obtain ⟨fl, hfl⟩ := hl
  obtain ⟨od, J⟩ := inst_of I hp
  obtain ⟨t, rfl⟩ := id rx
  cases ry
  refine bin_right I.kIn J first hfl ⟨f, hs, hf, ?_⟩ hsub
  refine wpAny_mono (call_at (sub_self hr) ok hb I (vs := [.ref p, .int n]) (.cons rfl (.cons rx .nil)) hsp (fun e s' z => z.elim)) (fun u s' z => back_ep z) fun _ _ z => z
end
end Ow
namespace Ow
open PySem PySem.Spec PyProof.Rows L2 Bx TL Dx Zx ItX
/-! ### calls with defaults, new instances, methods, by their promises -/
structure CalD (P : Program) (w : World) (K : PySem.W.Frag) (mg : Str → Option Value) (base : Heap) (x : Str) (k : Nat) (ps : List Str) (sp : Sp) (dvs : List V) : Prop where
  ex : ∃ (f : Addr) (fd : FuncData) (ds : List Value), FnOk P w K mg base CX0 k f fd ps sp ∧ mg x = some (.ref f) ∧ PySem.W.keepIn K (.ref f) = true ∧ Binds K fd ps ds ∧ Vals dvs ds
structure MakC (P : Program) (w : World) (K : PySem.W.Frag) (mg : Str → Option Value) (base : Heap) (x : Str) (C : Addr) (k : Nat) (ps : List Str) (sp : Sp) (dvs : List V) : Prop where
  ex : ∃ (f : Addr) (fd : FuncData) (ds : List Value), Mk K C f ∧ FnOk P w K mg base CX0 k f fd ps sp ∧ mg x = some (.ref C) ∧ Binds K fd ps ds ∧ Vals dvs ds
structure MthC (P : Program) (w : World) (K : PySem.W.Frag) (mg : Str → Option Value) (base : Heap) (C : Addr) (m : Str) (k : Nat) (ps : List Str) (sp : Sp) : Prop where
  ex : ∃ (f : Addr) (fd : FuncData), Cls K C ∧ Meth K C m f ∧ FnOk P w K mg base CX0 k f fd ps sp ∧ Binds K fd ps []
section
variable {X : Cx} {x : Str} {k : Nat} {ps : List Str} {sp : Sp} {e : Expr} {es : List Expr} {t : TA} {p pos : Pos} {dvs : List V} {C : Addr}
theorem pe_calD (c : CalD X.prog X.w X.K X.mg X.base x k ps sp dvs) (hr : Room k X.A) (ha : PA X (e :: es) t) (hg : Gl X x := by rfl) (hdb : (x == ("__debug__" : Str)) = false := by decide)
    (he : starEach (e :: es) X.env = (false, eval e X.env) :: starEach es X.env := by rfl) (hpl : (backTo pos (starEach es X.env)).any (·.1) = false := by rfl) : PE X (.Call (.Name x p) (e :: es) [] pos) (tCall sp dvs E0 t) := by
  obtain ⟨f, fd, ds, ok, g, kp, b, r⟩ := c.ex
  exact pe_call (E := E0) ok hr hg g kp b r pass0 ha hdb he hpl (p := p)
theorem pe_mak (c : MakC X.prog X.w X.K X.mg X.base x C k ps sp []) (hr : Room (k + 1) X.A) (ha : PA X (e :: es) t) (hg : Gl X x := by rfl) (hdb : (x == ("__debug__" : Str)) = false := by decide)
    (he : starEach (e :: es) X.env = (false, eval e X.env) :: starEach es X.env := by rfl) (hpl : (backTo pos (starEach es X.env)).any (·.1) = false := by rfl) : PE X (.Call (.Name x p) (e :: es) [] pos) (tMake C sp [] E0 t) := by
  obtain ⟨f, fd, ds, M, ok, g, b, r⟩ := c.ex
  exact pe_make (E := E0) M ok hr hg g b r pass0 ha hdb he hpl (p := p)
theorem pe_mak0 (c : MakC X.prog X.w X.K X.mg X.base x C k ps sp dvs) (hr : Room (k + 1) X.A) (hg : Gl X x := by rfl) (hdb : (x == ("__debug__" : Str)) = false := by decide) : PE X (.Call (.Name x p) [] [] pos) (tMake C sp dvs E0 tNil) := by
  obtain ⟨f, fd, ds, M, ok, g, b, r⟩ := c.ex
  exact pe_make0 (E := E0) M ok hr hg g b r pass0 hdb (p := p)
theorem pe_mth {m : Str} {o : Expr} {to : TE} {apos : Pos} {pl : Sem Bool} (c : MthC X.prog X.w X.K X.mg X.base C m k ps sp) (hr : Room k X.A) (ho : PE X o to) (ha : PA X (e :: es) t)
    (hst : starEach (e :: es) X.env = (false, eval e X.env) :: starEach es X.env := by rfl) (hpl : (backTo pos (starEach es X.env)).any (·.1) = false := by rfl)
    (ht : eval (.Call (.Attribute o m apos) (e :: es) [] pos) X.env = (do
      let ov ← eval o X.env
      standAt apos.atName
      let (f, first) ← holding [ov] (getMethod ov m pl)
      callWith pos f first (backTo pos (starEach (e :: es) X.env)) (backToKw pos (keywordEach [] X.env))) := by rfl) : PE X (.Call (.Attribute o m apos) (e :: es) [] pos) (tMeth C m sp [] E0 to t) := by
  obtain ⟨f, fd, cl, mt, ok, b⟩ := c.ex
  exact pe_meth (E := E0) ho cl mt ok hr b .nil pass0 ha hst hpl ht
end
/-! ### // by any divisor -/
def CDivZ (_ j : Int) : Prop := j ≠ 0 ∧ j.natAbs.log2 < 9000
theorem op_fdivZ {X : Cx} : OpR X (binaryOp .FloorDiv) (rI CDivZ fun i j => .int (i.fdiv j)) := opI fun i j _ _ _ _ _ hc q => floordiv_int hc.1 q (.inl (PyProof.noPylong_of_log2 hc.2))
theorem wide_divZ {i j : Int} {b : Nat} (h : j ≠ 0) (hb : j.natAbs < 2 ^ b) (h0 : 0 < b) (h9 : b ≤ 9000) : CDivZ i j := ⟨h, Nat.lt_of_lt_of_le (PySem.Flt.log2_lt_of h0 hb) h9⟩
end Ow
namespace Go
open PySem PySem.Spec PyProof.Rows L2 Bx TL Dx Zx Ow
/-! ### steps of the heap -/
theorem al {H H2 : Hp} {p : Addr} {o : HO} (np : H p = none) (hu : upd H p o = H2) : Same H H2 ∧ H2 p = some o := by
  subst hu
  exact ⟨same_new np, upd_same⟩
theorem get {H H' : Hp} {a : Addr} {o : HO} (s : Same H H') (h : H a = some o) : H' a = some o := s _ _ h
theorem getB {H H' : Hp} {a b : Addr} {o : HO} (s : SameBut b H H') (n : a ≠ b) (h : H a = some o) : H' a = some o := s _ _ n h
theorem srcS {H H' : Hp} {a : Addr} (t : Same H H') (s : Src H a) : Src H' a := src_same s t
theorem ne_dk {H : Hp} {a s : Addr} {kvs : List (Key × V)} (hs : Src H s) (h : H a = some (.dK kvs)) : a ≠ s := fun e => by
  obtain ⟨n, c, hs⟩ := hs
  rw [e, hs] at h
  cases h
theorem dkB {H H' : Hp} {a s : Addr} {kvs : List (Key × V)} (hs : Src H s) (b : SameBut s H H') (h : H a = some (.dK kvs)) : H' a = some (.dK kvs) := b _ _ (ne_dk hs h) h
theorem insB {H H' : Hp} {a s C d : Addr} {fs : List (Str × V)} (hs : Src H s) (b : SameBut s H H') (h : H a = some (.ins C d fs)) : H' a = some (.ins C d fs) := b _ _ (fun e => by
  obtain ⟨n, c, hs⟩ := hs
  rw [e, hs] at h
  cases h) h
theorem tupB {K : PySem.W.Frag} {H H' : Hp} {s a : Addr} {xs : List V} (hs : Src H s) (sb : SameBut s H H') (h : SqT K H a xs) : SqT K H' a xs := by
  obtain ⟨n, c, hs⟩ := hs
  rcases h with (h | ⟨o, h⟩) | h
  · exact .inl (.inl (sb _ _ (fun e => by rw [e, hs] at h; cases h) h))
  · exact .inl (.inr ⟨o, sb _ _ (fun e => by rw [e, hs] at h; cases h) h⟩)
  · exact .inr h
theorem pltB {H H' : Hp} {s a : Addr} {xs : List V} (hs : Src H s) (sb : SameBut s H H') (h : PlT H a xs) : PlT H' a xs := by
  obtain ⟨n, c, hs⟩ := hs
  obtain ⟨o, h, d⟩ := h
  exact ⟨o, sb _ _ (fun e => by rw [e, hs] at h; cases h) h, d⟩
/-! ### tuples stay -/
mutual
def tupD : PyData → Bool
  | .str _ => true
  | .int _ => true
  | .bool _ => true
  | .none => true
  | .tuple ds => tupAll ds
  | _ => false
def tupAll : List PyData → Bool
  | [] => true
  | d :: ds => tupD d && tupAll ds
end
theorem tupAll_map {α : Type} {f : α → PyData} (h : ∀ x, tupD (f x) = true) : ∀ l : List α, tupAll (l.map f) = true
  | [] => rfl
  | x :: l => by
    show (tupD (f x) && tupAll (l.map f)) = true
    rw [h x, tupAll_map h l]
    rfl
def Tk (K : PySem.W.Frag) (H H' : Hp) : Prop := ∀ a xs, SqT K H a xs → SqT K H' a xs
theorem tk_same {K : PySem.W.Frag} {H H' : Hp} (s : Same H H') : Tk K H H' := fun _ _ h => Bx.Same.tup s h
theorem tk_but {K : PySem.W.Frag} {H H' : Hp} {s : Addr} (hs : Src H s) (sb : SameBut s H H') : Tk K H H' := fun _ _ h => tupB hs sb h
theorem Tk.trans {K : PySem.W.Frag} {H H1 H2 : Hp} (a : Tk K H H1) (b : Tk K H1 H2) : Tk K H H2 := fun _ _ h => b _ _ (a _ _ h)
theorem tk_lst {K : PySem.W.Frag} {H : Hp} {p : Addr} {ys : List V} {o : HO} (hp : H p = some (.lst ys)) : Tk K H (upd H p o) := fun a xs h => by
  rcases h with (h | ⟨u, h⟩) | h
  · exact .inl (.inl (by rw [upd_ne fun z => by rw [z, hp] at h; cases h]; exact h))
  · exact .inl (.inr ⟨u, by rw [upd_ne fun z => by rw [z, hp] at h; cases h]; exact h⟩)
  · exact .inr h
theorem tk_dk {K : PySem.W.Frag} {H : Hp} {p : Addr} {kvs : List (Key × V)} {o : HO} (hp : H p = some (.dK kvs)) : Tk K H (upd H p o) := fun a xs h => by
  rcases h with (h | ⟨u, h⟩) | h
  · exact .inl (.inl (by rw [upd_ne fun z => by rw [z, hp] at h; cases h]; exact h))
  · exact .inl (.inr ⟨u, by rw [upd_ne fun z => by rw [z, hp] at h; cases h]; exact h⟩)
  · exact .inr h
mutual
theorem dp_tk {K : PySem.W.Frag} {H H' : Hp} (tk : Tk K H H') : ∀ (d : PyData) (v : V), tupD d = true → Dp K H v d → Dp K H' v d
  | .str _, _, _, h => by
    cases h
    exact .str _
  | .int _, _, _, h => by
    cases h
    exact .int _
  | .tuple ds, _, e, h => by
    cases h with
    | tup hs ha => exact .tup (tk _ _ hs) (da_tk tk ds _ e ha)
  | .none, _, e, h => by
    cases h
    exact .non
  | .bool _, _, e, h => by
    cases h
    exact .bl _
  | .list _, _, e, _ => by cases e
  | .dict _, _, e, _ => by cases e
theorem da_tk {K : PySem.W.Frag} {H H' : Hp} (tk : Tk K H H') : ∀ (ds : List PyData) (vs : List V), tupAll ds = true → DpAll K H vs ds → DpAll K H' vs ds
  | [], _, _, h => by
    cases h
    exact .nil
  | d :: ds, _, e, h => by
    have e2 : (tupD d && tupAll ds) = true := e
    rw [Bool.and_eq_true] at e2
    cases h with
    | cons h1 h2 => exact .cons (dp_tk tk d _ e2.1 h1) (da_tk tk ds _ e2.2 h2)
end
theorem dpB {K : PySem.W.Frag} {H H' : Hp} {s : Addr} {v : V} {d : PyData} (hs : Src H s) (sb : SameBut s H H') (t : tupD d = true) (h : Dp K H v d) : Dp K H' v d := dp_tk (tk_but hs sb) d v t h
theorem daB {K : PySem.W.Frag} {H H' : Hp} {s : Addr} {vs : List V} {ds : List PyData} (hs : Src H s) (sb : SameBut s H H') (t : tupAll ds = true) (h : DpAll K H vs ds) : DpAll K H' vs ds := da_tk (tk_but hs sb) ds vs t h
/-- a list of tuples' data grows -/
theorem da_put {K : PySem.W.Frag} {H : Hp} {D : Addr} {us : List V} {v : V} {ds : List PyData} {d : PyData} (hD : H D = some (.lst us)) (t : tupAll ds = true) (t2 : tupD d = true) (h : DpAll K H us ds) (h2 : Dp K H v d) : DpAll K (upd H D (.lst (us ++ [v]))) (us ++ [v]) (ds ++ [d]) :=
  da_app (da_tk (tk_lst hD) ds us t h) (da_one (dp_tk (tk_lst hD) d v t2 h2))
/-! ### at an index -/
theorem at_mapV {α : Type} {f : α → V} {l : List α} {i : Nat} {x : α} (h : l[i]? = some x) : atI (l.map f) (i : Int) = some (f x) := atI_nat (by rw [List.getElem?_map, h]; rfl)
theorem at_mapZ {α : Type} {f : α → V} {l : List α} {i : Nat} {x : α} (h : l[i]? = some x) : atI (l.map f) (0 + (i : Int)) = some (f x) := by
  rw [Int.zero_add]
  exact at_mapV h
theorem at_nat0 {l : List V} {i : Nat} {x : V} (h : l[i]? = some x) : atI l (0 + (i : Int)) = some x := by
  rw [Int.zero_add]
  exact atI_nat h
theorem nd_take {α : Type} {l : List α} (nd : l.Nodup) {i : Nat} {c : α} (h : l[i]? = some c) : c ∉ l.take i := by
  intro m
  obtain ⟨j, hj⟩ := List.mem_iff_getElem?.mp m
  rw [List.getElem?_take] at hj
  split at hj
  · obtain ⟨h1, e1⟩ := List.getElem?_eq_some_iff.mp h
    obtain ⟨h2, e2⟩ := List.getElem?_eq_some_iff.mp hj
    have := (List.getElem_inj nd).mp (e1.trans e2.symm)
    omega
  · cases hj
/-! ### a tuple that is written, without a dict of its own -/
def tTupF (t : TA) : TE := fun σ H Q => t σ H fun xs H1 => xs.length ≤ sizeLine ∧ ∀ l o, H1 l = none → o.dict = none → Q (.ref l) (upd H1 l (.frz o (.tup xs)))
section
variable {X : Cx} {es : List Expr} {t : TA} {pos : Pos}
theorem pe_tupF {x1} (h : PA X es t) : PE X (.Tuple es x1 pos) (tTupF t) := by
  refine ⟨fun pins s σ H Q I hq => ?_⟩
  refine wpAny_Tuple_spliced (thn (h.run pos pins s σ H _ I hq) fun us s1 ⟨xs, H1, I1, r, z, q⟩ => ⟨by rw [← r.length]; exact z, ?_⟩)
  have hf : H1 s1.heap.objs.size = none := I1.hok.fresh (Nat.le_refl _)
  let o : Obj := { cls := .type "tuple", data := .seq us.toArray }
  refine ⟨.ref s1.heap.objs.size, upd H1 s1.heap.objs.size (.frz o (.tup xs)), I1.laid (t' := s1.toks) (fun b u e => Heap.get?_push_of_some _ e) (Nat.le_refl _) ?_, rfl, q _ o hf rfl⟩
  exact ⟨Heap.get?_push_size _ rfl, z, us, r, ⟨_, Heap.get?_push_size _ rfl, rfl, _, rfl⟩⟩
end
theorem alF {H H2 : Hp} {p : Addr} {o : Obj} {xs : List V} (np : H p = none) (od : o.dict = none) (hu : upd H p (.frz o (.tup xs)) = H2) : Same H H2 ∧ PlT H2 p xs := by
  subst hu
  exact ⟨same_new np, o, upd_same, od⟩
/-! ### comprehensions that give data -/
section
variable {J : It} {n : Nat} {G : Hp → Prop} {Y : Nat → Hp → V → Hp → Prop}
theorem lc_fil (w : Walk J n G Y) {α : Type} (K : PySem.W.Frag) (ls : List α) (p : α → Bool) (f : α → PyData) {g : TG} {tt : TT} {te : TE} {vs : List Nat} {σ : L2.St} {H1 : Hp} {D : Addr} {Qd : Hp → Prop} (hl : ls.length = n) (hn : n < 100000) (td : ∀ a, tupD (f a) = true) (nD : H1 D = none) (hG : ∀ H', Same H1 H' → G H') (hY : ∀ i H x H', Y i H x H' → Same H H')
    (hs : ∀ i a x H H', ls[i]? = some a → Same H1 H → Y i H x H' → ∀ (Z : V → Hp → Prop) (Z' : Hp → Prop), (∀ y H4, p a = true → Same H' H4 → Dp K H4 y (f a) → Z y H4) → (∀ H4, p a = false → Same H' H4 → Z' H4) → g x (wipe σ vs) H' fun σ2 H2 => wipe σ2 vs = wipe σ vs ∧ tt σ2 H2 fun b H3 => if b = true then te σ2 H3 Z else Z' H3)
    (hd : ∀ H us, Same H1 H → H D = some (.lst us) → DpAll K H us ((ls.filter p).map f) → Qd H) :
    ∃ W : Nat → Nat → Hp → Prop, (∃ m, W 0 m (upd H1 D (.lst []))) ∧ ∀ i m H, W i m H →
      (J.stop i H ∧ Qd H) ∨ (J.go i H ∧ ∃ Nx : Hp → Prop, (∀ H', Nx H' → ∃ m', m' < m ∧ W (i + 1) m' H') ∧ ∀ x H', J.yld i H x H' → g x (wipe σ vs) H' fun σ2 H2 => wipe σ2 vs = wipe σ vs ∧ tt σ2 H2 fun b H3 =>
        if b = true then te σ2 H3 fun y H4 => ∃ acc, H4 D = some (.lst acc) ∧ acc.length < sizeLine ∧ Nx (upd H4 D (.lst (acc ++ [y]))) else Nx H3) := by
  refine lc_it w (fun i H' => Same H1 H' ∧ ∃ us, H' D = some (.lst us) ∧ DpAll K H' us (((ls.take i).filter p).map f)) ⟨same_new nD, [], upd_same, by rw [List.take_zero]; exact .nil⟩ (fun i H' _ h => hG _ h.1) ?_ ?_
  · rintro i x H H' hi ⟨s, us, hM, hda⟩ hy
    have ha := List.getElem?_eq_getElem (show i < ls.length by omega)
    have tk1 : (ls.take (i + 1)).filter p = (ls.take i).filter p ++ if p (ls[i]'(by omega)) = true then [ls[i]'(by omega)] else [] := by
      rw [List.take_add_one, ha, List.filter_append]
      congr 1
      by_cases c : p (ls[i]'(by omega)) = true <;> simp [List.filter, c]
    have sy := hY _ _ _ _ hy
    refine hs i _ x H H' ha s hy _ _ (fun y H4 pa s4 dy => ?_) (fun H4 pa s4 => ?_)
    · have s44 := sy.trans s4
      have hM4 := s44 _ _ hM
      have ul : us.length ≤ i := by
        rw [da_len hda, List.length_map]
        exact Nat.le_trans (List.length_filter_le _ _) (List.length_take_le _ _)
      refine ⟨us, hM4, szl (by omega), same_at nD (s.trans s44), us ++ [y], upd_same, ?_⟩
      rw [tk1, if_pos pa, List.map_append]
      exact da_put hM4 (tupAll_map td _) (td _) (dpAll_same s44 hda) dy
    · have s44 := sy.trans s4
      refine ⟨s.trans s44, us, s44 _ _ hM, ?_⟩
      rw [tk1, if_neg (by rw [pa]; decide), List.append_nil]
      exact dpAll_same s44 hda
  · rintro H ⟨s, us, hM, hda⟩
    rw [← hl, List.take_length] at hda
    exact hd H us s hM hda
theorem lc_map (w : Walk J n G Y) {α : Type} (K : PySem.W.Frag) (ls : List α) (f : α → PyData) {g : TG} {te : TE} {vs : List Nat} {σ : L2.St} {H1 : Hp} {D : Addr} {Qd : Hp → Prop} (hl : ls.length = n) (hn : n < 100000) (td : ∀ a, tupD (f a) = true) (nD : H1 D = none) (hG : ∀ H', Same H1 H' → G H') (hY : ∀ i H x H', Y i H x H' → Same H H')
    (hs : ∀ i a x H H', ls[i]? = some a → Same H1 H → Y i H x H' → ∀ (Z : V → Hp → Prop), (∀ y H4, Same H' H4 → Dp K H4 y (f a) → Z y H4) → g x (wipe σ vs) H' fun σ2 H2 => wipe σ2 vs = wipe σ vs ∧ te σ2 H2 Z)
    (hd : ∀ H us, Same H1 H → H D = some (.lst us) → DpAll K H us (ls.map f) → Qd H) :
    ∃ W : Nat → Nat → Hp → Prop, (∃ m, W 0 m (upd H1 D (.lst []))) ∧ ∀ i m H, W i m H →
      (J.stop i H ∧ Qd H) ∨ (J.go i H ∧ ∃ Nx : Hp → Prop, (∀ H', Nx H' → ∃ m', m' < m ∧ W (i + 1) m' H') ∧ ∀ x H', J.yld i H x H' → g x (wipe σ vs) H' fun σ2 H2 => wipe σ2 vs = wipe σ vs ∧ tYes σ2 H2 fun b H3 =>
        if b = true then te σ2 H3 fun y H4 => ∃ acc, H4 D = some (.lst acc) ∧ acc.length < sizeLine ∧ Nx (upd H4 D (.lst (acc ++ [y]))) else Nx H3) := by
  refine lc_fil w K ls (fun _ => true) f hl hn td nD hG hY (fun i a x H H' ha s hy Z Z' hZ _ => ?_) (fun H us s hM hda => ?_)
  · exact hs i a x H H' ha s hy Z fun y H4 => hZ y H4 rfl
  · rw [List.filter_eq_self.mpr fun _ _ => rfl] at hda
    exact hd H us s hM hda
end
theorem yat {xs : List V} : ∀ i H x H', YAt xs i H x H' → Same H H' := fun _ _ _ _ h => by rw [h.1]; exact Same.refl _
theorem yfn {f : Nat → V} : ∀ i H x H', YFn f i H x H' → Same H H' := fun _ _ _ _ h => by rw [h.1]; exact Same.refl _
/-! ### lists of flat data -/
theorem da_intV {K : PySem.W.Frag} {H : Hp} : ∀ {l : List Int} {us : List V}, DpAll K H us (l.map PyData.int) → us = l.map V.int
  | [], _, h => by cases h; rfl
  | _ :: l, _, h => by
    cases h with
    | cons h1 h2 => rw [da_intV h2, dp_int h1]; rfl
theorem da_strV {K : PySem.W.Frag} {H : Hp} : ∀ {l : List Str} {us : List V}, DpAll K H us (l.map PyData.str) → us = l.map V.str
  | [], _, h => by cases h; rfl
  | _ :: l, _, h => by
    cases h with
    | cons h1 h2 => rw [da_strV h2, dp_str h1]; rfl
theorem da_blV {K : PySem.W.Frag} {H : Hp} : ∀ {l : List Bool} {us : List V}, DpAll K H us (l.map PyData.bool) → us = l.map V.bl
  | [], _, h => by cases h; rfl
  | _ :: l, _, h => by
    cases h with
    | cons h1 h2 => cases h1; rw [da_blV h2]; rfl
end Go
namespace Go
open PySem PySem.Spec PyProof.Rows L2 Bx TL Dx Zx Ow
/-! ### lists of related values -/
inductive All2 {α : Type} (R : V → α → Prop) : List V → List α → Prop
  | nil : All2 R [] []
  | cons {v : V} {a : α} {vs : List V} {as : List α} : R v a → All2 R vs as → All2 R (v :: vs) (a :: as)
section
variable {α : Type} {R S : V → α → Prop}
theorem All2.len {vs : List V} {as : List α} (h : All2 R vs as) : vs.length = as.length := by
  induction h with
  | nil => rfl
  | cons _ _ ih => rw [List.length_cons, List.length_cons, ih]
theorem All2.mono (k : ∀ v a, R v a → S v a) {vs : List V} {as : List α} (h : All2 R vs as) : All2 S vs as := by
  induction h with
  | nil => exact .nil
  | cons h _ ih => exact .cons (k _ _ h) ih
theorem All2.monoM {vs : List V} {as : List α} (h : All2 R vs as) (k : ∀ v a, a ∈ as → R v a → S v a) : All2 S vs as := by
  induction h with
  | nil => exact .nil
  | cons h _ ih => exact .cons (k _ _ List.mem_cons_self h) (ih fun v a m => k v a (List.mem_cons_of_mem _ m))
theorem All2.app {vs ws : List V} {as bs : List α} (h : All2 R vs as) (k : All2 R ws bs) : All2 R (vs ++ ws) (as ++ bs) := by
  induction h with
  | nil => exact k
  | cons h _ ih => exact .cons h ih
theorem All2.one {v : V} {a : α} (h : R v a) : All2 R [v] [a] := .cons h .nil
theorem All2.at {vs : List V} {as : List α} (h : All2 R vs as) : ∀ {i : Nat} {v : V}, vs[i]? = some v → ∃ a, as[i]? = some a ∧ R v a := by
  induction h with
  | nil => exact fun e => by cases e
  | @cons v a vs as h _ ih =>
    intro i w e
    cases i with
    | zero =>
      cases e
      exact ⟨a, rfl, h⟩
    | succ i => exact ih e
theorem All2.at' {vs : List V} {as : List α} (h : All2 R vs as) : ∀ {i : Nat} {a : α}, as[i]? = some a → ∃ v, vs[i]? = some v ∧ R v a := by
  induction h with
  | nil => exact fun e => by cases e
  | @cons v a vs as h _ ih =>
    intro i w e
    cases i with
    | zero =>
      cases e
      exact ⟨v, rfl, h⟩
    | succ i => exact ih e
theorem all2_dp {K : PySem.W.Frag} {H : Hp} {f : α → PyData} : ∀ {us : List V} {ls : List α}, All2 (fun v a => Dp K H v (f a)) us ls → DpAll K H us (ls.map f)
  | _, _, .nil => .nil
  | _, _, .cons h t => .cons h (all2_dp t)
theorem dp_all2 {K : PySem.W.Frag} {H : Hp} {f : α → PyData} : ∀ {ls : List α} {us : List V}, DpAll K H us (ls.map f) → All2 (fun v a => Dp K H v (f a)) us ls
  | [], _, h => by cases h; exact .nil
  | _ :: _, _, h => by
    cases h with
    | cons h t => exact .cons h (dp_all2 t)
end
/-! ### tuples stay, those without a dict too -/
def Kp (K : PySem.W.Frag) (H H' : Hp) : Prop := Tk K H H' ∧ ∀ a xs, PlT H a xs → PlT H' a xs
theorem kp_same {K : PySem.W.Frag} {H H' : Hp} (s : Same H H') : Kp K H H' := ⟨tk_same s, fun _ _ => PlT.same s⟩
theorem Kp.trans {K : PySem.W.Frag} {H H1 H2 : Hp} (x : Kp K H H1) (y : Kp K H1 H2) : Kp K H H2 := ⟨x.1.trans y.1, fun a xs h => y.2 a xs (x.2 a xs h)⟩
theorem kp_lst {K : PySem.W.Frag} {H : Hp} {p : Addr} {ys : List V} {o : HO} (hp : H p = some (.lst ys)) : Kp K H (upd H p o) := ⟨tk_lst hp, fun a xs ⟨ob, h, e⟩ => ⟨ob, by rw [upd_ne fun z => by rw [z, hp] at h; cases h]; exact h, e⟩⟩
theorem kp_dk {K : PySem.W.Frag} {H : Hp} {p : Addr} {kvs : List (Key × V)} {o : HO} (hp : H p = some (.dK kvs)) : Kp K H (upd H p o) := ⟨tk_dk hp, fun a xs ⟨ob, h, e⟩ => ⟨ob, by rw [upd_ne fun z => by rw [z, hp] at h; cases h]; exact h, e⟩⟩
theorem kp_but {K : PySem.W.Frag} {H H' : Hp} {s : Addr} (hs : Src H s) (b : SameBut s H H') : Kp K H H' := ⟨tk_but hs b, fun a xs h => pltB hs b h⟩
theorem kp_refl {K : PySem.W.Frag} {H : Hp} : Kp K H H := ⟨fun _ _ h => h, fun _ _ h => h⟩
/-! ### comprehensions, with draws or without: B keeps what the caller wants kept -/
section
variable {J : It} {n : Nat} {G : Hp → Prop} {Y : Nat → Hp → V → Hp → Prop}
/-- R: how a value of the new list stands for a; M: what holds between the heap ahead and the heap now -/
theorem lc_rel (w : Walk J n G Y) {α : Type} (ls : List α) (p : α → Bool) (R : Hp → V → α → Prop) {g : TG} {tt : TT} {te : TE} {vs : List Nat} {σ : L2.St} {H1 : Hp} {D : Addr} {Qd : Hp → Prop} (hl : ls.length = n) (hn : n < 100000) (nD : H1 D = none)
    (rs : ∀ H H' v a, Same H H' → R H v a → R H' v a) (ru : ∀ H us v a o, H D = some (.lst us) → R H v a → R (upd H D o) v a) (hG : ∀ H', Same H1 H' → G H') (hY : ∀ i H x H', Y i H x H' → Same H H')
    (hs : ∀ i a x H H', ls[i]? = some a → Same H1 H → Y i H x H' → ∀ (Z : V → Hp → Prop) (Z' : Hp → Prop), (∀ y H4, p a = true → Same H' H4 → R H4 y a → Z y H4) → (∀ H4, p a = false → Same H' H4 → Z' H4) → g x (wipe σ vs) H' fun σ2 H2 => wipe σ2 vs = wipe σ vs ∧ tt σ2 H2 fun b H3 => if b = true then te σ2 H3 Z else Z' H3)
    (hd : ∀ H us, Same H1 H → H D = some (.lst us) → All2 (R H) us (ls.filter p) → Qd H) :
    ∃ W : Nat → Nat → Hp → Prop, (∃ m, W 0 m (upd H1 D (.lst []))) ∧ ∀ i m H, W i m H →
      (J.stop i H ∧ Qd H) ∨ (J.go i H ∧ ∃ Nx : Hp → Prop, (∀ H', Nx H' → ∃ m', m' < m ∧ W (i + 1) m' H') ∧ ∀ x H', J.yld i H x H' → g x (wipe σ vs) H' fun σ2 H2 => wipe σ2 vs = wipe σ vs ∧ tt σ2 H2 fun b H3 =>
        if b = true then te σ2 H3 fun y H4 => ∃ acc, H4 D = some (.lst acc) ∧ acc.length < sizeLine ∧ Nx (upd H4 D (.lst (acc ++ [y]))) else Nx H3) := by
  refine lc_it w (fun i H' => Same H1 H' ∧ ∃ us, H' D = some (.lst us) ∧ All2 (R H') us ((ls.take i).filter p)) ⟨same_new nD, [], upd_same, by rw [List.take_zero]; exact .nil⟩ (fun i H' _ h => hG _ h.1) ?_ ?_
  · rintro i x H H' hi ⟨s, us, hM, hda⟩ hy
    have ha := List.getElem?_eq_getElem (show i < ls.length by omega)
    have tk1 : (ls.take (i + 1)).filter p = (ls.take i).filter p ++ if p (ls[i]'(by omega)) = true then [ls[i]'(by omega)] else [] := by
      rw [List.take_add_one, ha, List.filter_append]
      congr 1
      by_cases c : p (ls[i]'(by omega)) = true <;> simp [List.filter, c]
    have sy := hY _ _ _ _ hy
    refine hs i _ x H H' ha s hy _ _ (fun y H4 pa s4 dy => ?_) (fun H4 pa s4 => ?_)
    · have s44 := sy.trans s4
      have hM4 := s44 _ _ hM
      have ul : us.length ≤ i := by
        rw [hda.len]
        exact Nat.le_trans (List.length_filter_le _ _) (List.length_take_le _ _)
      refine ⟨us, hM4, szl (by omega), same_at nD (s.trans s44), us ++ [y], upd_same, ?_⟩
      rw [tk1, if_pos pa]
      exact (hda.mono fun v a h => ru _ _ _ _ _ hM4 (rs _ _ _ _ s44 h)).app (.one (ru _ _ _ _ _ hM4 dy))
    · have s44 := sy.trans s4
      refine ⟨s.trans s44, us, s44 _ _ hM, ?_⟩
      rw [tk1, if_neg (by rw [pa]; decide), List.append_nil]
      exact hda.mono fun v a h => rs _ _ _ _ s44 h
  · rintro H ⟨s, us, hM, hda⟩
    rw [← hl, List.take_length] at hda
    exact hd H us s hM hda
end
/-! ### branches that meet again -/
theorem st_gi {t : TS} {i : Nat} {D : Ends} {rest : TS} {σ : L2.St} {H : Hp} (R : V → Hp → Prop) (h : ∀ D' : Ends, (∀ v H', R v H' → D'.nx (σ.set i (some v)) H') → D'.rt = D.rt → t D' σ H) (k : ∀ v H', R v H' → rest D (σ.set i (some v)) H') : tSeq t rest D σ H := h { D with nx := fun σ' H' => rest D σ' H' } (fun v H' r => k v H' r) rfl
theorem st_co {t : TS} {D : Ends} {rest : TS} {σ : L2.St} {H : Hp} (R : Hp → Prop) (h : ∀ D' : Ends, (∀ H', R H' → D'.nx σ H') → D'.rt = D.rt → t D' σ H) (k : ∀ H', R H' → rest D σ H') : tSeq t rest D σ H := h { D with nx := fun σ' H' => rest D σ' H' } (fun H' r => k H' r) rfl
theorem st_ss {t : TS} {D : Ends} {rest : TS} {σ : L2.St} {H : Hp} (R : L2.St → Hp → Prop) (h : ∀ D' : Ends, (∀ σ' H', R σ' H' → D'.nx σ' H') → D'.rt = D.rt → t D' σ H) (k : ∀ σ' H', R σ' H' → rest D σ' H') : tSeq t rest D σ H := h { D with nx := fun σ' H' => rest D σ' H' } (fun σ' H' r => k σ' H' r) rfl
theorem bare {H H2 : Hp} {C k dk : Addr} (nk : H k = none) (nd : H dk = none) (ne : dk ≠ k) (hu : upd (upd H dk (.own k)) k (.ins C dk []) = H2) : Same H H2 ∧ H2 k = some (.ins C dk []) := by
  subst hu
  exact ⟨Same.trans (same_new nd) (same_new (by rw [upd_ne (Ne.symm ne)]; exact nk)), upd_same⟩
theorem ix_any {K : PySem.W.Frag} {H : Hp} {a : Addr} {xs : List V} {i : Int} {v : V} {Z : VK} (h : SqL K H a xs ∨ SqT K H a xs) (e : atI xs i = some v) (q : Z v H) : rIx K (.ref a) (.int i) H Z :=
  h.elim (fun h => .inl ⟨_, _, _, _, rfl, rfl, h, e, q⟩) (fun h => .inr (.inl ⟨_, _, _, _, rfl, rfl, h, e, q⟩))
theorem all2_eq {α : Type} {f : α → V} : ∀ {us : List V} {as : List α}, All2 (fun v a => v = f a) us as → us = as.map f
  | _, _, .nil => rfl
  | _, _, .cons h t => by rw [h, all2_eq t]; rfl
theorem all2_map {α β : Type} {f : α → β} {R : V → β → Prop} : ∀ {us : List V} {as : List α}, All2 (fun v a => R v (f a)) us as → All2 R us (as.map f)
  | _, _, .nil => .nil
  | _, _, .cons h t => .cons h (all2_map t)
theorem dec_len {α : Type} : ∀ l : List α, decide (0 < ((l.length : Nat) : Int)) = !l.isEmpty
  | [] => rfl
  | _ :: l => decide_eq_true (by rw [List.length_cons]; omega)
theorem perm_asc {ys sh s : List Str} (pm : ys.Perm sh) (st : sortedS ys = true) (nd : sh.Nodup) (as : Asc s) (m : ∀ x, x ∈ s ↔ x ∈ sh) : ys = s :=
  asc_eq (asc_of st (pm.nodup_iff.mpr nd)) as fun x => pm.mem_iff.trans (m x).symm
end Go
set_option maxHeartbeats 1000000
/-! list(reversed(x)), x a list: a new list. -/
namespace Lr
open PySem PySem.Spec PyProof.Rows L2 RT
section
variable {prog : Program} {w : World} {A : Around} {E : Value → Shared → Prop} {s : Shared}
def Back (items acc : Array Value) : Prop := ItemsOf (fun i v => items[items.size - 1 - i]? = some v) acc items.size
/-- the new list at S takes all that the iterator at it yields -/
theorem ext_rev {it l S : Addr} {items : Array Value} {R : Result → Shared → Prop} {c0 : Nat} (hh : A.handled = none) (hit : s.heap.IsRevIter it l ((items.size : Int) - 1)) (hl : s.heap.IsList l items) (hne : l ≠ it) (n1 : S ≠ it) (n2 : S ≠ l) (hn : items.size ≤ sizeLine)
    (hS : s.heap.get? S = some { cls := .type "list", data := .seq #[] c0 })
    (hR : ∀ (h' : Heap) (tk : Nat) (acc : Array Value) (c : Nat), (∀ b o, b ≠ S → b ≠ it → s.heap.get? b = some o → h'.get? b = some o) → h'.get? S = some { cls := .type "list", data := .seq acc c } → Back items acc → R (.ok (.ret .none)) { s with heap := h', toks := tk }) :
    wpAny (model prog w) A.in1 (Builtin.List.listExtendWith (.ref S) (.ref it) .none)
      (fun fin s' => match fin with | .done f => R (.ok f) s' | .again c' => c'.quiet = true ∧ codeAny (model prog w) A c' R s') (fun e s' => R (.error e) s') s := by
  have W := (Walks.listRev (prog := prog) (w := w) (A := A.in1) hh it l hne items).toS
  have nin : S ∉ [it, l] := fun z => (List.mem_cons.mp z).elim n1 fun z => n2 (List.mem_singleton.mp z)
  have hT : s.TypeIs (.ref it) "list_reverseiterator" := Heap.IsRevIter.typeIs hit
  unfold Builtin.List.listExtendWith
  refine wpAny_bind (wpAny_typeOf hT ?_)
  rw [if_neg (by rw [show Builtin.List.listSameRef (.ref S) (.ref it) = false by simp [Builtin.List.listSameRef, n1]]; decide)]
  refine wpAny_bind (wpAny_pyIter_revIter hit ?_)
  refine wpAny_bind (wpAny_holding ?_)
  unfold Builtin.List.listLengthHint
  refine wpAny_bind (wpAny_specialOf hT nolen_lri ?_)
  show wpAny _ A.in1 (specialOf (Value.ref it) (Str.ofString "__length_hint__") >>= _) _ _ _
  refine wpAny_bind (wpAny_specialOf hT hint_lri ?_)
  generalize hid : ("list_reverseiterator.__length_hint__" : String) = id0
  wp_delta
  rw [show splitId id0 = some ("list_reverseiterator", "__length_hint__") from by subst hid; decide +kernel]
  subst hid
  refine wpAny_bind (wpAny_isInstance (b := true) hT (by rw [isSubtype_type]; kernel_rfl) ?_)
  refine wpAny_pure ?_
  rw [if_neg (by decide)]
  have e0 : ((items.size : Nat) : Int) - 1 - ((0 : Nat) : Int) = (items.size : Int) - 1 := by omega
  refine wpAny_pure ⟨plainId_quiet F.plain_extend_loop _, codeAny_extend_loopS W hn _ nin _ items.size 0 _ _ _ rfl (Nat.zero_le _) ⟨Nat.zero_le _, by rw [e0]; exact hit, hl⟩ hS (ItemsOf.nil _) fun s' acc' c' hm hS' hacc => ?_⟩
  rw [Moved.eq_with hm]
  refine hR s'.heap s'.toks acc' c' (fun b o b1 b2 e => hm.heap b o (fun z => ?_) e) hS' hacc
  rcases List.mem_cons.mp z with z | z
  · exact b1 z
  · exact b2 (List.mem_singleton.mp z)
theorem call_rev {it l : Addr} {items : Array Value} {Q : Value → Shared → Prop} (hh : A.handled = none) (hit : s.heap.IsRevIter it l ((items.size : Int) - 1)) (hl : s.heap.IsList l items) (hne : l ≠ it) (hn : items.size ≤ sizeLine)
    (hQ : ∀ (h' : Heap) (tk : Nat) (acc : Array Value) (c : Nat), (∀ b o, b ≠ it → s.heap.get? b = some o → h'.get? b = some o) → h'.get? s.heap.objs.size = some { cls := .type "list", data := .seq acc c } → Back items acc → Q (.ref s.heap.objs.size) { s with heap := h', toks := tk }) :
    wpAny (model prog w) A (call (.type "list") [.ref it]) Q E s := by
  obtain ⟨oi, hoi, _⟩ := id hit
  obtain ⟨ol, hol, _⟩ := id hl
  have li := Heap.lt_size hoi
  have ll := Heap.lt_size hol
  refine callType_codes (Q₁ := fun obj s₁ => obj = .ref s.heap.objs.size ∧ s₁ = { s with heap := s.heap.push { cls := .type "list", data := .seq #[] } }) PySem.F.called_list (PySem.F.typeCall_list_1 _) PySem.F.entry_list_init
    (code_list_new _ ⟨rfl, rfl⟩) fun obj s₁ h₁ => ?_
  obtain ⟨rfl, rfl⟩ := h₁
  have hS : (s.heap.push { cls := .type "list", data := .seq #[] }).get? s.heap.objs.size = some { cls := .type "list", data := .seq #[] } := Heap.get?_push_size _ rfl
  refine ⟨⟨_, hS, rfl⟩, PySem.F.args_list_init_2 _ _, ?_⟩
  show wpAny _ _ (do let old ← Builtin.List.listItems (.ref s.heap.objs.size); Builtin.List.listUpdate (.ref s.heap.objs.size) (fun _ => #[]); letGo old.toList.reverse; Builtin.List.listExtendWith (.ref s.heap.objs.size) (.ref it) .none) _ _ _
  refine wpAny_bind ?_
  unfold Builtin.List.listItems
  refine wpAny_bind (wpAny_seqItems hS rfl (wpAny_pure ?_))
  show wpAny _ _ (updateSeq s.heap.objs.size (fun _ => #[]) >>= fun _ => letGo (#[] : Array Value).toList.reverse >>= fun _ => Builtin.List.listExtendWith (.ref s.heap.objs.size) (.ref it) .none) _ _ _
  refine wpAny_bind (wpAny_updateSeq hS rfl ?_)
  have hS2 := Heap.get?_update_self (Obj.mapSeq (fun _ => (#[] : Array Value))) hS rfl
  have oth : ∀ b o, b ≠ s.heap.objs.size → s.heap.get? b = some o → ((s.heap.push { cls := .type "list", data := .seq #[] }).update s.heap.objs.size (Obj.mapSeq (fun _ => (#[] : Array Value)))).get? b = some o :=
    fun b o hb e => (Heap.get?_update_other _ _ (Ne.symm hb)).trans (Heap.get?_push_of_some _ e)
  refine wpAny_bind (wpAny_letGo ?_)
  refine ext_rev (A := A.in1) hh (hit.at fun o e => oth it o (Nat.ne_of_lt li) e) (hl.at fun o e => oth l o (Nat.ne_of_lt ll) e) hne (Nat.ne_of_gt li) (Nat.ne_of_gt ll) hn hS2 fun h' tk acc c hk hS' hb => ?_
  exact ⟨rfl, hQ h' tk acc c (fun b o hb e => hk b o (Nat.ne_of_lt (Heap.lt_size e)) hb (oth b o (Nat.ne_of_lt (Heap.lt_size e)) e)) hS' hb⟩
end
section
variable {X : Cx}
def tLr (K : PySem.W.Frag) (te : TE) : TE := fun σ H Q => te σ H fun v H1 => ∃ (a : Addr) (xs : List V), v = .ref a ∧ SqL K H1 a xs ∧ ∀ q, H1 q = none → Q (.ref q) (upd H1 q (.lst xs.reverse))
theorem pe_listRev {e : Expr} {te : TE} {p p2 pos pos2 : Pos} (hc : X.calm = true) (hg : Gl X "list") (hm : X.mg "list" = none) (hg2 : Gl X "reversed") (hm2 : X.mg "reversed" = none) (he : PE X e te)
    (hs : starEach [e] X.env = (false, eval e X.env) :: starEach [] X.env := by rfl)
    (hs2 : starEach [.Call (.Name "reversed" p2) [e] [] pos2] X.env = (false, eval (.Call (.Name "reversed" p2) [e] [] pos2) X.env) :: starEach [] X.env := by rfl) :
    PE X (.Call (.Name "list" p) [.Call (.Name "reversed" p2) [e] [] pos2] [] pos) (tLr X.K te) := by
  refine ⟨fun pins s σ H Q I h => ?_⟩
  refine Call_ (ld_blt I hg hm boot_list (PyProof.Rows.callWith_type1 (args_cons (Call_ (ld_blt I hg2 hm2 PyProof.Rows.boot_reversed (PyProof.Rows.callWith_type1 (args_cons (thn (he.run pins s σ H _ I h) fun u s1 ⟨v, H1, I1, r1, q1⟩ => args_nil ?_) hs) hs rfl))) hs2) hs2 rfl))
  obtain ⟨a, xs, ev, hq, q⟩ := q1
  subst ev
  obtain rfl : u = Value.ref a := r1
  obtain ⟨its, rv, p', hz⟩ := I1.list hq
  refine call_reversed_list p'.isList (args_nil ?_)
  have I2 : Inv X pins σ H1 { s1 with heap := s1.heap.push (revObj a ((its.toArray.size : Int) - 1)) } := I1.kept (t' := s1.toks) fun b o e => Heap.get?_push_of_some _ e
  have hl := p'.isList
  obtain ⟨ol, hol, _⟩ := id hl
  have hne : a ≠ s1.heap.objs.size := Nat.ne_of_lt (Heap.lt_size hol)
  have hn : its.toArray.size ≤ sizeLine := by rw [List.size_toArray, ← rv.length]; exact hz
  refine call_rev (s := { s1 with heap := s1.heap.push (revObj a ((its.toArray.size : Int) - 1)) }) (I1.ok.hd hc) ⟨_, Heap.get?_push_size _ rfl, rfl, rfl⟩ (hl.push _) hne hn fun h' tk acc c hk hS hb => ?_
  have old : ∀ b o, s1.heap.get? b = some o → h'.get? b = some o := fun b o e => hk b o (Nat.ne_of_lt (Heap.lt_size e)) (Heap.get?_push_of_some _ e)
  have up : s1.heap.objs.size ≤ (s1.heap.push (revObj a ((its.toArray.size : Int) - 1))).objs.size := by rw [Heap.size_push]; exact Nat.le_succ _
  refine ⟨.ref _, upd H1 _ (.lst xs.reverse), I1.laid (t' := tk) old up (show ObjOk X.prog X.w _ _ _ (.lst xs.reverse) from ⟨by rw [List.length_reverse]; exact hz, acc.toList, c, vals_rev rv hb, ?_⟩), rfl, q _ (I1.hok.fresh up)⟩
  rw [Array.toArray_toList]
  exact hS
/-- t + u inside a comprehension -/
theorem op_catAK {K0 : PySem.W.Frag} (h : X.K = K0) : OpR X (binaryOp .Add) (rCatA K0) := h ▸ op_catA
end
end Lr
namespace Cm
open PySem PySem.Spec PyProof.Rows L2 Bx TL Dx Zx
theorem lex_shift (e r : Nat → Bool) (z : Bool) : ∀ (k i : Nat), Ob.lexAt (fun j => e (j + 1)) (fun j => r (j + 1)) z i k = Ob.lexAt e r z (i + 1) k
  | 0, _ => rfl
  | k + 1, i => by
    rw [Ob.lexAt_succ, Ob.lexAt_succ, lex_shift e r z k (i + 1)]
theorem lex_ge : ∀ ns ms : List Int, Ob.lexAt (fun j => decide (ns.getD j 0 = ms.getD j 0)) (fun j => decide (ms.getD j 0 ≤ ns.getD j 0)) (decide (ns.length ≥ ms.length)) 0 (min ns.length ms.length) = !decide (ns < ms)
  | [], [] => by
    show decide (0 ≥ 0) = _
    have h : ¬ ([] : List Int) < [] := List.lt_irrefl _
    rw [decide_eq_false h]
    rfl
  | [], m :: ms => by
    show decide (0 ≥ ms.length + 1) = _
    rw [decide_eq_false (by omega), decide_eq_true (List.nil_lt_cons m ms)]
    rfl
  | n :: ns, [] => by
    show decide (ns.length + 1 ≥ 0) = _
    rw [decide_eq_true (by omega), decide_eq_false (by exact List.not_lt_nil _)]
    rfl
  | n :: ns, m :: ms => by
    have ih := lex_ge ns ms
    rw [List.length_cons, List.length_cons, Nat.succ_min_succ, Ob.lexAt_succ]
    have z := lex_shift (fun j => decide ((n :: ns).getD j 0 = (m :: ms).getD j 0)) (fun j => decide ((m :: ms).getD j 0 ≤ (n :: ns).getD j 0)) (decide (ns.length + 1 ≥ ms.length + 1)) (min ns.length ms.length) 0
    rw [← z]
    have e2 : decide (ns.length + 1 ≥ ms.length + 1) = decide (ns.length ≥ ms.length) := by
      by_cases c : ns.length ≥ ms.length
      · rw [decide_eq_true c, decide_eq_true (by omega)]
      · rw [decide_eq_false c, decide_eq_false (by omega)]
    rw [e2]
    show (if decide (n = m) = true then Ob.lexAt (fun j => decide (ns.getD j 0 = ms.getD j 0)) (fun j => decide (ms.getD j 0 ≤ ns.getD j 0)) _ 0 _ else decide (m ≤ n)) = _
    rw [ih]
    by_cases c : n = m
    · subst c
      rw [if_pos (by simp)]
      by_cases d : ns < ms
      · rw [decide_eq_true d, decide_eq_true (List.cons_lt_cons_iff.mpr (.inr ⟨rfl, d⟩))]
      · rw [decide_eq_false d, decide_eq_false fun h => (List.cons_lt_cons_iff.mp h).elim (fun h => absurd h (by omega)) fun h => d h.2]
    · rw [if_neg (by simpa using c)]
      by_cases d : m ≤ n
      · rw [decide_eq_true d, decide_eq_false fun h => (List.cons_lt_cons_iff.mp h).elim (fun h => absurd h (by omega)) fun h => c h.1]
        rfl
      · rw [decide_eq_false d, decide_eq_true (List.cons_lt_cons_iff.mpr (.inl (by omega)))]
        rfl
def rGeT (K : PySem.W.Frag) : R2 := fun x y H Q => ∃ (a b : Addr) (ns ms : List Int), x = .ref a ∧ y = .ref b ∧ SqT K H a (ns.map V.int) ∧ SqT K H b (ms.map V.int) ∧ Q (.bl (!decide (ns < ms))) H
theorem op_geT {X : Cx} {K : PySem.W.Frag} (hk : X.K = K) (hu : X.A.units < cLine) : OpR X (compareOp .GtE) (rGeT K) := by
  subst hk
  intro pins s σ H x y v u Q I rx ry h
  obtain ⟨a, b, ns, ms, rfl, rfl, ha, hb, q⟩ := h
  cases rx
  cases ry
  obtain ⟨its, r1, p1, _⟩ := I.tuple ha
  obtain ⟨its2, r2, p2, _⟩ := I.tuple hb
  have i1 : IntsAre its ns := Vals.ints r1
  have i2 : IntsAre its2 ms := Vals.ints r2
  have e1 : its.toArray.size = ns.length := by rw [List.size_toArray]; exact i1.length
  have e2 : its2.toArray.size = ms.length := by rw [List.size_toArray]; exact i2.length
  have at1 : ∀ j (h1 : j < its.toArray.size), ∃ t, its.toArray[j] = .int (ns.getD j 0) t := fun j h1 => PyProof.Rows.IntsAre.int_at i1 _ _ (by simp at h1; simp [h1])
  have at2 : ∀ j (h1 : j < its2.toArray.size), ∃ t, its2.toArray[j] = .int (ms.getD j 0) t := fun j h1 => PyProof.Rows.IntsAre.int_at i2 _ _ (by simp at h1; simp [h1])
  have R := Ob.RcOp.tuples_ge (A := X.A) (s := s) (e := fun j => decide (ns.getD j 0 = ms.getD j 0)) (r := fun j => decide (ms.getD j 0 ≤ ns.getD j 0)) p1 p2 hu (fun j h1 h2 => by
    obtain ⟨t, et⟩ := at1 j h1
    obtain ⟨t', et'⟩ := at2 j h2
    rw [et, et']
    have z : (ns.getD j 0 == ms.getD j 0) = decide (ns.getD j 0 = ms.getD j 0) := by
      by_cases q : ns.getD j 0 = ms.getD j 0
      · rw [decide_eq_true q]; exact beq_iff_eq.mpr q
      · rw [decide_eq_false q]; exact beq_eq_false_iff_ne.mpr q
    rw [← z]
    exact SeqAt.EqAt.int_int _ _ _ _) (fun j h1 h2 _ => by
    obtain ⟨t, et⟩ := at1 j h1
    obtain ⟨t', et'⟩ := at2 j h2
    rw [et, et']
    exact Ob.RcOp.ge_int _ _ _ _)
  rw [e1, e2, lex_ge] at R
  have z : wpAny (model X.prog X.w) X.A (compareOp .GtE (.ref a) (.ref b)) (EP X pins σ Q) X.xe s := R X.prog X.w X.xe (EP X pins σ Q) ⟨.bl _, H, I, rfl, q⟩
  exact z
theorem call_or {X : Cx} {f : Value} {r1 r2 : List V → Hp → VK → Prop} (h1 : CallR X f r1) (h2 : CallR X f r2) : CallR X f (fun xs H Q => r1 xs H Q ∨ r2 xs H Q) := by
  intro pins s σ H xs us Q I r h
  rcases h with h | h
  · exact h1 pins s σ H xs us Q I r h
  · exact h2 pins s σ H xs us Q I r h
end Cm
/-! Calls that may raise, with a wish that knows the slots: C(..), o.m(..), f(..); C held by a local; list.count of texts. -/
namespace Px
open PySem PySem.Spec PyProof.Rows L2 Bx TL Dx Zx Ow
theorem passN {X : Cx} : Passes (L2.CX X.prog X.w) X E0 := fun _ _ _ _ _ _ _ ⟨_, _, _, _, _, _, _, _, _, _, _, _, z⟩ => z.elim
/-- `C(..)`, whose `__init__` may raise -/
structure MakX (P : Program) (w : World) (K : PySem.W.Frag) (mg : Str → Option Value) (base : Heap) (x : Str) (C : Addr) (k : Nat) (ps : List Str) (sp : Sp) : Prop where
  ex : ∃ (f : Addr) (fd : FuncData), Mk K C f ∧ FnOk P w K mg base (L2.CX P w) k f fd ps sp ∧ mg x = some (.ref C) ∧ Binds K fd ps []
structure MthX (P : Program) (w : World) (K : PySem.W.Frag) (mg : Str → Option Value) (base : Heap) (C : Addr) (m : Str) (k : Nat) (ps : List Str) (sp : Sp) : Prop where
  ex : ∃ (f : Addr) (fd : FuncData), Cls K C ∧ Meth K C m f ∧ FnOk P w K mg base (L2.CX P w) k f fd ps sp ∧ Binds K fd ps []
structure CalE (P : Program) (w : World) (K : PySem.W.Frag) (mg : Str → Option Value) (base : Heap) (x : Str) (k : Nat) (ps : List Str) (sp : Sp) : Prop where
  ex : ∃ (f : Addr) (fd : FuncData), FnOk P w K mg base (L2.CX P w) k f fd ps sp ∧ mg x = some (.ref f) ∧ PySem.W.keepIn K (.ref f) = true ∧ Binds K fd ps []
section
variable {X : Cx} {x : Str} {k : Nat} {ps : List Str} {sp : Sp} {e : Expr} {es : List Expr} {t : TA} {p pos : Pos} {C : Addr} {W : WX}
theorem run_makS {pins : List (Addr × Obj)} {σ : L2.St} {H : Hp} {s : Shared} {Q : VK} {E : XK} {us : List Value} {vs : List V} {f : Addr} {fd : FuncData} (M : Mk X.K C f) (F : FnOk X.prog X.w X.K X.mg X.base (L2.CX X.prog X.w) k f fd ps sp) (hr : Room (k + 1) X.A) (b : Binds X.K fd ps [])
    (hx : PassesAt (L2.CX X.prog X.w) X σ E) (I : Inv X pins σ H s) (rv : Vals vs us) (h : ∀ y dy, H y = none → H dy = none → dy ≠ y → sp (.ref y :: vs) (upd (upd H dy (.own y)) y (.ins C dy [])) (fun v G => v = .non ∧ Q (.ref y) G) E) :
    wpAny (model X.prog X.w) X.A (call (.ref C) us) (EP X pins σ Q) X.xe s := by
  have n1 := I.hok.fresh (Nat.le_refl s.heap.objs.size)
  have n2 := I.hok.fresh (Nat.le_succ s.heap.objs.size)
  have g := h _ _ n2 n1 (Nat.ne_of_lt (Nat.lt_succ_self s.heap.objs.size))
  have J := Inv.made (C := C) I
  have rs : Vals (V.ref (s.heap.objs.size + 1) :: vs) (Value.ref (s.heap.objs.size + 1) :: us) := .cons rfl rv
  have ln : (Value.ref (s.heap.objs.size + 1) :: us).length = ps.length := rs.length.symm.trans (F.len _ _ _ _ g)
  have bd := b _ (Value.ref (s.heap.objs.size + 1) :: us) J.kIn (by rw [List.append_nil]; exact ln)
  rw [List.append_nil] at bd
  refine wpAny_call (make_map (f := f) I.kIn M.makes M.init (beq_iff_eq.mp M.fn) (codeAny_mono (F.run _ X.stack _ _ _ _ _ _ E (hr.make C us []) (J.env0.make C us []) bd rs g) fun res s' back => ?_))
  match res, back with
  | .error er, back => exact hx pins _ _ er s' J back
  | .ok (.ret u), back =>
    obtain ⟨v, G, J2, r2, e2, q⟩ := J.after back
    subst e2
    exact ⟨r2, .ref (s.heap.objs.size + 1), G, J2, rfl, q⟩
  | .ok .next, back => exact back.elim
  | .ok .brk, back => exact back.elim
  | .ok .cont, back => exact back.elim
def tMakX (C : Addr) (sp : Sp) (W : WX) (t : TA) : TE := fun σ H Q => t σ H fun vs H1 => ∀ y dy, H1 y = none → H1 dy = none → dy ≠ y → sp (.ref y :: vs) (upd (upd H1 dy (.own y)) y (.ins C dy [])) (fun v G => v = .non ∧ Q (.ref y) G) (WE W σ)
theorem pe_makX (c : MakX X.prog X.w X.K X.mg X.base x C k ps sp) (tk : Takes X W) (hr : Room (k + 1) X.A) (ha : PA X (e :: es) t) (hg : Gl X x := by rfl) (hdb : (x == ("__debug__" : Str)) = false := by decide)
    (he : starEach (e :: es) X.env = (false, eval e X.env) :: starEach es X.env := by rfl) (hpl : (backTo pos (starEach es X.env)).any (·.1) = false := by rfl) : PE X (.Call (.Name x p) (e :: es) [] pos) (tMakX C sp W t) := by
  obtain ⟨f, fd, M, ok, g, b⟩ := c.ex
  refine ⟨fun pins s σ H Q I h => wpAny_Call_Name_kw (ld_glob I hg g ?_ hdb)⟩
  exact PySem.W.callWith_K (h₀ := X.base) I.ok.mod.kin M.kp (thn (ha.run pos pins s σ H _ I h) fun us s1 ⟨vs, H1, I1, rv, q⟩ => ⟨I1.kIn, run_makS M ok hr b (passAt tk σ) I1 rv q⟩) he hpl
theorem pe_makN (c : MakX X.prog X.w X.K X.mg X.base x C k ps sp) (hr : Room (k + 1) X.A) (ha : PA X (e :: es) t) (hg : Gl X x := by rfl) (hdb : (x == ("__debug__" : Str)) = false := by decide)
    (he : starEach (e :: es) X.env = (false, eval e X.env) :: starEach es X.env := by rfl) (hpl : (backTo pos (starEach es X.env)).any (·.1) = false := by rfl) : PE X (.Call (.Name x p) (e :: es) [] pos) (tMake C sp [] E0 t) := by
  obtain ⟨f, fd, M, ok, g, b⟩ := c.ex
  exact pe_make (E := E0) M ok hr hg g b .nil passN ha hdb he hpl (p := p)
/-- the class in a slot: `cls(..)` -/
def tMakL (i : Nat) (C : Addr) (sp : Sp) (t : TA) : TE := fun σ H Q => σ[i]? = some (some (.ref C)) ∧ tMake C sp [] E0 t σ H Q
theorem pe_makL {i : Nat} {y : Str} (c : MakX X.prog X.w X.K X.mg X.base x C k ps sp) (hr : Room (k + 1) X.A) (hN : X.N[i]? = some y) (hv : Vis X.env.scope y) (ha : PA X (e :: es) t) (hdb : (y == ("__debug__" : Str)) = false := by decide) (hcd : (y == ("__classdict__" : Str)) = false := by decide)
    (he : starEach (e :: es) X.env = (false, eval e X.env) :: starEach es X.env := by rfl) (hpl : (backTo pos (starEach es X.env)).any (·.1) = false := by rfl) : PE X (.Call (.Name y p) (e :: es) [] pos) (tMakL i C sp t) := by
  obtain ⟨f, fd, M, ok, g, b⟩ := c.ex
  refine ⟨fun pins s σ H Q I h => ?_⟩
  obtain ⟨h1, h2⟩ := h
  refine wpAny_Call_Name_kw (thn ((pe_var (pos := p) hN hv hdb hcd).run pins s σ H (fun v G => v = .ref C ∧ G = H) I ⟨.ref C, h1, rfl, rfl⟩) fun u s1 ⟨v, G, I1, r1, q1⟩ => ?_)
  obtain ⟨rfl, rfl⟩ := q1
  cases r1
  exact PySem.W.callWith_K (h₀ := X.base) I.ok.mod.kin M.kp (thn (ha.run pos pins s1 σ _ _ I1 h2) fun us s2 ⟨vs, H2, I2, rv, q⟩ => ⟨I2.kIn, run_make M ok hr b .nil passN I2 rv q⟩) he hpl
def tMthX (C : Addr) (m : Str) (sp : Sp) (W : WX) (ta : TE) (t : TA) : TE := fun σ H Q => ta σ H fun v H1 => ∃ a dx fs, v = .ref a ∧ H1 a = some (.ins C dx fs) ∧ fs.lookup m = none ∧ t σ H1 fun vs H2 => sp (v :: vs) H2 Q (WE W σ)
theorem pe_mthX {m : Str} {o : Expr} {to : TE} {apos : Pos} {pl : Sem Bool} (c : MthX X.prog X.w X.K X.mg X.base C m k ps sp) (tk : Takes X W) (hr : Room k X.A) (ho : PE X o to) (ha : PA X (e :: es) t)
    (hst : starEach (e :: es) X.env = (false, eval e X.env) :: starEach es X.env := by rfl) (hpl : (backTo pos (starEach es X.env)).any (·.1) = false := by rfl)
    (ht : eval (.Call (.Attribute o m apos) (e :: es) [] pos) X.env = (do
      let ov ← eval o X.env
      standAt apos.atName
      let (f, first) ← holding [ov] (getMethod ov m pl)
      callWith pos f first (backTo pos (starEach (e :: es) X.env)) (backToKw pos (keywordEach [] X.env))) := by rfl) : PE X (.Call (.Attribute o m apos) (e :: es) [] pos) (tMthX C m sp W to t) := by
  obtain ⟨f, fd, cl, mt, ok, b⟩ := c.ex
  refine ⟨fun pins s σ H Q I h => PySem.W.methodCall_KW (pl := pl) (thn (ho.run pins s σ H _ I h) fun u s1 ⟨v, H1, I1, rx, a, dx, fs, ev, ea, l, q⟩ => ?_) ht⟩
  subst ev
  cases rx
  refine getmeth_ok I1 ea cl mt l (PySem.W.callWith_K (first := [.ref a]) (h₀ := X.base) I.ok.mod.kin mt.kp (thn (ha.run pos pins s1 σ H1 _ I1 q) fun us s2 ⟨vs, H2, I2, rv, q2⟩ => ⟨I2.kIn, ?_⟩) hst hpl)
  exact run_fnS (E := fun σ => WE W σ) (us := .ref a :: us) (vs := .ref a :: vs) ok hr b (passAt tk σ) I2 (.cons rfl rv) q2
theorem pe_calE (c : CalE X.prog X.w X.K X.mg X.base x k ps sp) (tk : Takes X W) (hr : Room k X.A) (ha : PA X (e :: es) t) (hg : Gl X x := by rfl) (hdb : (x == ("__debug__" : Str)) = false := by decide)
    (he : starEach (e :: es) X.env = (false, eval e X.env) :: starEach es X.env := by rfl) (hpl : (backTo pos (starEach es X.env)).any (·.1) = false := by rfl) : PE X (.Call (.Name x p) (e :: es) [] pos) (tCallS sp (fun σ => WE W σ) t) := by
  obtain ⟨f, fd, ok, g, kp, b⟩ := c.ex
  exact pe_callS ok hr hg g kp b (fun σ => passAt tk σ) ha hdb he hpl (p := p)
end
/-! ### xs.count(x) of texts -/
section
variable {X : Cx}
def rCntS (K : PySem.W.Frag) : V → List V → Hp → VK → Prop := fun x xs H Q => ∃ (p : Addr) (ns : List Str) (z : Str), x = .ref p ∧ xs = [.str z] ∧ SqL K H p (ns.map V.str) ∧ Q (.int (ns.count z : Nat)) H
theorem plain_strs : ∀ ns : List Str, PyData.plainAll (ns.map PyData.str) = true
  | [] => rfl
  | n :: ns => by
    show (PyData.plain (PyData.str n) && PyData.plainAll (ns.map PyData.str)) = true
    rw [plain_strs ns]
    rfl
theorem depth_strs : ∀ ns : List Str, PyData.depthAll (ns.map PyData.str) ≤ 1
  | [] => Nat.zero_le 1
  | n :: ns => by
    show max (PyData.depth (PyData.str n)) (PyData.depthAll (ns.map PyData.str)) ≤ 1
    exact Nat.max_le.mpr ⟨by show 0 ≤ 1; omega, depth_strs ns⟩
theorem cnt_strs (z : Str) : ∀ ns : List Str, (ns.map PyData.str).countP (fun y => PyData.eqv y (.str z)) = ns.count z
  | [] => rfl
  | n :: ns => by
    rw [List.map_cons, List.countP_cons, List.count_cons, cnt_strs z ns]
    rfl
theorem mt_lcountS (hu : X.A.units + 65 < cLine) : MtR X "list.count" (rCntS X.K) := by
  intro pins s σ H x xs v us Q I rx rxs h
  obtain ⟨p, ns, z, rfl, rfl, hs, q⟩ := h
  cases rx
  obtain ⟨u, rfl, ru⟩ := rxs.one
  obtain ⟨t, rfl⟩ := ru
  obtain ⟨its, rv, pl, _⟩ := I.list hs
  obtain ⟨as, ra⟩ := Dp.readsAll I _ _ its (dp_strs ns) rv
  refine SeqAt.count_list_data pl.isList (by simpa using ra) (Reads.str z t) (plain_strs ns) rfl ?_ ?_
  · have := depth_strs ns
    have := Nat.min_le_left (PyData.depthAll (ns.map PyData.str)) (PyData.depth (.str z))
    omega
  · rw [cnt_strs]
    exact ⟨.int (ns.count z : Nat), H, I.tok _, ⟨s.toks, rfl⟩, q⟩
end
end Px
/-! A call within a comprehension that raises: the exception leaves the comprehension and the def. -/
namespace Rc
open PySem PySem.Spec PyProof.Rows L2
theorem ff_base {h B B' : Heap} (k : ∀ b, B.get? b = none → B'.get? b = none) : ∀ {l : List Env}, h.FunFrames B l → h.FunFrames B' l
  | [], _ => trivial
  | _ :: _, ⟨hk, ⟨L, o, hf, hb, ho, hd⟩, hr⟩ => ⟨hk, ⟨L, o, hf, k L hb, ho, hd⟩, ff_base k hr⟩
theorem hide_none {B : Heap} {C b : Addr} (h : B.get? b = none) : (PySem.W.hideAll B [C]).get? b = none := by
  cases e : (PySem.W.hideAll B [C]).get? b with
  | none => rfl
  | some o => rw [PySem.W.of_hideAll _ e] at h; cases h
/-- the block C is let go: the exception is held as before -/
theorem held_hide {B h h2 : Heap} {l : List Env} {e C L : Addr} {Z : Obj → Prop} {m m2 : Str → Option Value} (hh : HandSPX.HeldZ B l e Z L h) (hn : h.Ns C m) (hn2 : h2.Ns C m2) (sb : Heap.SameBut C h h2) : HandSPX.HeldZ (PySem.W.hideAll B [C]) l e Z L h2 := by
  obtain ⟨k, en, fr, oe, vs, T, oT, ts, he, hz, hd, h1, hnT, hTe, hT, hdT, h3⟩ := hh
  obtain ⟨oC, es, ep, hoC, hdC, _⟩ := hn
  have neE : e ≠ C := fun q => by
    rw [q, hoC] at he
    cases he
    rw [hdC] at hd
    cases hd
  have neT : T ≠ C := fun q => by
    rw [q, hoC] at hT
    cases hT
    rw [hdC] at hdT
    cases hdT
  refine ⟨fun b o hb => ?_, hide_none en, Heap.FunFrames.sameBut sb hn2 (ff_base (fun b => hide_none) fr), oe, vs, T, oT, ts, (sb.2 e neE).trans he, hz, hd, h1, hide_none hnT, hTe, (sb.2 T neT).trans hT, hdT, h3⟩
  have nb : b ≠ C := fun q => by
    rw [q, PySem.W.hideAll_none [C] (List.mem_singleton.mpr rfl)] at hb
    cases hb
  exact (sb.2 b nb).trans (k b o (PySem.W.of_hideAll _ hb))
/-- a comprehension's block, with its own wish about exceptions -/
abbrev blkX (X : Cx) (s : Shared) (H : Hp) (scope : Scope) (ce : Env) (fp : List Addr) (xb : Value → Shared → Prop) : Cx := { X.blk s H scope ce fp with xe := xb }
section
variable {X : Cx} {W : WX} {pins pinsb : List (Addr × Obj)} {σ σb : L2.St} {H3 H5 : Hp} {s3 s5 s' : Shared} {scope : Scope} {ce : Env} {fp : List Addr} {xb : Value → Shared → Prop} {E : XK} {u : Value}
theorem comp_out (hs : X.stack = X.env :: X.outer) (hf : X.env.frame = some X.env.locals) (tk : Takes X W) (I3 : Inv X pins σ H3 s3) (hcf : ce.frame = X.env.frame) (hcL : s3.heap.objs.size ≤ ce.locals) (f3 : ∀ b ∈ fp, FpOk X pins H3 b)
    (Ib : Inv (blkX X s3 H3 scope ce fp xb) pinsb σb H5 s5) (c : L2.CX X.prog X.w X.stack H5 s5 E u s') (hW : ∀ cls d H', E cls d H' → W cls d σ H') :
    notedBy (model X.prog X.w) X.A ce (CompFails (model X.prog X.w) X.A X.xe ce) u s' := by
  obtain ⟨a, B, H', cls, d, rfl, fl, hok, ub, na, os, ag, hE⟩ := c
  have hfr : X.A.frames = some (X.env :: X.outer) := by rw [I3.ok.frames, hs]
  obtain ⟨m5, hn5, _⟩ := Ib.loc
  have hn5 : s5.heap.Ns ce.locals m5 := hn5
  have nC5 : H5 ce.locals = none := Ib.free
  obtain ⟨oC, es, ep, hoC, hdC, rC⟩ := id hn5
  have nC' : H' ce.locals = none := ub.free _ _ hoC nC5
  have fC := I3.fpOk (H' := H') hcL nC'
  have cF : ce.locals ∉ frs X.stack := fun hm => by
    rcases List.mem_cons.mp (I3.stkSub _ hm) with e | e
    · exact fC.2.1 e
    · exact fC.2.2.1 e
  have BC : B.get? ce.locals = some oC := ub.keep _ _ hoC nC5 cF
  have hn' : s'.heap.Ns ce.locals m5 := ⟨oC, es, ep, fl.1 _ _ BC, hdC, rC⟩
  have st : B.StaysIn s'.heap := fl.1
  show wpAny _ _ (noteFrame (.ref a) ce) _ _ s'
  rw [noteFrame_env _ hcf]
  have fl2 := fl
  rw [hs] at fl2
  refine HandSPX.looks_onZ Zc.steady hfr hf fl2 fun h1 hh up1 => ?_
  have hn1 : h1.Ns ce.locals m5 := Heap.UpToSlots.ns up1 hn'
  refine ⟨m5, hn1, fun h2 m2 hn2 sb2 => ?_⟩
  have hh2 := held_hide hh hn1 hn2 sb2
  obtain ⟨k2, en2, fr2, oe, vs, T, oT, ts, he, hz, hd, h1', hnT, hTe, hT, hdT, hT3⟩ := id hh2
  unfold PySem.passOn
  refine wpAny_bind (wpAny_field he hd h1' ?_)
  rw [if_neg (show ¬ ((Value.ref T == Value.none) = true) from by simp)]
  rw [hcf, hf]
  refine wpAny_bind (HandSPX.setFlight_onZ hh2 fun h3 hh3 up3 => wpAny_throw ?_)
  obtain ⟨G, g1, g2⟩ := restrict s'.heap fun b => (B.get? b).isSome || decide (b ∈ frs X.stack)
  have gB : ∀ b o, B.get? b = some o → G.get? b = some o := fun b o e => by
    rw [g1 b (by simp [e])]
    exact st b o e
  have gF : ∀ b, b ∈ frs X.stack → G.get? b = s'.heap.get? b := fun b hb => g1 b (by simp [hb])
  have og : ∀ b o, G.get? b = some o → s'.heap.get? b = some o ∧ ((B.get? b).isSome = true ∨ b ∈ frs X.stack) := fun b o e => by
    cases q : ((B.get? b).isSome || decide (b ∈ frs X.stack)) with
    | false => rw [g2 b q] at e; cases e
    | true =>
      rw [g1 b q] at e
      exact ⟨e, by simpa [Bool.or_eq_true] using q⟩
  have IG : Inv (blkX X s3 H3 scope ce fp xb) pinsb σb H' { s5 with heap := G, gens := s'.gens, drawn := s'.drawn, toks := s'.toks } := by
    refine Ib.call (ch := []) ⟨fun b o e n hb _ => gB b o (ub.keep b o e n hb), fun b o e n hb _ => ?_, fun b o e n _ => ub.free b o e n, fun b o e _ => ?_, ub.tups, ub.frzs, ub.tbls⟩ (hok.kept gB) ag (fun _ z => nomatch z)
    · obtain ⟨sl, q⟩ := ub.slot b o e hb
      exact ⟨sl, by rw [gF b hb]; exact q⟩
    · by_cases hb : b ∈ frs X.stack
      · obtain ⟨sl, q⟩ := ub.slot b o e hb
        exact ⟨_, by rw [gF b hb]; exact q⟩
      · obtain ⟨o', q⟩ := ub.there b o e hb
        exact ⟨o', gB b o' q⟩
  have I7 : Inv X pins σ H' { s5 with heap := G, gens := s'.gens, drawn := s'.drawn, toks := s'.toks } := I3.call' (ch := fp) IG.os IG.base IG.hok IG.bare fun b hb => ⟨(f3 b hb).2.2.2.1, (f3 b hb).2.1, (f3 b hb).2.2.2.2.1, (f3 b hb).2.2.2.2.2⟩
  obtain ⟨f0, f1, f2, f3', f4, f5⟩ := fC
  have nG : ∀ b o, (PySem.W.hideAll G [ce.locals]).get? b = some o → b ≠ ce.locals ∧ G.get? b = some o := fun b o e => by
    refine ⟨fun q => ?_, PySem.W.of_hideAll _ e⟩
    rw [q, PySem.W.hideAll_none [ce.locals] (List.mem_singleton.mpr rfl)] at e
    cases e
  have I8 := I7.turned (t' := s'.toks) (h' := PySem.W.hideAll G [ce.locals]) (fun b o hb e => PySem.W.hideAll_get _ e fun q => hb (List.mem_singleton.mp q)) f0 f1 f3' f4 f5
  refine tk _ _ ⟨a, PySem.W.hideAll B [ce.locals], _, pins, σ, H', cls, d, rfl, I8, fun b o e hb => ?_, fun b o e hnf => ?_, .inr (.inr (by rw [hs]; exact hh3)), na, os, ag, hW _ _ _ hE⟩
  · obtain ⟨n1, e1⟩ := nG b o e
    refine PySem.W.hideAll_get _ ?_ fun q => n1 (List.mem_singleton.mp q)
    obtain ⟨e2, h⟩ := og b o e1
    rcases h with h | h
    · obtain ⟨o', q⟩ := Option.isSome_iff_exists.mp h
      have z := st b o' q
      rw [e2] at z; cases z
      exact q
    · exact absurd h hb
  · obtain ⟨n1, e1⟩ := nG b o e
    obtain ⟨sl1, x1⟩ := up1 b o (og b o e1).1 hnf
    have x2 := (sb2.2 b n1).trans x1
    obtain ⟨sl3, x3⟩ := up3 b _ x2 hnf
    exact ⟨sl3, x3⟩
/-- the wish about exceptions is no part of the state -/
theorem inv_xe {Y : Cx} {pn : List (Addr × Obj)} {τ : L2.St} {G : Hp} {r : Shared} {f : Value → Shared → Prop} (I : Inv Y pn τ G r) : Inv { Y with xe := f } pn τ G r :=
  ⟨⟨I.ok.mod, I.ok.kind, I.ok.glob, I.ok.blt, I.ok.above, I.ok.inj, I.ok.has, I.ok.cab, I.ok.hd, I.ok.frames, I.ok.stk, I.ok.exf, I.ok.bs, I.ok.bsz, I.ok.noex, I.ok.exfs, I.ok.funs, I.ok.frf⟩, I.os, I.bare, I.base, I.loc, I.cell, I.free, I.freeC, I.pin, I.hok, I.len⟩
/-- what a block's element owes, whatever is wished about its exceptions as long as a call's are taken -/
def Elt (X : Cx) (scope : Scope) (elt : Expr) (te : (L2.St → XK) → TE) : Prop := ∀ (s : Shared) (H : Hp) (C : Addr) (cl : List (Str × Addr)) (fp : List Addr) (xb : Value → Shared → Prop) (E : L2.St → XK),
  (∀ σ, PassesAt (L2.CX X.prog X.w) (blkX X s H scope (compEnvC scope cl C X.env) fp xb) σ (E σ)) → PE (blkX X s H scope (compEnvC scope cl C X.env) fp xb) elt (te E)
def tLcX (W : WX) (wi : TI) (g : TG) (tt : TT) (te : (L2.St → XK) → TE) (vs : List Nat) : TE := fun σ H Q => tLc wi g tt (te fun _ => WE W σ) vs σ H Q
theorem lcX_core {pins : List (Addr × Obj)} {s : Shared} {σ : L2.St} {H : Hp} {Q : VK} {use : Option (Value → Sem Unit)} {Qf : Value → Shared → Prop} {pos' : Pos} {elt tg iter : Expr} {ifs : List Expr} {own : List (Str × Nat)} {pos : Pos} {wi : TI} {g : TG} {tt : TT} {te : (L2.St → XK) → TE} (hs : X.stack = X.env :: X.outer) (hf : X.env.frame = some X.env.locals) (tk : Takes X W) (hc : X.calm = true) (hN : X.N.Nodup) (I : Inv X pins σ H s) (hi : PI X tg iter wi) (ok : BlkOk X.N X.env.scope scope own)
    (hg : ∀ (s : Shared) (H : Hp) (C : Addr) (cl : List (Str × Addr)) (fp : List Addr), PG (X.blk s H scope (compEnvC scope cl C X.env) fp) tg g) (ht : ∀ (s : Shared) (H : Hp) (C : Addr) (cl : List (Str × Addr)) (fp : List Addr), PTs (X.blk s H scope (compEnvC scope cl C X.env) fp) ifs tt)
    (he : Elt X scope elt te) (hsF : ∀ x, foldedSetIterable iter X.env x = pure x) (h : tLcX W wi g tt te (own.map (·.2)) σ H Q)
    (hRR : ∀ (D : Addr) (ce : Env) (s' : Shared) (m : Str → Option Value) (H' : Hp), Inv X pins σ H' s' → Q (.ref D) H' → s'.heap.Ns ce.locals m → FpOk X pins H' ce.locals → compEnds (model X.prog X.w) X.A X.xe use Qf (.ref D) ce (.ok .next) s') :
    wpAny (model X.prog X.w) X.A (comprehension (.ListComp elt [⟨tg, iter, ifs, 0⟩] scope pos) scope X.env pos' (newList []) false (eval iter X.env) use) Qf X.xe s := by
  have hfree : ∀ y ∈ scope.names, y.2 = .free → ∃ c, X.env.cells.lookup y.1 = some c := fun y hy e => (ok.free y hy e).elim (fun k => I.ok.has _ (.inl k)) fun k => I.ok.has _ (.inr k)
  refine comprehension_at (use := use) rfl hsF (closure_ok hfree) ok.kind (fun y hy e => by rw [ok.uniq y hy, e]) (thn (hi.run pins s σ H _ I h) fun xv s1 hx => thn hx fun itv s2 h2 => ?_)
  obtain ⟨it, fp, tn, J, H2, rfl, I2, T, st2, f2, q⟩ := h2
  refine wpAny_newObj_type (newEnv_comp ?_) (by show 0 ≤ sizeLine; decide)
  obtain ⟨D, hD⟩ : ∃ D, s2.heap.objs.size = D := ⟨_, rfl⟩
  rw [hD]
  obtain ⟨Wk, ⟨m0, w0⟩, turn⟩ := q D (I2.hok.fresh (Nat.le_of_eq hD))
  -- the list stands at D
  have I3 : Inv X pins σ (upd H2 D (.lst [])) { s2 with heap := s2.heap.push { cls := .type "list", data := .seq ([] : List Value).toArray } } :=
    I2.laid (t' := s2.toks) (fun b o e => Heap.get?_push_of_some _ e) (Nat.le_of_eq hD) ⟨Nat.zero_le _, [], 0, .nil, by rw [← hD]; exact Heap.get?_push_size _ rfl⟩
  have f3 : ∀ b ∈ fp, FpOk X pins (upd H2 D (.lst [])) b ∧ b < (s2.heap.push { cls := .type "list", data := .seq ([] : List Value).toArray }).objs.size := fun b hb => by
    obtain ⟨o, e, _⟩ := T.obj _ _ st2 b hb
    have hlt := Heap.lt_size e
    exact ⟨⟨by rw [upd_ne (by rw [← hD]; exact Nat.ne_of_lt hlt)]; exact (f2 b hb).1, (f2 b hb).2⟩, by rw [Heap.size_push]; exact Nat.lt_succ_of_lt hlt⟩
  have st3 : tn 0 (s2.heap.push { cls := .type "list", data := .seq ([] : List Value).toArray }) := T.keep _ _ _ st2 fun b _ o e => Heap.get?_push_of_some _ e
  generalize hs3 : ({ s2 with heap := s2.heap.push { cls := .type "list", data := .seq ([] : List Value).toArray } } : Shared) = s3 at I3
  have h3 : s2.heap.push { cls := .type "list", data := .seq ([] : List Value).toArray } = s3.heap := by rw [← hs3]
  rw [h3] at f3 st3
  have gS : (s2.heap.push { cls := .type "list", data := .seq ([] : List Value).toArray } : Heap) = s3.heap := h3
  have I4 := block_start I3 ok hN f3
  have pg := hg s3 (upd H2 D (.lst [])) s3.heap.objs.size (cellsFrom (s3.heap.objs.size + 1) scope.names (cloFrom X.env.cells scope.names [])) fp
  have pt := ht s3 (upd H2 D (.lst [])) s3.heap.objs.size (cellsFrom (s3.heap.objs.size + 1) scope.names (cloFrom X.env.cells scope.names [])) fp
  have pe := he s3 (upd H2 D (.lst [])) s3.heap.objs.size (cellsFrom (s3.heap.objs.size + 1) scope.names (cloFrom X.env.cells scope.names [])) fp
  show codeAny _ _ (.compStart (.ListComp elt [⟨tg, iter, ifs, 0⟩] scope pos) 0 (.ref it) (.ref D) (compEnvC scope (cellsFrom (s3.heap.objs.size + 1) scope.names (cloFrom X.env.cells scope.names [])) s3.heap.objs.size X.env)) (compEnds (model X.prog X.w) X.A X.xe use Qf (.ref D) (compEnvC scope (cellsFrom (s3.heap.objs.size + 1) scope.names (cloFrom X.env.cells scope.names [])) s3.heap.objs.size X.env)) _
  generalize hce : compEnvC scope (cellsFrom (s3.heap.objs.size + 1) scope.names (cloFrom X.env.cells scope.names [])) s3.heap.objs.size X.env = ce at I4 pg pt pe ⊢
  have cL : ce.locals = s3.heap.objs.size := by subst hce; rfl
  have cF : ce.frame = X.env.frame := by subst hce; rfl
  generalize hH3 : upd H2 D (.lst []) = H3 at I3 I4 pg pt pe w0 f3
  have pe := pe (notedBy (model X.prog X.w) X.A ce (CompFails (model X.prog X.w) X.A X.xe ce)) (fun _ => WE W σ) fun _ _ _ _ _ _ Ib c => comp_out hs hf tk I3 cF (Nat.le_of_eq cL.symm) (fun b hb => (f3 b hb).1) Ib c fun _ _ _ h => h
  have nfp : ∀ b ∈ fp, H3 b = none := fun b hb => (f3 b hb).1.1
  have stS : ∀ {h' : Heap}, (∀ b o, s3.heap.get? b = some o → h'.get? b = some o) → tn 0 h' := fun k => T.keep _ _ _ st3 fun b _ o e => k b o e
  generalize hs4 : ({ s3 with heap := pushCells (s3.heap.push { cls := .type "dict", data := .dict #[] }) scope.names } : Shared) = s4 at I4 ⊢
  have st4 : tn 0 s4.heap := by
    rw [← hs4]
    exact stS fun b o e => pushCells_keeps _ _ _ _ (Heap.get?_push_of_some _ e)
  have stat : ∀ {σ' : L2.St} {H' : Hp} {s' : Shared}, Inv (X.blk s3 H3 scope ce fp) [] σ' H' s' → (∀ b ∈ fp, H' b = none) → ∀ b ∈ fp, FpOk (X.blk s3 H3 scope ce fp) [] H' b := fun {σ' H' s'} I' hn b hb =>
    ⟨hn b hb, (I'.ok.exf b hb).1, I'.ok.exfs b hb, .inl hb, fun x c e => (I'.ok.exf b hb).2 x c e, fun p hp => absurd (show p ∈ ([] : List (Addr × Obj)) ++ [] from hp) (by simp)⟩
  have loop : codeAny (model X.prog X.w) X.A (.compLoop (.ListComp elt [⟨tg, iter, ifs, 0⟩] scope pos) 0 (.ref it) (.ref D) ce) (compEnds (model X.prog X.w) X.A X.xe use Qf (.ref D) ce) s4 := by
    refine compLoop_any (fun n s' => ∃ i H', Inv (X.blk s3 H3 scope ce fp) [] (wipe σ (own.map (·.2))) H' s' ∧ tn i s'.heap ∧ (∀ b ∈ fp, H' b = none) ∧ Wk i n H') (fun n s5 hI => ?_) m0 ⟨0, H3, I4, st4, nfp, w0⟩
    obtain ⟨i, H5, I5, st5, n5, w5⟩ := hI
    rcases turn i n H5 w5 with ⟨stop, qq⟩ | ⟨go, Nx, hNx, step⟩
    · refine thnF (T.done (X.blk s3 H3 scope ce fp) rfl rfl rfl hc i [] s5 _ H5 (fun _ _ => False) I5 (stat I5 n5) st5 stop) fun r s6 ⟨hr, I6⟩ => ?_
      subst hr
      have I7 : Inv X pins σ H5 s6 := I3.call' (ch := fp) I6.os I6.base I6.hok I6.bare fun b hb => ⟨(f3 b hb).1.2.2.2.1, (f3 b hb).1.2.1, (f3 b hb).1.2.2.2.2.1, (f3 b hb).1.2.2.2.2.2⟩
      obtain ⟨m, hn, _⟩ := I6.loc
      exact hRR D ce s6 m H5 I7 qq hn (I3.fpOk (H' := H5) (Nat.le_of_eq cL.symm) I6.free)
    · refine thnF (T.item (X.blk s3 H3 scope ce fp) rfl rfl rfl hc i [] s5 _ H5 (fun _ _ => False) I5 (stat I5 n5) st5 go) fun r s6 ⟨u, hr, h6⟩ => ?_
      subst hr
      refine thnF h6 fun _ s7 ⟨x, H7, I7, r7, y7, st7, n7⟩ => ?_
      refine thnF (pg.run _ s7 _ H7 x u _ (I7.pinned (stat I7 n7) (T.obj _ _ st7)) r7 (step x H7 y7)) fun _ s8 ⟨σ8, H8, I8, hw8, q8⟩ => ?_
      refine thnF (pt.run _ s8 σ8 H8 _ I8 q8) fun b s9 ⟨H9, I9, q9⟩ => ?_
      have fin : ∀ {s' : Shared} {H' : Hp}, Inv (X.blk s3 H3 scope ce fp) ([] ++ pinsAt fp s7.heap) σ8 H' s' → Nx H' → ∃ m, m < n ∧ ∃ i H', Inv (X.blk s3 H3 scope ce fp) [] (wipe σ (own.map (·.2))) H' s' ∧ tn i s'.heap ∧ (∀ b ∈ fp, H' b = none) ∧ Wk i m H' := fun {s' H'} I' nx => by
        obtain ⟨m', hm, w'⟩ := hNx H' nx
        have pin' : ∀ b ∈ fp, ∀ o, s7.heap.get? b = some o → s'.heap.get? b = some o ∧ H' b = none := fun b hb o e =>
          ⟨(I'.pin (b, o) (List.mem_append_right _ (List.mem_append_right _ (mem_pinsAt hb e)))).1, (I'.pin (b, o) (List.mem_append_right _ (List.mem_append_right _ (mem_pinsAt hb e)))).2.1⟩
        refine ⟨m', hm, i + 1, H', (I'.unpinned (pins := [])).weak (by rw [← hw8, wipe_length]) (fun j v e => by rw [← hw8] at e; exact (wipe_some e).1), T.keep _ _ _ st7 fun b hb o e => (pin' b hb o e).1, fun b hb => ?_, w'⟩
        obtain ⟨o, e, _⟩ := T.obj _ _ st7 b hb
        exact (pin' b hb o e).2
      cases b with
      | false =>
        simp only [Bool.false_eq_true, if_false] at q9 ⊢
        exact fin I9 q9
      | true =>
        simp only [if_true] at q9 ⊢
        refine wpAny_mono (pe.run _ s9 σ8 H9 _ (inv_xe I9) q9) (fun z s10 ⟨yv, H10, I10, r10, acc, hD10, hz10, nx⟩ => ?_) fun _ _ y => y
        exact app_ok (X := X.blk s3 H3 scope ce fp) (inv_xe I10) hD10 hz10 r10 fun s11 I11 => fin I11 nx
  exact codeAny_compStart_list loop (T.self X.A 0 _ _ _ st4 loop)
theorem pe_lcX {elt tg iter : Expr} {ifs : List Expr} {own : List (Str × Nat)} {pos : Pos} {wi : TI} {g : TG} {tt : TT} {te : (L2.St → XK) → TE} (hs : X.stack = X.env :: X.outer) (hf : X.env.frame = some X.env.locals) (tk : Takes X W) (hc : X.calm = true) (hN : X.N.Nodup) (hi : PI X tg iter wi) (ok : BlkOk X.N X.env.scope scope own)
    (hg : ∀ (s : Shared) (H : Hp) (C : Addr) (cl : List (Str × Addr)) (fp : List Addr), PG (X.blk s H scope (compEnvC scope cl C X.env) fp) tg g) (ht : ∀ (s : Shared) (H : Hp) (C : Addr) (cl : List (Str × Addr)) (fp : List Addr), PTs (X.blk s H scope (compEnvC scope cl C X.env) fp) ifs tt)
    (he : Elt X scope elt te) (hsF : ∀ x, foldedSetIterable iter X.env x = pure x := by intro _; rfl) : PE X (.ListComp elt [⟨tg, iter, ifs, 0⟩] scope pos) (tLcX W wi g tt te (own.map (·.2))) := by
  refine ⟨fun pins s σ H Q I h => ?_⟩
  rw [eval_ListComp]
  refine lcX_core hs hf tk hc hN I hi ok hg ht he hsF h fun D ce s' m H' I' q hn f => ⟨m, hn, fun h'' sb => ?_⟩
  obtain ⟨f0, f1, f2, f3, f4, f5⟩ := f
  exact ⟨.ref D, H', I'.turned (t' := s'.toks) (fun b o hb e => (sb.2 b hb).trans e) f0 f1 f3 f4 f5, rfl, q⟩
/-- name = [..] on one line, the name a local -/
theorem ps_setLcX {i : Nat} {y : Str} {py : Pos} {spos : Pos} {elt tg iter : Expr} {ifs : List Expr} {own : List (Str × Nat)} {pos : Pos} {wi : TI} {g : TG} {tt : TT} {te : (L2.St → XK) → TE} (hs : X.stack = X.env :: X.outer) (hf : X.env.frame = some X.env.locals) (tk : Takes X W) (hc : X.calm = true) (hN : X.N.Nodup) (hy : X.N[i]? = some y) (hyl : X.env.scope.names.lookup y = some .local)
    (hsw : swapsWith (.ListComp elt [⟨tg, iter, ifs, 0⟩] scope pos) (some (.Name y py)) spos.line X.env = pure true) (hi : PI X tg iter wi) (ok : BlkOk X.N X.env.scope scope own)
    (hg : ∀ (s : Shared) (H : Hp) (C : Addr) (cl : List (Str × Addr)) (fp : List Addr), PG (X.blk s H scope (compEnvC scope cl C X.env) fp) tg g) (ht : ∀ (s : Shared) (H : Hp) (C : Addr) (cl : List (Str × Addr)) (fp : List Addr), PTs (X.blk s H scope (compEnvC scope cl C X.env) fp) ifs tt)
    (he : Elt X scope elt te) (hsF : ∀ x, foldedSetIterable iter X.env x = pure x := by intro _; rfl) : PS X (.Assign [.Name y py] (.ListComp elt [⟨tg, iter, ifs, 0⟩] scope pos) spos) (tAsg (tLcX W wi g tt te (own.map (·.2))) (gName i)) := by
  refine ⟨fun pins s σ H D I h => ?_⟩
  rw [exec_Assign_Name_used _ _ _ _ hsw]
  refine wpAny_bind (wpAny_standAt (wpAny_bind ?_))
  show wpAny _ X.A (do let _ ← comprehension (.ListComp elt [⟨tg, iter, ifs, 0⟩] scope pos) scope X.env (firstIterPos [⟨tg, iter, ifs, 0⟩] pos) (newList []) false (eval iter X.env) (some (assign (.Name y py) X.env))) _ _ s
  have h : tLcX W wi g tt te (own.map (·.2)) σ H (fun x H1 => gName i x σ H1 D.nx) := h
  refine wpAny_bind (thn (lcX_core (Qf := fun _ s' => SP X pins D .next s') hs hf tk hc hN I hi ok hg ht he hsF h fun L ce s' m H' I' q hn f => ?_) fun _ s' hq => wpAny_pure (wpAny_pure hq))
  show wpAny _ _ (assign (.Name y py) X.env (.ref L)) _ _ _
  refine wpAny_assign_Name (store_ok2 (v := V.ref L) I' hN hy (.inl hyl) rfl (fun s2 I2 ⟨a, sb, ha⟩ => ?_) (.inr hyl))
  obtain ⟨f0, f1, f2, f3, f4, f5⟩ := f
  have haC : ce.locals ≠ a := by
    rcases ha with z | z
    · rw [z]; exact f1
    · exact fun e => f4 y a z e.symm
  exact ⟨m, hn.sameBut sb haC, fun h3 sb3 => ⟨_, H', I2.turned (t' := s2.toks) (fun b o hb e => (sb3.2 b hb).trans e) f0 f1 f3 f4 f5, q⟩⟩
def tDcX (W : WX) (wi : TI) (g : TG) (tt : TT) (tk : TE) (te : (L2.St → XK) → TE) (vs : List Nat) : TE := fun σ H Q => tDc wi g tt tk (te fun _ => WE W σ) vs σ H Q
theorem pe_dcX {kx elt tg iter : Expr} {ifs : List Expr} {own : List (Str × Nat)} {pos : Pos} {wi : TI} {g : TG} {tt : TT} {tkk : TE} {te : (L2.St → XK) → TE} (hs : X.stack = X.env :: X.outer) (hf : X.env.frame = some X.env.locals) (tk : Takes X W) (hc : X.calm = true) (hN : X.N.Nodup) (hi : PI X tg iter wi) (ok : BlkOk X.N X.env.scope scope own)
    (hg : ∀ (s : Shared) (H : Hp) (C : Addr) (cl : List (Str × Addr)) (fp : List Addr), PG (X.blk s H scope (compEnvC scope cl C X.env) fp) tg g) (ht : ∀ (s : Shared) (H : Hp) (C : Addr) (cl : List (Str × Addr)) (fp : List Addr), PTs (X.blk s H scope (compEnvC scope cl C X.env) fp) ifs tt)
    (hk : ∀ (s : Shared) (H : Hp) (C : Addr) (cl : List (Str × Addr)) (fp : List Addr), PE (X.blk s H scope (compEnvC scope cl C X.env) fp) kx tkk)
    (he : Elt X scope elt te) (hsF : ∀ x, foldedSetIterable iter X.env x = pure x := by intro _; rfl) : PE X (.DictComp kx elt [⟨tg, iter, ifs, 0⟩] scope pos) (tDcX W wi g tt tkk te (own.map (·.2))) := by
  refine ⟨fun pins s σ H Q I h => ?_⟩
  rw [arm_eval_DictComp]
  have hfree : ∀ y ∈ scope.names, y.2 = .free → ∃ c, X.env.cells.lookup y.1 = some c := fun y hy e => (ok.free y hy e).elim (fun k => I.ok.has _ (.inl k)) fun k => I.ok.has _ (.inr k)
  refine comprehension_at (use := none) rfl hsF (closure_ok hfree) ok.kind (fun y hy e => by rw [ok.uniq y hy, e]) (thn (hi.run pins s σ H _ I h) fun xv s1 hx => thn hx fun itv s2 h2 => ?_)
  obtain ⟨it, fp, tn, J, H2, rfl, I2, T, st2, f2, q⟩ := h2
  refine wpAny_newObj_type (newEnv_comp ?_)
  obtain ⟨D, hD⟩ : ∃ D, s2.heap.objs.size = D := ⟨_, rfl⟩
  rw [hD]
  obtain ⟨Wk, ⟨m0, w0⟩, turn⟩ := q D (I2.hok.fresh (Nat.le_of_eq hD))
  -- the list stands at D
  have I3 : Inv X pins σ (upd H2 D (.dK [])) { s2 with heap := s2.heap.push { cls := .type "dict", data := .dict #[] } } :=
    I2.laid (t' := s2.toks) (fun b o e => Heap.get?_push_of_some _ e) (Nat.le_of_eq hD) (by rw [← hD]; exact dk_empty s2.heap I2.big)
  have f3 : ∀ b ∈ fp, FpOk X pins (upd H2 D (.dK [])) b ∧ b < (s2.heap.push { cls := .type "dict", data := .dict #[] }).objs.size := fun b hb => by
    obtain ⟨o, e, _⟩ := T.obj _ _ st2 b hb
    have hlt := Heap.lt_size e
    exact ⟨⟨by rw [upd_ne (by rw [← hD]; exact Nat.ne_of_lt hlt)]; exact (f2 b hb).1, (f2 b hb).2⟩, by rw [Heap.size_push]; exact Nat.lt_succ_of_lt hlt⟩
  have st3 : tn 0 (s2.heap.push { cls := .type "dict", data := .dict #[] }) := T.keep _ _ _ st2 fun b _ o e => Heap.get?_push_of_some _ e
  generalize hs3 : ({ s2 with heap := s2.heap.push { cls := .type "dict", data := .dict #[] } } : Shared) = s3 at I3
  have h3 : s2.heap.push { cls := .type "dict", data := .dict #[] } = s3.heap := by rw [← hs3]
  rw [h3] at f3 st3
  have gS : (s2.heap.push { cls := .type "dict", data := .dict #[] } : Heap) = s3.heap := h3
  have I4 := block_start I3 ok hN f3
  have pg := hg s3 (upd H2 D (.dK [])) s3.heap.objs.size (cellsFrom (s3.heap.objs.size + 1) scope.names (cloFrom X.env.cells scope.names [])) fp
  have pt := ht s3 (upd H2 D (.dK [])) s3.heap.objs.size (cellsFrom (s3.heap.objs.size + 1) scope.names (cloFrom X.env.cells scope.names [])) fp
  have pk := hk s3 (upd H2 D (.dK [])) s3.heap.objs.size (cellsFrom (s3.heap.objs.size + 1) scope.names (cloFrom X.env.cells scope.names [])) fp
  have pe := he s3 (upd H2 D (.dK [])) s3.heap.objs.size (cellsFrom (s3.heap.objs.size + 1) scope.names (cloFrom X.env.cells scope.names [])) fp
  show codeAny _ _ (.compStart (.DictComp kx elt [⟨tg, iter, ifs, 0⟩] scope pos) 0 (.ref it) (.ref D) (compEnvC scope (cellsFrom (s3.heap.objs.size + 1) scope.names (cloFrom X.env.cells scope.names [])) s3.heap.objs.size X.env)) (compEnds (model X.prog X.w) X.A X.xe none (EP X pins σ Q) (.ref D) (compEnvC scope (cellsFrom (s3.heap.objs.size + 1) scope.names (cloFrom X.env.cells scope.names [])) s3.heap.objs.size X.env)) _
  generalize hce : compEnvC scope (cellsFrom (s3.heap.objs.size + 1) scope.names (cloFrom X.env.cells scope.names [])) s3.heap.objs.size X.env = ce at I4 pg pt pk pe ⊢
  have cL : ce.locals = s3.heap.objs.size := by subst hce; rfl
  have cF : ce.frame = X.env.frame := by subst hce; rfl
  generalize hH3 : upd H2 D (.dK []) = H3 at I3 I4 pg pt pk pe w0 f3
  have pe := pe (notedBy (model X.prog X.w) X.A ce (CompFails (model X.prog X.w) X.A X.xe ce)) (fun _ => WE W σ) fun _ _ _ _ _ _ Ib c => comp_out hs hf tk I3 cF (Nat.le_of_eq cL.symm) (fun b hb => (f3 b hb).1) Ib c fun _ _ _ h => h
  have nfp : ∀ b ∈ fp, H3 b = none := fun b hb => (f3 b hb).1.1
  have stS : ∀ {h' : Heap}, (∀ b o, s3.heap.get? b = some o → h'.get? b = some o) → tn 0 h' := fun k => T.keep _ _ _ st3 fun b _ o e => k b o e
  generalize hs4 : ({ s3 with heap := pushCells (s3.heap.push { cls := .type "dict", data := .dict #[] }) scope.names } : Shared) = s4 at I4 ⊢
  have st4 : tn 0 s4.heap := by
    rw [← hs4]
    exact stS fun b o e => pushCells_keeps _ _ _ _ (Heap.get?_push_of_some _ e)
  have stat : ∀ {σ' : L2.St} {H' : Hp} {s' : Shared}, Inv (X.blk s3 H3 scope ce fp) [] σ' H' s' → (∀ b ∈ fp, H' b = none) → ∀ b ∈ fp, FpOk (X.blk s3 H3 scope ce fp) [] H' b := fun {σ' H' s'} I' hn b hb =>
    ⟨hn b hb, (I'.ok.exf b hb).1, I'.ok.exfs b hb, .inl hb, fun x c e => (I'.ok.exf b hb).2 x c e, fun p hp => absurd (show p ∈ ([] : List (Addr × Obj)) ++ [] from hp) (by simp)⟩
  have loop : codeAny (model X.prog X.w) X.A (.compLoop (.DictComp kx elt [⟨tg, iter, ifs, 0⟩] scope pos) 0 (.ref it) (.ref D) ce) (compEnds (model X.prog X.w) X.A X.xe none (EP X pins σ Q) (.ref D) ce) s4 := by
    refine compLoop_anyD (fun n s' => ∃ i H', Inv (X.blk s3 H3 scope ce fp) [] (wipe σ (own.map (·.2))) H' s' ∧ tn i s'.heap ∧ (∀ b ∈ fp, H' b = none) ∧ Wk i n H') (fun n s5 hI => ?_) m0 ⟨0, H3, I4, st4, nfp, w0⟩
    obtain ⟨i, H5, I5, st5, n5, w5⟩ := hI
    rcases turn i n H5 w5 with ⟨stop, qq⟩ | ⟨go, Nx, hNx, step⟩
    · refine thnF (T.done (X.blk s3 H3 scope ce fp) rfl rfl rfl hc i [] s5 _ H5 (fun _ _ => False) I5 (stat I5 n5) st5 stop) fun r s6 ⟨hr, I6⟩ => ?_
      subst hr
      have I7 : Inv X pins σ H5 s6 := I3.call' (ch := fp) I6.os I6.base I6.hok I6.bare fun b hb => ⟨(f3 b hb).1.2.2.2.1, (f3 b hb).1.2.1, (f3 b hb).1.2.2.2.2.1, (f3 b hb).1.2.2.2.2.2⟩
      obtain ⟨m, hn, _⟩ := I6.loc
      obtain ⟨f0, f1, f2', f3', f4, f5⟩ := I3.fpOk (H' := H5) (Nat.le_of_eq cL.symm) I6.free
      exact ⟨m, hn, fun h'' sb => ⟨.ref D, H5, I7.turned (t' := s6.toks) (fun b o hb e => (sb.2 b hb).trans e) f0 f1 f3' f4 f5, rfl, qq⟩⟩
    · refine thnF (T.item (X.blk s3 H3 scope ce fp) rfl rfl rfl hc i [] s5 _ H5 (fun _ _ => False) I5 (stat I5 n5) st5 go) fun r s6 ⟨u, hr, h6⟩ => ?_
      subst hr
      refine thnF h6 fun _ s7 ⟨x, H7, I7, r7, y7, st7, n7⟩ => ?_
      refine thnF (pg.run _ s7 _ H7 x u _ (I7.pinned (stat I7 n7) (T.obj _ _ st7)) r7 (step x H7 y7)) fun _ s8 ⟨σ8, H8, I8, hw8, q8⟩ => ?_
      refine thnF (pt.run _ s8 σ8 H8 _ I8 q8) fun b s9 ⟨H9, I9, q9⟩ => ?_
      have fin : ∀ {s' : Shared} {H' : Hp}, Inv (X.blk s3 H3 scope ce fp) ([] ++ pinsAt fp s7.heap) σ8 H' s' → Nx H' → ∃ m, m < n ∧ ∃ i H', Inv (X.blk s3 H3 scope ce fp) [] (wipe σ (own.map (·.2))) H' s' ∧ tn i s'.heap ∧ (∀ b ∈ fp, H' b = none) ∧ Wk i m H' := fun {s' H'} I' nx => by
        obtain ⟨m', hm, w'⟩ := hNx H' nx
        have pin' : ∀ b ∈ fp, ∀ o, s7.heap.get? b = some o → s'.heap.get? b = some o ∧ H' b = none := fun b hb o e =>
          ⟨(I'.pin (b, o) (List.mem_append_right _ (List.mem_append_right _ (mem_pinsAt hb e)))).1, (I'.pin (b, o) (List.mem_append_right _ (List.mem_append_right _ (mem_pinsAt hb e)))).2.1⟩
        refine ⟨m', hm, i + 1, H', (I'.unpinned (pins := [])).weak (by rw [← hw8, wipe_length]) (fun j v e => by rw [← hw8] at e; exact (wipe_some e).1), T.keep _ _ _ st7 fun b hb o e => (pin' b hb o e).1, fun b hb => ?_, w'⟩
        obtain ⟨o, e, _⟩ := T.obj _ _ st7 b hb
        exact (pin' b hb o e).2
      cases b with
      | false =>
        simp only [Bool.false_eq_true, if_false] at q9 ⊢
        exact fin I9 q9
      | true =>
        simp only [if_true] at q9 ⊢
        refine thnF (pk.run _ s9 σ8 H9 _ I9 q9) fun z s10 ⟨yk, H10, I10, r10, q10⟩ => ?_
        refine wpAny_mono (pe.run _ s10 σ8 H10 _ (inv_xe I10) q10) (fun z2 s11 ⟨yv, H11, I11, r11, kvs, k, ek, hD11, hz11, nx⟩ => ?_) fun _ _ y => y
        subst ek
        exact d_dictSet (X := X.blk s3 H3 scope ce fp) (inv_xe I11) hD11 hz11 r10 r11 fun s12 I12 => fin I12 nx
  exact codeAny_compStart_dict loop (T.self X.A 0 _ _ _ st4 loop)
end
/-! ### calls within such a block, and calls with a keyword-only argument behind n others -/
/-- the module's name x holds a def of n parameters and a keyword-only one, y, with a default; it may raise -/
structure CalN (P : Program) (w : World) (K : PySem.W.Frag) (mg : Str → Option Value) (base : Heap) (x y : Str) (n k : Nat) (ps : List Str) (dv : V) (sp : Sp) : Prop where
  ex : ∃ (f : Addr) (fd : FuncData), FnOk P w K mg base (L2.CX P w) k f fd ps sp ∧ mg x = some (.ref f) ∧ PySem.W.keepIn K (.ref f) = true ∧ (∃ ds, Vals [dv] ds ∧ Binds K fd ps ds) ∧ KBn K fd ps n [y] (fun us ws => us ++ ws) (fun vs zs => vs ++ zs)
section
variable {X : Cx} {x y : Str} {k n : Nat} {ps : List Str} {dv : V} {sp : Sp} {e : Expr} {es : List Expr} {kws : List Keyword} {t tk1 : TA} {p pos : Pos} {W : WX} {E : L2.St → XK}
theorem pe_calB (c : Px.CalE X.prog X.w X.K X.mg X.base x k ps sp) (px : ∀ σ, PassesAt (L2.CX X.prog X.w) X σ (E σ)) (hr : Room k X.A) (ha : PA X (e :: es) t) (hg : Gl X x := by rfl) (hdb : (x == ("__debug__" : Str)) = false := by decide)
    (he : starEach (e :: es) X.env = (false, eval e X.env) :: starEach es X.env := by rfl) (hpl : (backTo pos (starEach es X.env)).any (·.1) = false := by rfl) : PE X (.Call (.Name x p) (e :: es) [] pos) (tCallS sp E t) := by
  obtain ⟨f, fd, ok, g, kp, b⟩ := c.ex
  exact pe_callS ok hr hg g kp b px ha hdb he hpl (p := p)
/-- f(a, ..), the keyword-only argument left to its default -/
theorem pe_calNB (c : CalN X.prog X.w X.K X.mg X.base x y n k ps dv sp) (px : ∀ σ, PassesAt (L2.CX X.prog X.w) X σ (E σ)) (hr : Room k X.A) (ha : PA X (e :: es) t) (hg : Gl X x := by rfl) (hdb : (x == ("__debug__" : Str)) = false := by decide)
    (he : starEach (e :: es) X.env = (false, eval e X.env) :: starEach es X.env := by rfl) (hpl : (backTo pos (starEach es X.env)).any (·.1) = false := by rfl) : PE X (.Call (.Name x p) (e :: es) [] pos) (tCallSD sp [dv] E t) := by
  obtain ⟨f, fd, ok, hm, kp, ⟨ds, hv, hb⟩, _⟩ := c.ex
  exact pe_callSD ok hr hg hm kp hb hv px ha hdb he hpl (p := p)
/-- f(a, .., y=z) -/
def tCalNK (sp : Sp) (n : Nat) (E : L2.St → XK) (t tk : TA) : TE := fun σ H Q => t σ H fun vs H1 => tk σ H1 fun zs H2 => vs.length = n ∧ zs.length = 1 ∧ sp (vs ++ zs) H2 Q (E σ)
theorem pe_calNBK (c : CalN X.prog X.w X.K X.mg X.base x y n k ps dv sp) (px : ∀ σ, PassesAt (L2.CX X.prog X.w) X σ (E σ)) (hr : Room k X.A) (ha : PA X (e :: es) t) (hkw : PK X kws tk1) (hg : Gl X x := by rfl) (hall : (backToKw pos (keywordEach kws X.env)).all (·.1.isSome) = true := by rfl) (hks : (backToKw pos (keywordEach kws X.env)).filterMap (·.1) = [y] := by rfl)
    (hdb : (x == ("__debug__" : Str)) = false := by decide) (he : starEach (e :: es) X.env = (false, eval e X.env) :: starEach es X.env := by rfl)
    (hpl : ((backTo pos (starEach (e :: es) X.env)).any (·.1) || (backToKw pos (keywordEach kws X.env)).any (·.1.isNone)) = false := by rfl) : PE X (.Call (.Name x p) (e :: es) kws pos) (tCalNK sp n E t tk1) := by
  obtain ⟨f, fd, ok, hm, kp, _, hb⟩ := c.ex
  have z := Er.pe_callNS ok hr hg hm kp hb px ha hkw hall hks hdb he hpl (p := p)
  exact ⟨fun pins s σ H Q I h => z.run pins s σ H Q I h⟩
/-- outside a comprehension the wish is the def's -/
theorem pe_calN (c : CalN X.prog X.w X.K X.mg X.base x y n k ps dv sp) (tk : Takes X W) (hr : Room k X.A) (ha : PA X (e :: es) t) (hg : Gl X x := by rfl) (hdb : (x == ("__debug__" : Str)) = false := by decide)
    (he : starEach (e :: es) X.env = (false, eval e X.env) :: starEach es X.env := by rfl) (hpl : (backTo pos (starEach es X.env)).any (·.1) = false := by rfl) : PE X (.Call (.Name x p) (e :: es) [] pos) (tCallSD sp [dv] (fun σ => WE W σ) t) := pe_calNB c (fun σ => passAt tk σ) hr ha hg hdb he hpl (p := p)
theorem pe_calNK (c : CalN X.prog X.w X.K X.mg X.base x y n k ps dv sp) (tk : Takes X W) (hr : Room k X.A) (ha : PA X (e :: es) t) (hkw : PK X kws tk1) (hg : Gl X x := by rfl) (hall : (backToKw pos (keywordEach kws X.env)).all (·.1.isSome) = true := by rfl) (hks : (backToKw pos (keywordEach kws X.env)).filterMap (·.1) = [y] := by rfl)
    (hdb : (x == ("__debug__" : Str)) = false := by decide) (he : starEach (e :: es) X.env = (false, eval e X.env) :: starEach es X.env := by rfl)
    (hpl : ((backTo pos (starEach (e :: es) X.env)).any (·.1) || (backToKw pos (keywordEach kws X.env)).any (·.1.isNone)) = false := by rfl) : PE X (.Call (.Name x p) (e :: es) kws pos) (tCalNK sp n (fun σ => WE W σ) t tk1) := pe_calNBK c (fun σ => passAt tk σ) hr ha hkw hg hall hks hdb he hpl (p := p)
end
end Rc
/-! match over a text: cases with a written text, and the last one `case _`. -/
namespace Mc
open PySem PySem.Spec PyProof.Rows L2
/-- the cases, of the text in hand -/
structure PMs (X : Cx) (cs : List MatchCase) (t : Str → TS) : Prop where
  run : ∀ (pins : List (Addr × Obj)) (s : Shared) (σ : L2.St) (H : Hp) (D : Ends) (z : Str) (u : Value) (first : Bool), Inv X pins σ H s → RelV (.str z) u → t z D σ H → wpAny (model X.prog X.w) X.A (matchCases cs X.env u first) (SP X pins D) X.xe s
section
variable {X : Cx}
def mNil : Str → TS := fun _ D σ H => D.nx σ H
def mStr (lit : Str) (tb : TS) (tr : Str → TS) : Str → TS := fun z D σ H => if z = lit then tb D σ H else tr z D σ H
def mAny (tb : TS) : Str → TS := fun _ => tb
theorem pm_nil : PMs X [] mNil := ⟨fun pins s σ H D z u first I r h => wpAny_matchCases_nil ⟨σ, H, I, h⟩⟩
theorem pm_any {body : List Stmt} {p : Pos} {rest : List MatchCase} {tb : TS} (hb : PSs X body tb) : PMs X (⟨.MatchAs none none p, none, body⟩ :: rest) (mAny tb) := by
  refine ⟨fun pins s σ H D z u first I r h => ?_⟩
  refine wpAny_matchCases_cons (wpAny_matchPattern_Capture ?_)
  show wpAny _ _ (assignInOrder [] []) _ _ _
  exact wpAny_of_eq rfl (hb.run pins s σ H D I h)
theorem pm_str {lit : Str} {j : Nat} {body : List Stmt} {p p2 : Pos} {rest : List MatchCase} {tb : TS} {tr : Str → TS} (hb : PSs X body tb) (hr : PMs X rest tr) : PMs X (⟨.MatchValue (.Constant (.str lit) j p2) p, none, body⟩ :: rest) (mStr lit tb tr) := by
  refine ⟨fun pins s σ H D z u first I r h => ?_⟩
  refine wpAny_matchCases_cons (wpAny_matchPattern_Value ?_)
  refine thn ((pe_str (x := lit) (j := j) (pos := p2)).run pins s σ H (fun v H1 => v = .str lit ∧ H1 = H) I ⟨rfl, rfl⟩) fun x s1 ⟨v, H1, I1, r1, e1, e2⟩ => ?_
  subst e1 e2
  refine thn (op_eq pins s1 σ H1 (.str z) (.str lit) u x (fun v H2 => v = .bl (decide (V.str z = V.str lit)) ∧ H2 = H1) I1 r r1 ⟨rfl, rfl, rfl⟩) fun c s2 ⟨v, H2, I2, r2, e1, e2⟩ => ?_
  subst e1 e2
  obtain rfl : c = .bool (decide (V.str z = V.str lit)) := r2
  refine wpAny_truthy_bool ?_
  unfold mStr at h
  by_cases e : z = lit
  · rw [if_pos e] at h
    rw [decide_eq_true (show V.str z = V.str lit by rw [e])]
    show wpAny _ _ (assignInOrder [] []) _ _ _
    exact wpAny_of_eq rfl (hb.run pins s2 σ H2 D I2 h)
  · rw [if_neg e] at h
    rw [decide_eq_false (show ¬ V.str z = V.str lit from fun h => e (V.str.inj h))]
    exact hr.run pins s2 σ H2 D z u false I2 r h
/-- match x: case .. -/
def tMatch (te : TE) (tm : Str → TS) : TS := fun D σ H => te σ H fun v H1 => ∃ z, v = .str z ∧ tm z D σ H1
theorem ps_match {e : Expr} {cs : List MatchCase} {pos : Pos} {te : TE} {tm : Str → TS} (he : PE X e te) (hm : PMs X cs tm) : PS X (.Match e cs pos) (tMatch te tm) := by
  refine ⟨fun pins s σ H D I h => ?_⟩
  refine wpAny_Match (thn (he.run pins s σ H _ I h) fun u s1 ⟨v, H1, I1, r1, z, ez, q⟩ => ?_)
  subst ez
  exact hm.run pins s1 σ H1 D z u true I1 r1 q
end
end Mc
set_option maxHeartbeats 4000000
/-! t * k for any k from 0 on, t a tuple with items. -/
namespace Px
open PySem PySem.Spec PyProof.Rows L2 Bx TL Dx Zx Ow
theorem mul_one (l : Addr) (its : Array Value) (n : Nat) (dd : Option Addr) (sl : Array (Option Value)) (u : Tok) :
    Meets (Builtin.«tuple.__mul__» ⟨[.ref l, .int 1 u], []⟩) (fun _ R s => s.heap.get? l = some { cls := .type "tuple", dict := dd, data := .seq its n, slots := sl } ∧ R (.ok (.ret (.ref l))) s) :=
  .of_wp fun prog w A R s h => by
    obtain ⟨hp, g, d, tk, os⟩ := s
    obtain ⟨hl, h⟩ := h
    have f1 := AutoSeq1.idx_int
    have c1 : (its.isEmpty || (1 : Int) == 1) = true := by rw [show ((1 : Int) == 1) = true from rfl, Bool.or_true]
    wp_walk using wpAny_loadPart' hl
    repeat (first
      | (refine wpAny_ite_true (decide_eq_true c1) ?_; wp_walk using wpAny_loadPart' hl)
      | (refine wpAny_ite_false (by decide) ?_; wp_walk using wpAny_loadPart' hl))
    exact ⟨_, rfl, h⟩
theorem mul_nil (l : Addr) (its : Array Value) (n : Nat) (dd : Option Addr) (sl : Array (Option Value)) (u : Tok) (hi : its.isEmpty = false) :
    Meets (Builtin.«tuple.__mul__» ⟨[.ref l, .int 0 u], []⟩) (fun _ R s => s.heap.get? l = some { cls := .type "tuple", dict := dd, data := .seq its n, slots := sl } ∧
      R (.ok (.ret (Value.ref s.heap.objs.size))) { s with heap := s.heap.push { cls := Value.type "tuple", data := Data.seq #[] }, toks := s.toks }) :=
  .of_wp fun prog w A R s h => by
    obtain ⟨hp, g, d, tk, os⟩ := s
    obtain ⟨hl, h⟩ := h
    have f1 := AutoSeq1.idx_int
    have c1 : (its.isEmpty || (0 : Int) == 1) = false := by rw [hi]; rfl
    wp_walk using wpAny_loadPart' hl
    repeat (first
      | (refine wpAny_ite_false (decide_eq_false (by rw [c1]; exact Bool.false_ne_true)) ?_; wp_walk using wpAny_loadPart' hl)
      | (refine wpAny_ite_true (by decide) ?_; wp_walk using wpAny_loadPart' hl)
      | (refine wpAny_ite_false (by decide) ?_; wp_walk using wpAny_loadPart' hl))
    exact ⟨_, rfl, h⟩
def rRepA (K : PySem.W.Frag) : R2 := fun x y H Q => ∃ (l : Addr) (k : Nat) (xs : List V), x = .ref l ∧ y = .int (k : Int) ∧ SqT K H l xs ∧ xs ≠ [] ∧ k ≤ 1000 ∧ xs.length ≤ 1000 ∧ (k = 1 → Q (.ref l) H) ∧ (k ≠ 1 → ∀ p, H p = none → Q (.ref p) (upd H p (.tup (List.replicate k xs).flatten)))
theorem op_repA {X : Cx} : OpR X (binaryOp .Mult) (rRepA X.K) := by
  intro pins s σ H x y v u Q I rx ry h
  obtain ⟨l, k, xs, rfl, rfl, hT, hne, hk, hx, q1, q2⟩ := h
  by_cases h2 : 2 ≤ k
  · exact op_repT pins s σ H _ _ v u Q I rx ry ⟨l, (k : Int), xs, rfl, rfl, hT, hne, by omega, by omega, hx, fun p np => q2 (by omega) p np⟩
  · cases rx
    obtain ⟨t, rfl⟩ := ry
    obtain ⟨its, rv, ⟨⟨cls, dd, data, sl⟩, ho, hc, n, hd⟩, hsz⟩ := I.tuple hT
    simp only at hc hd
    subst hc hd
    have hi : its.toArray.isEmpty = false := by
      cases its with
      | nil =>
        cases rv
        exact absurd rfl hne
      | cons a b => rfl
    have hT2 : s.TypeIs (.ref l) "tuple" := ⟨_, ho, rfl⟩
    have go : ∀ {Z : Value → Shared → Prop} {D : Value → Shared → Prop}, wpAny (model X.prog X.w) X.A (call (.builtin "tuple.__mul__") [.ref l, .int (k : Int) t]) Z D s → wpAny (model X.prog X.w) X.A (binaryOp .Mult (.ref l) (.int (k : Int) t)) Z D s := fun {Z D} z =>
      wpAny_binaryOp_repeat_ref (T := "tuple") (U := "int") (by decide) hT2 (fun z => typeIs_int z (k : Int) t) noFill_tuple_mul F.fills_int_mul F.slot_int_rmul repeat_tuple F.slot_int_index.lookup
        (call_meets F.slot_int_rmul (typeIs_int s (k : Int) t) F.entry_int_rmul (F.args_int_rmul_2 _ _) (int_rmul_tuple (k : Int) t l its.toArray n dd sl) ⟨ho, rfl, hT2, z⟩)
    refine go ?_
    rcases (show k = 0 ∨ k = 1 by omega) with rfl | rfl
    · refine call_meets F.slot_tuple_mul hT2 F.entry_tuple_mul (F.args_tuple_mul_2 _ _) (mul_nil l its.toArray n dd sl t hi) ⟨ho, ?_⟩
      exact ⟨.ref s.heap.objs.size, _, I.laid (t' := s.toks) (o := .tup []) (fun b ob q => Heap.get?_push_of_some _ q) (Nat.le_refl _) ⟨Nat.zero_le _, [], .nil, IsTup.new _ _⟩, rfl, q2 (by omega) _ (I.hok.fresh (Nat.le_refl _))⟩
    · exact call_meets F.slot_tuple_mul hT2 F.entry_tuple_mul (F.args_tuple_mul_2 _ _) (mul_one l its.toArray n dd sl t) ⟨ho, .ref l, H, I, rfl, q1 rfl⟩
end Px
/-! try with several clauses, each of which names the error by the same name. -/
namespace Px
open PySem PySem.Spec PyProof.Rows L2 Bx TL Dx Zx Ow
abbrev Cl := Value × (Addr → Value → Option Addr → TS)
/-- the ends of a suite behind which slot i is taken away -/
def gone (i : Nat) (D : Ends) : Ends := { nx := fun σ H => D.nx (σ.set i none) H, rt := D.rt, bk := fun σ H => D.bk (σ.set i none) H, ct := fun σ H => D.ct (σ.set i none) H }
def wAsM (K : PySem.W.Frag) (i : Nat) (W0 : WX) (D : Ends) : List Cl → WX
  | [] => W0
  | c :: r => fun cls d σ H => ∃ b, PySem.W.exmOne K cls c.1 = some b ∧ (b = true → ∀ a, H a = none → c.2 a cls d (gone i D) (σ.set i (some (.ref a))) H) ∧ (b = false → wAsM K i W0 D r cls d σ H)
inductive HdA (X : Cx) (n : Str) : List ExceptHandler → List Cl → Prop
  | nil : HdA X n [] []
  | cons {x : Str} {c : Cl} {b0 : Stmt} {bs : List Stmt} {p1 p2 : Pos} {hs : List ExceptHandler} {l : List Cl} (nm : Names X x c.1)
      (su : ∀ (a : Addr) (o : Obj) (cls : Value) (d : Option Addr) (pn : List (Addr × Obj)), Zc cls d o → (∃ vs, o.data = .fields vs) → PSs (X.suite a ((a, o) :: pn)) (b0 :: bs) (c.2 a cls d)) (r : HdA X n hs l) :
      HdA X n (.ExceptHandler (some (.Name x p1)) (some n) (b0 :: bs) p2 :: hs) (c :: l)
section
variable {X : Cx} {n : Str} {i : Nat} {body : List Stmt} {h0 : ExceptHandler} {hs : List ExceptHandler} {l : List Cl} {pos : Pos} {tb : WX → TS} {W0 : WX}
theorem ps_tryA (hst : X.stack = X.env :: X.outer) (hfr : X.env.frame = some X.env.locals) (nd : X.N.Nodup) (hi : X.N[i]? = some n) (loc : X.env.kindOf n = some .local) (tk : Takes X W0)
    (hb : ∀ (W : WX) (pn : List (Addr × Obj)) (xe : Value → Shared → Prop), Takes (X.tr pn xe) W → PassesOwn (model X.prog X.w) X.A X.env xe → PSs (X.tr pn xe) body (tb W)) (hh : HdA X n (h0 :: hs) l) :
    PS X (.Try body (h0 :: hs) [] [] pos) (fun D σ H => tb (wAsM X.K i W0 D l) D σ H) := by
  refine ⟨fun pins s σ H D I h => wpAny_Try_except ?_⟩
  have ok := I.ok
  have fr2 : X.A.frames = some (X.env :: X.outer) := by rw [ok.frames, hst]
  refine wpAny_mono ((hb (wAsM X.K i W0 D l) (X.pn ++ pins) (fun e t1 => wpAny (model X.prog X.w) X.A (noteFrame e X.env) (fun _ t2 => wpAny (model X.prog X.w) X.A (setFlight e none) (fun _ t3 => wpAny (model X.prog X.w) X.A (handleBy e X.env (h0 :: hs)) (SP X pins D) X.xe t3) X.xe t2) X.xe t1)
    (fun er s' got => ?_) PassesOwn.looking).run [] s σ H D (I.toTry _) h) (fun fl s1 hsp => ?_) (fun er s1 he => he)
  · obtain ⟨a, B, sI, pins2, τ, G, cls, d, rfl, J0, nb, up, sky, na, os, ag, wish⟩ := got
    have J : Inv X pins τ G sI := J0.ofTry ok
    have sk2 : Sky B (X.env :: X.outer) a (Zc cls d) X.env.locals s'.heap := by rw [← hst]; exact sky
    show wpAny (model X.prog X.w) X.A (noteFrame (.ref a) X.env) _ _ _
    refine Sky.land Zc.steady fr2 hfr sk2 fun h3 fl3 up3 => ?_
    have J3 : Inv X pins τ G { s' with heap := h3 } := J.landed nb fl3.1 (up.trans up3) os ag
    obtain ⟨o3, v3, ho3, hz3, hd3⟩ := fl3.there
    have out : a ∉ frs (X.env :: X.outer) := fun hm => by
      obtain ⟨_, o2, ho2, no⟩ := fl3.2.2.1.mem hm
      rw [ho3] at ho2
      cases ho2
      exact no _ hd3
    have nL : a ≠ X.env.locals := fun z => out (List.mem_filterMap.mpr ⟨X.env, List.mem_cons_self, hfr.trans (congrArg some z.symm)⟩)
    have nF : a ∉ X.fs := fun hm => by
      obtain ⟨e, he, q⟩ := List.mem_filterMap.mp hm
      exact out (List.mem_filterMap.mpr ⟨e, List.mem_cons_of_mem _ he, q⟩)
    have S3 := J3.suite ho3 hd3 na nL nF
    have go : ∀ {hs2 : List ExceptHandler} {l2 : List Cl}, HdA X n hs2 l2 → wAsM X.K i W0 D l2 cls d τ G → wpAny (model X.prog X.w) X.A (handleBy (.ref a) X.env hs2) (SP X pins D) X.xe { s' with heap := h3 } := by
      intro hs2 l2 hk
      induction hk with
      | nil =>
        intro wish
        refine wpAny_handleBy_nil ?_
        obtain ⟨_, _, _, o4, v4, T, _, _, ho4, _, hd4, hT, _⟩ := id fl3
        unfold PySem.passOn
        refine wpAny_bind (wpAny_field ho4 hd4 hT ?_)
        rw [if_neg (show ¬ ((Value.ref T == Value.none) = true) from Bool.false_ne_true)]
        have last : wpAny (model X.prog X.w) X.A (setFlight (.ref a) X.env.frame) (fun _ t => wpAny (model X.prog X.w) X.A (throw (.ref a) : Sem Flow) (SP X pins D) X.xe t) X.xe { s' with heap := h3 } := by
          rw [hfr]
          refine HandSPX.setFlight_upZ fl3 fun h4 hh4 up4 => wpAny_throw (tk _ _ ⟨a, B, sI, pins, τ, G, cls, d, rfl, J, nb, (up.trans up3).trans up4, .inr (.inr ?_), na, os, ag, wish⟩)
          rw [hst]
          exact hh4
        first
          | exact wpAny_bind (wpAny_pure (wpAny_bind last))
          | exact wpAny_bind last
      | @cons x c b0 bs p1 p2 hs3 l3 nm su r ih =>
        intro wish
        obtain ⟨b, eb, yes, no⟩ := wish
        refine wpAny_handleBy_cons (codeAny_handlers_test ?_) (by intro q; cases q)
        have LT : PySem.W.Looks (model X.prog X.w) h3 (typeOf (.ref a)) cls := fun A Q E t k q => wpAny_typeOf_ref (k _ _ ho3) (by rw [hz3.1]; exact q)
        have LM := PySem.W.exm_one (M := model X.prog X.w) J3.kIn LT eb
        have look : ∀ {Q : Value → Shared → Prop} {E : Value → Shared → Prop}, Q c.1 { s' with heap := h3 } → wpAny (model X.prog X.w) (X.A.mark (some (.ref a))) (eval (.Name x p1) X.env) Q E { s' with heap := h3 } := fun {Q E} q => by
          obtain ⟨hg, hdb, hm | ⟨hm, hv, hnn⟩⟩ := nm
          · exact ld_glob (X := X.suite a ((a, o3) :: (X.pn ++ pins))) S3 hg hm q hdb
          · exact ld_blt (X := X.suite a ((a, o3) :: (X.pn ++ pins))) S3 hg hm hv q hnn hdb
        refine look (LM.here ?_)
        cases b with
        | false =>
          show wpAny _ X.A (handleBy (.ref a) X.env hs3) _ _ _
          exact ih (no rfl)
        | true =>
          refine codeAny_handlers_suite_as (HandSPX.lands_againZ fl3 fun h4 fl4 up4 => ?_)
          have J4 : Inv X pins τ G { s' with heap := h4 } := J.landed nb fl4.1 ((up.trans up3).trans up4) os ag
          obtain ⟨o4, v4, ho4, hz4, hd4⟩ := fl4.there
          refine store_ok (X := X.suite a ((a, o4) :: (X.pn ++ pins))) (v := .ref a) (J4.suite ho4 hd4 na nL nF) nd hi (.inl loc) rfl (fun s5 S5 => ?_) (.inr loc)
          refine wpAny_mono ((su a o4 cls d (X.pn ++ pins) hz4 ⟨_, hd4⟩).run [] s5 _ G _ S5 (yes rfl a na)) (fun fl s6 hsp => ?_) (fun _ _ z => False.elim z)
          have out6 : ∀ {ρ : L2.St} {H6 : Hp} {Q : Shared → Prop}, Inv (X.suite a ((a, o4) :: (X.pn ++ pins))) [] ρ H6 s6 → (∀ s7, Inv X pins (ρ.set i none) H6 s7 → Q s7) → wpAny (model X.prog X.w) X.A (do bindName X.env n .none; unbindBehindTheSuite X.env n p2) (fun _ s7 => Q s7) X.xe s6 :=
            fun S6 hq => gone_ok (S6.unsuite ok) nd hi loc hq
          match fl, hsp with
          | .next, ⟨ρ, H6, S6, q⟩ => exact out6 S6 fun s7 J7 => ⟨_, _, J7, q⟩
          | .brk, ⟨ρ, H6, S6, q⟩ => exact out6 S6 fun s7 J7 => ⟨_, _, J7, q⟩
          | .cont, ⟨ρ, H6, S6, q⟩ => exact out6 S6 fun s7 J7 => ⟨_, _, J7, q⟩
          | .ret u, ⟨v6, ρ, H6, S6, r6, q⟩ => exact out6 S6 fun s7 J7 => ⟨_, _, _, J7, r6, q⟩
    exact go hh wish
  · match fl, hsp with
    | .next, ⟨ρ, G, J, q⟩ => exact wpAny_execs_nil ⟨ρ, G, J.ofTry ok, q⟩
    | .brk, ⟨ρ, G, J, q⟩ => exact ⟨ρ, G, J.ofTry ok, q⟩
    | .cont, ⟨ρ, G, J, q⟩ => exact ⟨ρ, G, J.ofTry ok, q⟩
    | .ret u, ⟨v, ρ, G, J, rv, q⟩ => exact ⟨v, ρ, G, J.ofTry ok, rv, q⟩
end
end Px
/-! list(o), o of an own class with `__iter__` over a tuple and `__len__`. -/
namespace Px
open PySem PySem.Spec PyProof.Rows L2 Bx TL Dx Zx Ow
section
variable {X : Cx} {pins : List (Addr × Obj)} {σ : L2.St} {H : Hp} {s : Shared} {C p dx : Addr} {fs : List (Str × V)} {k : Nat} {ps : List Str} {sp : Sp} {A1 : Around} {E1 : Value → Shared → Prop}
theorem len_at {Q : Value → Shared → Prop} (sb : Sub X (k + 1) A1) (c : OwM X.prog X.w X.K X.mg X.base CX0 C "__len__" k ps sp) (I : Inv X pins σ H s) (ha : H p = some (.ins C dx fs)) (hsp : sp [.ref p] H (fun v G => G = H ∧ ∃ n : Nat, v = .int (n : Int) ∧ n ≤ 1000) E0)
    (q : ∀ (n : Nat) t s', n ≤ 1000 → Inv X pins σ H s' → Q (.int (n : Int) t) s') : wpAny (model X.prog X.w) A1 (call (.builtin "len") [.ref p]) Q E1 s := by
  obtain ⟨f, fd, ok, hs, hf, _, hb⟩ := c.ex
  obtain ⟨od, J⟩ := inst_of I ha
  obtain ⟨m, hF⟩ := I.fr
  refine PySem.W.len_K hF I.ok.mod.kin J hs hf ?_
  refine wpAny_mono (call_at sb.in1 ok hb I (vs := [.ref p]) (.cons rfl .nil) hsp (fun e s' z => z.elim)) (fun u s' hu => ?_) (fun _ _ z => z)
  obtain ⟨v, G, I', rv, rfl, n, rfl, hn⟩ := hu
  obtain ⟨t, rfl⟩ := rv
  exact ⟨⟨by omega, by omega⟩, q n _ _ hn (I'.tok _)⟩
theorem hint_own {Q : Bool → Shared → Prop} (sb : Sub X (k + 1) A1) (c : OwM X.prog X.w X.K X.mg X.base CX0 C "__len__" k ps sp) (I : Inv X pins σ H s) (ha : H p = some (.ins C dx fs)) (hsp : sp [.ref p] H (fun v G => G = H ∧ ∃ n : Nat, v = .int (n : Int) ∧ n ≤ 1000) E0)
    (q : ∀ b s', Inv X pins σ H s' → Q b s') : wpAny (model X.prog X.w) A1 (Builtin.List.listLengthHint (.ref p)) Q E1 s := by
  obtain ⟨f, fd, ok, hs, hf, _, hb⟩ := id c.ex
  obtain ⟨od, J⟩ := inst_of I ha
  unfold Builtin.List.listLengthHint
  refine wpAny_bind (wpAny_bind (J.type.here ((PySem.W.looks_findIn I.kIn hs).here ?_)))
  refine PySem.W.KFB.if_not rfl ?_
  show wpAny _ _ (rule _ >>= _) _ _ _
  refine wpAny_bind (wpAny_rule ?_)
  refine wpAny_bind (wpAny_attempt (len_at sb c I ha hsp fun n t s' hn I' => ?_))
  show wpAny _ _ (asInt? (Value.int (n : Int) t) >>= _) _ _ _
  refine wpAny_bind (wpAny_pure ?_)
  refine PySem.W.KFB.if_not ?_ (wpAny_pure (q _ s' I'))
  show decide ((n : Int).toNat > sizeLine) = false
  rw [sizeLine_eq]
  exact decide_eq_false (by omega)
/-- the iterator of o, where `__iter__` gives iter(self.f) -/
theorem iter_at {f : Str} {t : Addr} {zs : List V} {Q : Value → Shared → Prop} (sb : Sub X k A1) (c : ItM X.prog X.w X.K X.mg X.base C f k) (I : Inv X pins σ H s) (ha : H p = some (.ins C dx fs)) (hl : fs.lookup f = some (.ref t)) (hz : SqT X.K H t zs)
    (q : ∀ it s', Inv X pins σ H s' → s'.heap.IsTupleIter it t 0 → FpOk X pins H it → Q (.ref it) s') : wpAny (model X.prog X.w) A1 (pyIter (.ref p)) Q E1 s := by
  obtain ⟨fi, hfi, hf, go⟩ := c.ex
  obtain ⟨od, J⟩ := inst_of I ha
  obtain ⟨m, hF⟩ := I.fr
  refine PySem.W.owit_iter hF I.ok.mod.kin J hfi hf ?_
  have z0 := I.env0
  have e0 : Env0 X.prog X.w X.K X.mg X.base A1 X.stack s H := ⟨by rw [sb.fr]; exact z0.frames, z0.mod, z0.bs, z0.bsz, z0.funs, z0.frf, z0.hok, z0.bare⟩
  refine wpAny_call (codeAny_mono (go A1 X.stack s H E0 p dx t fs zs sb.room e0 ha hl hz) fun res s' back => ?_)
  match res, back with
  | .error e, back => exact back.elim
  | .ok .next, back => exact back.elim
  | .ok .brk, back => exact back.elim
  | .ok .cont, back => exact back.elim
  | .ok (.ret u), back =>
    obtain ⟨v, G, I2, rv, it, rfl, n1, hy, rfl⟩ := I.after back
    cases rv
    have e2 : upd H it (TiO t it) it = some (TiO t it) := upd_same
    have hit : s'.heap.IsTupleIter it t 0 := by
      have : ObjOk X.prog X.w (upd H it (TiO t it)) s'.heap it (.ext fun h => h.IsTupleIter it t 0) := I2.hok it _ e2
      exact this.1
    show wpAny _ _ (specialOf (.ref it) "__next__") _ _ _
    refine wpAny_specialOf (name := Str.ofString "__next__") hit.typeIs PySem.F.slot_tuple_iterator_next.lookup ?_
    have I3 := ItX.inv_drop I2 e2
    have fp := ItX.inv_fp I2 e2 (Nat.le_trans I.sz hy)
    rw [ItX.dropH_upd n1] at I3 fp
    exact q it s' I3 hit fp
theorem ext_loop {L it t : Addr} {zs : List V} {Rs : Result → Shared → Prop} (hc : X.calm = true) (hL : H L = some (.lst [])) (hz : SqT X.K H t zs) (hzl : zs.length ≤ 1000) (fp : FpOk X pins H it)
    (done : ∀ s', Inv X pins σ (upd H L (.lst zs)) s' → Rs (.ok (.ret .none)) s') :
    ∀ (m i : Nat) (s : Shared), zs.length - i = m → i ≤ zs.length → Inv X pins σ (upd H L (.lst (zs.take i))) s → s.heap.IsTupleIter it t i → codeAny (model X.prog X.w) X.A.in1 (.builtin "list.extend.loop" ⟨[.ref L, .ref it, .none], []⟩) Rs s := by
  have hzi : ∀ ys, SqT X.K (upd H L (.lst ys)) t zs := fun ys => by
    rcases hz with (h | ⟨u, h⟩) | h
    · exact .inl (.inl (by rw [upd_ne fun z => by rw [z, hL] at h; cases h]; exact h))
    · exact .inl (.inr ⟨u, by rw [upd_ne fun z => by rw [z, hL] at h; cases h]; exact h⟩)
    · exact .inr h
  have hit : it ≠ L := fun z => by
    have := fp.1
    rw [z, hL] at this
    cases this
  have fpi : ∀ ys, FpOk X pins (upd H L (.lst ys)) it := fun ys => ⟨by rw [upd_ne hit]; exact fp.1, fp.2⟩
  intro m
  induction m with
  | zero =>
    intro i s hm hi I st
    have e : i = zs.length := by omega
    subst e
    obtain ⟨its, rv, pt, _⟩ := I.tuple (hzi _)
    obtain ⟨f0, f1, f2, f3, f4, f5⟩ := fpi (zs.take zs.length)
    have hl := rv.length
    refine codeAny_builtin PySem.F.entry_extend_loop ?_
    rw [Around.under_plainId PySem.F.plain_extend_loop _]
    show wpAny _ X.A.in1.in1 (pyNext (.ref it) >>= _) _ _ s
    refine wpAny_bind (wpAny_pyNext_tuple_end (I.ok.hd hc) st (show s.heap.IsTuple t its.toArray from pt) (by simp; omega) fun h' eb => ?_)
    have I1 : Inv X pins σ (upd H L (.lst (zs.take zs.length))) { s with heap := h' } := I.turned (t' := s.toks) (fun b o hb e => eb b o hb e) f0 f1 f3 f4 f5
    rw [List.take_length] at I1
    exact wpAny_pure (done _ I1)
  | succ m ih =>
    intro i s hm hi I st
    have hlt : i < zs.length := by omega
    obtain ⟨its, rv, pt, _⟩ := I.tuple (hzi _)
    obtain ⟨u, hu, ru⟩ := rv.get (List.getElem?_eq_getElem hlt)
    obtain ⟨f0, f1, f2, f3, f4, f5⟩ := fpi (zs.take i)
    refine codeAny_builtin PySem.F.entry_extend_loop ?_
    rw [Around.under_plainId PySem.F.plain_extend_loop _]
    show wpAny _ X.A.in1.in1 (pyNext (.ref it) >>= _) _ _ s
    refine wpAny_bind (wpAny_pyNext_tuple_item st (show s.heap.IsTuple t its.toArray from pt) (x := u) (by simpa using hu) fun h' st' sb => ?_)
    have I1 : Inv X pins σ (upd H L (.lst (zs.take i))) { s with heap := h' } := I.turned (t' := s.toks) (fun b o hb e => (sb.2 b hb).trans e) f0 f1 f3 f4 f5
    obtain ⟨z, js, c, rj, hjl, ej⟩ := I1.lstM upd_same
    have tl : (zs.take i).length = i := by rw [List.length_take]; omega
    have jl : js.length = i := by rw [← rj.length, tl]
    show wpAny _ X.A.in1.in1 (updateSeq L (·.push u) >>= _) _ _ _
    have I2 := I1.lset (f := (·.push u)) (its := js) (its' := js ++ [u]) (ys := zs.take (i + 1)) (t' := s.toks) upd_same ej (by simp) (by rw [List.take_add_one, List.getElem?_eq_getElem hlt]; exact rj.append (.cons ru .nil)) (by rw [List.length_take, sizeLine_eq]; omega)
    rw [upd_upd] at I2
    refine wpAny_bind (wpAny_updateSeq ej rfl (wpAny_pure ⟨plainId_quiet PySem.F.plain_extend_loop _, ih (i + 1) _ (by omega) hlt I2 ?_⟩) (by rw [List.size_toArray, jl, sizeLine_eq]; omega) (by show (js.toArray.push u).size ≤ sizeLine + 1; rw [Array.size_push, List.size_toArray, jl, sizeLine_eq]; omega))
    exact st'.at fun o e => (Heap.get?_update_other _ _ (Ne.symm hit)).trans e
def rListO (K : PySem.W.Frag) (C : Addr) (f : Str) (sp : Sp) : List V → Hp → VK → Prop := fun xs H Q => ∃ (p dx t : Addr) (fs : List (Str × V)) (zs : List V), xs = [.ref p] ∧ H p = some (.ins C dx fs) ∧ fs.lookup f = some (.ref t) ∧ SqT K H t zs ∧ zs.length ≤ 1000 ∧
  (∀ G, (∀ b o, H b = some o → G b = some o) → sp [.ref p] G (fun v G' => G' = G ∧ ∃ n : Nat, v = .int (n : Int) ∧ n ≤ 1000) E0) ∧ ∀ q, H q = none → Q (.ref q) (upd H q (.lst zs))
theorem call_listO {f : Str} (hc : X.calm = true) (ci : ItM X.prog X.w X.K X.mg X.base C f k) (cl : OwM X.prog X.w X.K X.mg X.base CX0 C "__len__" k ps sp) (hr : Room (k + 3) X.A) : CallR X (.type "list") (rListO X.K C f sp) := by
  intro pins s σ H xs us Q I rv h
  obtain ⟨p, dx, t, fs, zs, rfl, hp, hl, hz, hzl, hsp, q⟩ := h
  obtain ⟨u, rfl, ru⟩ := rv.one
  cases ru
  have sb : Sub X (k + 1) X.A.in1.in1 := Sub.in1 (Sub.in1 (sub_self hr))
  refine callType_codes (Q₁ := fun obj s1 => obj = .ref s.heap.objs.size ∧ s1 = { s with heap := s.heap.push { cls := .type "list", data := .seq #[] } }) PySem.F.called_list (PySem.F.typeCall_list_1 _) PySem.F.entry_list_init (code_list_new _ ⟨rfl, rfl⟩) fun obj s1 h1 => ?_
  obtain ⟨rfl, rfl⟩ := h1
  have hS : (s.heap.push { cls := .type "list", data := .seq #[] }).get? s.heap.objs.size = some { cls := .type "list", data := .seq #[] } := Heap.get?_push_size _ rfl
  refine ⟨⟨_, hS, rfl⟩, PySem.F.args_list_init_2 _ _, ?_⟩
  have fr : H s.heap.objs.size = none := I.hok.fresh (Nat.le_refl _)
  have I1 : Inv X pins σ (upd H s.heap.objs.size (.lst [])) { s with heap := s.heap.push { cls := .type "list", data := .seq #[] } } := I.lnew (its := []) (t' := s.toks) .nil (Nat.zero_le _)
  have q2 := q _ fr
  have sm : Same H (upd H s.heap.objs.size (.lst [])) := same_new fr
  generalize hLd : s.heap.objs.size = L at hS fr I1 q2 sm ⊢
  show wpAny _ _ (do let old ← Builtin.List.listItems (.ref L); Builtin.List.listUpdate (.ref L) (fun _ => #[]); letGo old.toList.reverse; Builtin.List.listExtendWith (.ref L) (.ref p) .none) _ _ _
  refine wpAny_bind ?_
  unfold Builtin.List.listItems
  refine wpAny_bind (wpAny_seqItems hS rfl (wpAny_pure ?_))
  show wpAny _ _ (updateSeq L (fun _ => #[]) >>= fun _ => letGo (#[] : Array Value).toList.reverse >>= fun _ => Builtin.List.listExtendWith (.ref L) (.ref p) .none) _ _ _
  refine wpAny_bind (wpAny_updateSeq hS rfl ?_)
  have I2 := I1.lset (f := fun _ => #[]) (its := []) (its' := []) (ys := []) (t' := s.toks) upd_same hS rfl .nil (Nat.zero_le _)
  rw [upd_upd] at I2
  refine wpAny_bind (wpAny_letGo ?_)
  have hp2 := sm _ _ hp
  have hz2 := Bx.Same.tup sm hz
  have hsp2 := hsp _ sm
  have hL2 : upd H L (.lst []) L = some (.lst []) := upd_same
  have hne : L ≠ p := fun z => by rw [← z, fr] at hp; cases hp
  have fin : ∀ s', Inv X pins σ (upd (upd H L (.lst [])) L (.lst zs)) s' → EP X pins σ Q (.ref L) s' := fun s' I' => by
    rw [upd_upd] at I'
    exact ⟨.ref L, _, I', rfl, q2⟩
  clear q2 q hsp I1 I hS
  obtain ⟨mA, J, _⟩ := ins_get I2.hok hp2
  obtain ⟨od, J, _⟩ := J.look
  unfold Builtin.List.listExtendWith
  refine wpAny_bind (J.type.here ?_)
  have e1 : Builtin.List.listSameRef (.ref L) (.ref p) = false := by simp [Builtin.List.listSameRef, hne]
  have e2 : (Value.ref C == Value.type "list") = false := rfl
  have e3 : (Value.ref C == Value.type "tuple") = false := rfl
  simp only [e1, e2, e3, Bool.or_false, Bool.false_eq_true, if_false]
  refine wpAny_bind (iter_at (sb.mono (Nat.le_succ _)) ci I2 hp2 hl hz2 fun it s2 I3 hit fp => ?_)
  obtain ⟨oi, hoi, hci, hdi⟩ := id hit
  have Ip := I3.pinned (fp := [it]) (fun b hb => by rw [List.mem_singleton.mp hb]; exact fp) (fun b hb => by rw [List.mem_singleton.mp hb]; exact ⟨oi, hoi, fun v z => by rw [hdi] at z; cases z⟩)
  refine wpAny_bind (wpAny_holding (hint_own sb cl Ip hp2 hsp2 fun b s3 I4 => ?_))
  have hit3 : s3.heap.IsTupleIter it t 0 := hit.at fun o e => (I4.pin (it, o) (List.mem_append_right _ (List.mem_append_right _ (mem_pinsAt List.mem_cons_self e)))).1
  have I5 := I4.unpinned
  have run : ∀ s5, Inv X pins σ (upd (upd H L (.lst [])) L (.lst (zs.take 0))) s5 → s5.heap.IsTupleIter it t 0 → codeAny (model X.prog X.w) X.A.in1 (.builtin "list.extend.loop" ⟨[.ref L, .ref it, .none], []⟩) (wants (fun r s6 => r = .none ∧ EP X pins σ Q (.ref L) s6) X.xe) s5 := fun s5 J5 st5 =>
    ext_loop hc hL2 hz2 hzl fp (fun s6 J6 => ⟨rfl, fin s6 J6⟩) _ 0 s5 rfl (Nat.zero_le _) J5 st5
  have hH : upd (upd H L (.lst [])) L (.lst (zs.take 0)) = upd H L (.lst []) := upd_upd
  rw [hH] at run
  have hneL : it ≠ L := fun z => by
    have := fp.1
    rw [z, hL2] at this
    cases this
  refine wpAny_ite_split (fun _ => wpAny_bind (wpAny_rule (wpAny_bind ?_))) (fun _ => wpAny_pure ⟨plainId_quiet PySem.F.plain_extend_loop _, run s3 I5 hit3⟩)
  obtain ⟨z1, j1, c1, r1, l1, w1⟩ := I5.lstM hL2
  cases r1
  show wpAny _ _ (updateSeq L (·.push .none) >>= fun _ => updateSeq L (·.pop)) _ _ s3
  have K1 := I5.lset (f := (·.push Value.none)) (its' := [Value.none]) (ys := [.non]) (t' := s3.toks) hL2 w1 (by simp) (.cons rfl .nil) (by rw [sizeLine_eq]; decide)
  refine wpAny_bind (wpAny_updateSeq w1 rfl ?_)
  obtain ⟨z2, j2, c2, r2, l2, w2⟩ := K1.lstM upd_same
  obtain ⟨u2, rfl, _⟩ := r2.one
  have K2 := K1.lset (f := (·.pop)) (its := [u2]) (its' := []) (ys := []) (t' := s3.toks) upd_same w2 rfl .nil (Nat.zero_le _)
  rw [upd_upd, upd_upd] at K2
  refine wpAny_updateSeq w2 rfl (wpAny_pure ⟨plainId_quiet PySem.F.plain_extend_loop _, run _ K2 ?_⟩) (by show 1 ≤ sizeLine; rw [sizeLine_eq]; decide) (Nat.zero_le _)
  exact hit3.at fun o e => (Heap.get?_update_other _ _ (Ne.symm hneL)).trans ((Heap.get?_update_other _ _ (Ne.symm hneL)).trans e)
end
end Px
/-! o.m(..) where a method that may raise does not; C.m(..) of a classmethod. -/
namespace Px
open PySem PySem.Spec PyProof.Rows L2 Bx TL Dx Zx Ow
structure CmC (P : Program) (w : World) (K : PySem.W.Frag) (mg : Str → Option Value) (base : Heap) (C : Addr) (m : Str) (k : Nat) (sp : Sp) : Prop where
  ex : ∃ (mc : Value) (p g : Addr), ClX.CRead K C mc ∧ ClX.CMet K C mc m p g ∧ FnR P w K mg base CX0 k g sp
section
variable {X : Cx} {k : Nat} {ps : List Str} {sp : Sp} {o e : Expr} {es : List Expr} {t : TA} {apos pos : Pos} {C : Addr} {m : Str} {to : TE} {pl : Sem Bool}
theorem pe_mthN (c : MthX X.prog X.w X.K X.mg X.base C m k ps sp) (hr : Room k X.A) (ho : PE X o to) (ha : PA X (e :: es) t)
    (hst : starEach (e :: es) X.env = (false, eval e X.env) :: starEach es X.env := by rfl) (hpl : (backTo pos (starEach es X.env)).any (·.1) = false := by rfl)
    (ht : eval (.Call (.Attribute o m apos) (e :: es) [] pos) X.env = (do
      let ov ← eval o X.env
      standAt apos.atName
      let (f, first) ← holding [ov] (getMethod ov m pl)
      callWith pos f first (backTo pos (starEach (e :: es) X.env)) (backToKw pos (keywordEach [] X.env))) := by rfl) : PE X (.Call (.Attribute o m apos) (e :: es) [] pos) (tMeth C m sp [] E0 to t) := by
  obtain ⟨f, fd, cl, mt, ok, b⟩ := c.ex
  exact pe_meth (E := E0) ho cl mt ok hr b .nil passN ha hst hpl ht
theorem pe_cme (c : CmC X.prog X.w X.K X.mg X.base C m k sp) (hr : Room k X.A) (ho : PE X o to) (ha : PA X (e :: es) t)
    (hst : starEach (e :: es) X.env = (false, eval e X.env) :: starEach es X.env := by rfl) (hpl : (backTo pos (starEach es X.env)).any (·.1) = false := by rfl)
    (ht : eval (.Call (.Attribute o m apos) (e :: es) [] pos) X.env = (do
      let ov ← eval o X.env
      standAt apos.atName
      let (f, first) ← holding [ov] (getMethod ov m pl)
      callWith pos f first (backTo pos (starEach (e :: es) X.env)) (backToKw pos (keywordEach [] X.env))) := by rfl) : PE X (.Call (.Attribute o m apos) (e :: es) [] pos) (ClX.tCMeth C sp E0 to t) := by
  obtain ⟨mc, p, g, r, cm, F⟩ := c.ex
  exact ClX.pe_cmeth ho r cm F hr L2.pass0 ha hst hpl ht
/-- a property by its promise -/
structure PropC (P : Program) (w : World) (K : PySem.W.Frag) (mg : Str → Option Value) (base : Heap) (C : Addr) (m : Str) (k : Nat) (sp : Sp) : Prop where
  cl : Cls K C
  ex : ∃ (p g : Addr) (fd : FuncData), PropOf K C m p g ∧ FnOk P w K mg base CX0 k g fd ["self"] sp ∧ Binds K fd ["self"] []
theorem pe_propC {ta : TE} (c : PropC X.prog X.w X.K X.mg X.base C m k sp) (hr : Room (k + 1) X.A) (he : PE X e ta) (hab : attributeBase e m X.env (eval e X.env) = eval e X.env) : PE X (.Attribute e m pos) (tProp C sp [] E0 ta) := by
  obtain ⟨p, g, fd, hp, F, hb⟩ := c.ex
  exact pe_prop he c.cl hp F hr hb .nil L2.pass0 hab
end
end Px
/-! dicts whose keys are tuples: made by a comprehension. -/
namespace Dt
open PySem PySem.Spec PyProof.Rows L2 Bx TL Dx Zx
/-- the store of such a comprehension -/
theorem put_in {X : Cx} {pins : List (Addr × Obj)} {σ : L2.St} {H : Hp} {s : Shared} {E : Value → Shared → Prop} {D b : Addr} {kvs : List (List Key × V)} {k : List Key} {v : V} {r : Value} {Q : Unit → Shared → Prop} (hu : X.A.units < cLine) (J : Inv X pins σ H s) (hD : H D = some (.dT kvs)) (hl : kvs.length < sizeLine)
    (hb : H b = some (.tup (k.map kV))) (rv : RelV v r) (q : ∀ s', Inv X pins σ (upd H D (.dT (putK kvs k v))) s' → Q () s') : wpAny (model X.prog X.w) X.A (dictSet D (.ref b) r) Q E s := by
  obtain ⟨_, ns, xs, rel, dd⟩ := dt_of J.hok hD
  have small : xs.length ≤ sizeLine := by
    have := Paired.length rel
    omega
  have after : (putK kvs k v).length ≤ sizeLine := by
    have := length_putK kvs k v
    omega
  refine wpAny_dictSet_heap (hsz := small) hu (key_of J.hok hb) dd fun g dg sb => q _ ?_
  obtain ⟨ob, es, ep, ho, x2, x3, x4, _, x5⟩ := dg
  refine d_write J (by rw [hD]; exact True.intro) sb ⟨ob, ho⟩ ⟨after, ns, _, (rel.put k hb rv).keeps fun c ys e => ?_, ob, es, ep, ho, x2, x3, x4, x5⟩
  rw [upd_ne (ne_of e hD fun z => nomatch z)]
  exact e
end Dt
namespace Dt
open PySem PySem.Spec PyProof.Rows L2 Bx TL Dx Zx
section
variable {X : Cx}
/-- {k: v for target in iter if ..}, the keys tuples of ints and texts -/
def tDcT (wi : TI) (g : TG) (tt : TT) (tk tv : TE) (vs : List Nat) : TE := fun σ H Q => wi σ H fun J H1 => ∀ D, H1 D = none → ∃ W : Nat → Nat → Hp → Prop, (∃ m, W 0 m (upd H1 D (.dT []))) ∧ ∀ i m H, W i m H →
  (J.stop i H ∧ Q (.ref D) H) ∨ (J.go i H ∧ ∃ Nx : Hp → Prop, (∀ H', Nx H' → ∃ m', m' < m ∧ W (i + 1) m' H') ∧ ∀ x H', J.yld i H x H' → g x (wipe σ vs) H' fun σ2 H2 => wipe σ2 vs = wipe σ vs ∧ tt σ2 H2 fun b H3 =>
    if b = true then tk σ2 H3 fun y H4 => tv σ2 H4 fun z H5 => ∃ a kvs k, y = .ref a ∧ H5 a = some (.tup (k.map kV)) ∧ H5 D = some (.dT kvs) ∧ kvs.length < sizeLine ∧ Nx (upd H5 D (.dT (putK kvs k z))) else Nx H3)
end
end Dt
namespace Dt
open PySem PySem.Spec PyProof.Rows L2 Bx TL Dx Zx
section
variable {X : Cx}
/-- what holds between the turns: the block's slots are bare, the iterator stands at i, the measure is n -/
def Between (Y : Cx) (fp : List Addr) (tn : Nat → Heap → Prop) (W : Nat → Nat → Hp → Prop) (τ : L2.St) (n : Nat) (z : Shared) : Prop := ∃ i G, Inv Y [] τ G z ∧ tn i z.heap ∧ (∀ b ∈ fp, G b = none) ∧ W i n G
theorem dct_core {pins : List (Addr × Obj)} {s : Shared} {σ : L2.St} {H : Hp} {Q : VK} {kx vx tg iter : Expr} {ifs : List Expr} {scope : Scope} {own : List (Str × Nat)} {pos pos' : Pos} {wi : TI} {g : TG} {tt : TT} {tk tv : TE} {use : Option (Value → Sem Unit)} {Qf : Value → Shared → Prop}
    (hu : X.A.units < cLine) (calm : X.calm = true) (nod : X.N.Nodup) (J : Inv X pins σ H s) (walk : PI X tg iter wi) (ok : BlkOk X.N X.env.scope scope own)
    (pg : ∀ (z : Shared) (G : Hp) (C : Addr) (cl : List (Str × Addr)) (fp : List Addr), PG (X.blk z G scope (compEnvC scope cl C X.env) fp) tg g) (pt : ∀ (z : Shared) (G : Hp) (C : Addr) (cl : List (Str × Addr)) (fp : List Addr), PTs (X.blk z G scope (compEnvC scope cl C X.env) fp) ifs tt)
    (pk : ∀ (z : Shared) (G : Hp) (C : Addr) (cl : List (Str × Addr)) (fp : List Addr), PE (X.blk z G scope (compEnvC scope cl C X.env) fp) kx tk) (pv : ∀ (z : Shared) (G : Hp) (C : Addr) (cl : List (Str × Addr)) (fp : List Addr), PE (X.blk z G scope (compEnvC scope cl C X.env) fp) vx tv)
    (fold : ∀ x, foldedSetIterable iter X.env x = pure x) (want : tDcT wi g tt tk tv (own.map (·.2)) σ H Q)
    (back : ∀ D C z m G, Inv X pins σ G z → Q (.ref D) G → z.heap.Ns C m → FpOk X pins G C → compPost (model X.prog X.w) X.A X.xe use Qf (.ref D) C (.ok .next) z) :
    wpAny (model X.prog X.w) X.A (comprehension (.DictComp kx vx [⟨tg, iter, ifs, 0⟩] scope pos) scope X.env pos' newDict false (eval iter X.env) use) Qf X.xe s := by
  have free : ∀ y ∈ scope.names, y.2 = .free → ∃ c, X.env.cells.lookup y.1 = some c := fun y m e => (ok.free y m e).elim (fun k => J.ok.has _ (.inl k)) fun k => J.ok.has _ (.inr k)
  have names : ∀ y ∈ scope.names, y.2 = .local → scope.names.lookup y.1 = some .local := fun y m e => by
    have := ok.uniq y m
    rw [e] at this
    exact this
  refine wpAny_comprehension_free (use := use) rfl fold (closure_ok free) ok.kind names (thn (walk.run pins s σ H _ J want) fun first z1 got => thn got fun itv z2 ready => ?_)
  obtain ⟨it, fp, tn, I0, G2, rfl, J2, T, at0, out2, q⟩ := ready
  refine wpAny_newObj_type (newEnv_comp ?_)
  have bare : G2 z2.heap.objs.size = none := J2.hok.fresh (Nat.le_refl _)
  obtain ⟨W, ⟨n0, start⟩, turn⟩ := q _ bare
  have lo : ∀ b ∈ fp, b < z2.heap.objs.size := fun b m => by
    obtain ⟨u, hu2, _⟩ := T.obj _ _ at0 b m
    exact Heap.lt_size hu2
  have J3 : Inv X pins σ (upd G2 z2.heap.objs.size (.dT [])) { z2 with heap := z2.heap.push { cls := .type "dict", data := .dict #[] } } :=
    J2.laid (t' := z2.toks) (fun b o e => Heap.get?_push_of_some _ e) (Nat.le_refl _) (dt_empty z2.heap J2.big)
  have out3 : ∀ b ∈ fp, FpOk X pins (upd G2 z2.heap.objs.size (.dT [])) b ∧ b < (z2.heap.push { cls := .type "dict", data := .dict #[] }).objs.size := fun b m => by
    have l := lo b m
    refine ⟨⟨?_, (out2 b m).2⟩, ?_⟩
    · rw [upd_ne (Nat.ne_of_lt l)]
      exact (out2 b m).1
    · rw [Heap.size_push]
      exact Nat.lt_succ_of_lt l
  have at3 : tn 0 (z2.heap.push { cls := .type "dict", data := .dict #[] }) := T.keep _ _ _ at0 fun b _ o e => Heap.get?_push_of_some _ e
  generalize hD : z2.heap.objs.size = D at *
  generalize hz3 : ({ z2 with heap := z2.heap.push { cls := .type "dict", data := .dict #[] } } : Shared) = z3 at *
  have e3 : z3.heap = z2.heap.push { cls := .type "dict", data := .dict #[] } := by rw [← hz3]
  rw [← e3] at out3 at3
  have J4 := block_start J3 ok nod out3
  have bare3 : ∀ b ∈ fp, (upd G2 D (.dT [])) b = none := fun b m => (out3 b m).1.1
  generalize upd G2 D (.dT []) = G3 at J3 J4 bare3 out3 start
  generalize hcl : cellsFrom (z3.heap.objs.size + 1) scope.names (cloFrom X.env.cells scope.names []) = cl at J4 ⊢
  generalize hC : z3.heap.objs.size = C at *
  have g1 := pg z3 G3 C cl fp
  have g2 := pt z3 G3 C cl fp
  have g3 := pk z3 G3 C cl fp
  have g4 := pv z3 G3 C cl fp
  show codeAny _ _ (.compStart (.DictComp kx vx [⟨tg, iter, ifs, 0⟩] scope pos) 0 (.ref it) (.ref D) (compEnvC scope cl C X.env)) (compPost (model X.prog X.w) X.A X.xe use Qf (.ref D) C) { z3 with heap := pushCells (z3.heap.push { cls := .type "dict", data := .dict #[] }) scope.names }
  have at4 : tn 0 (pushCells (z3.heap.push { cls := .type "dict", data := .dict #[] }) scope.names) := T.keep _ _ _ at3 fun b _ o e => pushCells_keeps _ _ _ _ (Heap.get?_push_of_some _ e)
  generalize hz4 : ({ z3 with heap := pushCells (z3.heap.push { cls := .type "dict", data := .dict #[] }) scope.names } : Shared) = z4 at J4 ⊢
  have at4' : tn 0 z4.heap := by
    rw [← hz4]
    exact at4
  have cloc : (compEnvC scope cl C X.env).locals = C := rfl
  generalize compEnvC scope cl C X.env = ce at J4 g1 g2 g3 g4 cloc ⊢
  have stays : ∀ {τ : L2.St} {G : Hp} {z : Shared}, Inv (X.blk z3 G3 scope ce fp) [] τ G z → (∀ b ∈ fp, G b = none) → ∀ b ∈ fp, FpOk (X.blk z3 G3 scope ce fp) [] G b := fun J' hn b m =>
    ⟨hn b m, (J'.ok.exf b m).1, J'.ok.exfs b m, .inl m, fun x c e => (J'.ok.exf b m).2 x c e, fun p hp => absurd (show p ∈ ([] : List (Addr × Obj)) ++ [] from hp) (by simp)⟩
  have loop : codeAny (model X.prog X.w) X.A (.compLoop (.DictComp kx vx [⟨tg, iter, ifs, 0⟩] scope pos) 0 (.ref it) (.ref D) ce) (compPost (model X.prog X.w) X.A X.xe use Qf (.ref D) C) z4 := by
    refine compLoop_anyD (fun n z => Between (X.blk z3 G3 scope ce fp) fp tn W (wipe σ (own.map (·.2))) n z) (fun n z5 h5 => ?_) n0 ⟨0, G3, J4, at4', bare3, start⟩
    obtain ⟨i, G5, J5, at5, bare5, w5⟩ := h5
    rcases turn i n G5 w5 with ⟨stop, fin⟩ | ⟨go, Nx, less, step⟩
    · have over := T.done (X.blk z3 G3 scope ce fp) rfl rfl rfl calm i [] z5 _ G5 (fun _ _ => False) J5 (stays J5 bare5) at5 stop
      refine thnF over fun r z6 ⟨none_, J6⟩ => ?_
      subst none_
      have home : Inv X pins σ G5 z6 := J3.call' (ch := fp) J6.os J6.base J6.hok J6.bare fun b m => ⟨(out3 b m).1.2.2.2.1, (out3 b m).1.2.1, (out3 b m).1.2.2.2.2.1, (out3 b m).1.2.2.2.2.2⟩
      have noC : G5 C = none := by
        have f : G5 ce.locals = none := J6.free
        rwa [cloc] at f
      obtain ⟨m, ns, _⟩ := J6.loc
      have ns2 : z6.heap.Ns ce.locals m := ns
      rw [cloc] at ns2
      exact back D C z6 m G5 home fin ns2 (J3.fpOk (Nat.le_of_eq hC) noC)
    · have one := T.item (X.blk z3 G3 scope ce fp) rfl rfl rfl calm i [] z5 _ G5 (fun _ _ => False) J5 (stays J5 bare5) at5 go
      refine thnF one fun r z6 ⟨u, some_, h6⟩ => ?_
      subst some_
      refine thnF h6 fun _ z7 ⟨x, G7, J7, rx, y7, at7, bare7⟩ => ?_
      have J7p := J7.pinned (stays J7 bare7) (T.obj _ _ at7)
      refine thnF (g1.run _ z7 _ G7 x u _ J7p rx (step x G7 y7)) fun _ z8 ⟨σ8, G8, J8, clean, q8⟩ => ?_
      refine thnF (g2.run _ z8 σ8 G8 _ J8 q8) fun b z9 ⟨G9, J9, q9⟩ => ?_
      have next : ∀ {z : Shared} {G : Hp}, Inv (X.blk z3 G3 scope ce fp) ([] ++ pinsAt fp z7.heap) σ8 G z → Nx G → ∃ m, m < n ∧ Between (X.blk z3 G3 scope ce fp) fp tn W (wipe σ (own.map (·.2))) m z := fun {z G} J' nx => by
        obtain ⟨m, lt, w'⟩ := less G nx
        have held : ∀ b ∈ fp, ∀ o, z7.heap.get? b = some o → z.heap.get? b = some o ∧ G b = none := fun b m o e =>
          have k := J'.pin (b, o) (List.mem_append_right _ (List.mem_append_right _ (mem_pinsAt m e)))
          ⟨k.1, k.2.1⟩
        have long : (wipe σ (own.map (·.2))).length = σ8.length := by rw [← clean, wipe_length]
        refine ⟨m, lt, i + 1, G, (J'.unpinned (pins := [])).weak long (fun j v e => ?_), T.keep _ _ _ at7 fun b m o e => (held b m o e).1, fun b m => ?_, w'⟩
        · rw [← clean] at e
          exact (wipe_some e).1
        · obtain ⟨o, e, _⟩ := T.obj _ _ at7 b m
          exact (held b m o e).2
      cases b with
      | false =>
        simp only [Bool.false_eq_true, if_false] at q9 ⊢
        exact next J9 q9
      | true =>
        simp only [if_true] at q9 ⊢
        refine thnF (g3.run _ z9 σ8 G9 _ J9 q9) fun kv z10 ⟨y, G10, J10, ry, q10⟩ => ?_
        refine thnF (g4.run _ z10 σ8 G10 _ J10 q10) fun vv z11 ⟨v, G11, J11, rv, a, kvs, k, ey, ha, hd, small, nx⟩ => ?_
        subst ey
        cases ry
        exact put_in (X := X.blk z3 G3 scope ce fp) hu J11 hd small ha rv fun z12 J12 => next J12 nx
  exact codeAny_compStart_dict loop (T.self X.A 0 _ _ _ at4' loop)
end
end Dt
namespace Dt
open PySem PySem.Spec PyProof.Rows L2 Bx TL Dx Zx
section
variable {X : Cx}
/-- name = {k: v for ..}, the keys tuples -/
theorem ps_setDcT {i : Nat} {y : Str} {py : Pos} {kx vx tg iter : Expr} {ifs : List Expr} {scope : Scope} {own : List (Str × Nat)} {pos spos : Pos} {wi : TI} {g : TG} {tt : TT} {tk tv : TE} (hu : X.A.units < cLine) (hc : X.calm = true) (hN : X.N.Nodup) (hy : X.N[i]? = some y) (hyl : X.env.scope.names.lookup y = some .local)
    (hsw : swapsWith (.DictComp kx vx [⟨tg, iter, ifs, 0⟩] scope pos) (some (.Name y py)) spos.line X.env = pure true) (hi : PI X tg iter wi) (ok : BlkOk X.N X.env.scope scope own)
    (hg : ∀ (s : Shared) (H : Hp) (C : Addr) (cl : List (Str × Addr)) (fp : List Addr), PG (X.blk s H scope (compEnvC scope cl C X.env) fp) tg g) (ht : ∀ (s : Shared) (H : Hp) (C : Addr) (cl : List (Str × Addr)) (fp : List Addr), PTs (X.blk s H scope (compEnvC scope cl C X.env) fp) ifs tt)
    (hk : ∀ (s : Shared) (H : Hp) (C : Addr) (cl : List (Str × Addr)) (fp : List Addr), PE (X.blk s H scope (compEnvC scope cl C X.env) fp) kx tk)
    (he : ∀ (s : Shared) (H : Hp) (C : Addr) (cl : List (Str × Addr)) (fp : List Addr), PE (X.blk s H scope (compEnvC scope cl C X.env) fp) vx tv) (hs : ∀ x, foldedSetIterable iter X.env x = pure x := by intro _; rfl) :
    PS X (.Assign [.Name y py] (.DictComp kx vx [⟨tg, iter, ifs, 0⟩] scope pos) spos) (tAsg (tDcT wi g tt tk tv (own.map (·.2))) (gName i)) := by
  refine ⟨fun pins s σ H D I h => ?_⟩
  rw [exec_Assign_Name_used _ _ _ _ hsw]
  refine wpAny_bind (wpAny_standAt (wpAny_bind ?_))
  show wpAny _ X.A (do let _ ← comprehension (.DictComp kx vx [⟨tg, iter, ifs, 0⟩] scope pos) scope X.env _ newDict false (eval iter X.env) (some (assign (.Name y py) X.env))) _ _ s
  have h : tDcT wi g tt tk tv (own.map (·.2)) σ H (fun x H1 => gName i x σ H1 D.nx) := h
  refine wpAny_bind (thn (dct_core (Qf := fun _ s' => SP X pins D .next s') hu hc hN I hi ok hg ht hk he hs h fun L C s' m H' I' q hn f => ?_) fun _ s' hq => wpAny_pure (wpAny_pure hq))
  show wpAny _ _ (assign (.Name y py) X.env (.ref L)) _ _ _
  refine wpAny_assign_Name (store_ok2 (v := V.ref L) I' hN hy (.inl hyl) rfl (fun s2 I2 ⟨a, sb, ha⟩ => ?_) (.inr hyl))
  obtain ⟨f0, f1, f2, f3, f4, f5⟩ := f
  have haC : C ≠ a := by
    rcases ha with z | z
    · rw [z]; exact f1
    · exact fun e => f4 y a z e.symm
  refine ⟨m, hn.sameBut sb haC, fun h3 sb3 => ?_⟩
  exact ⟨_, H', I2.turned (t' := s2.toks) (fun b o hb e => (sb3.2 b hb).trans e) f0 f1 f3 f4 f5, q⟩
end
/-- over a walk -/
theorem dct_it {J : It} {n : Nat} {G : Hp → Prop} {Y : Nat → Hp → V → Hp → Prop} (w : Walk J n G Y) {g : TG} {tt : TT} {tk tv : TE} {vs : List Nat} {σ : L2.St} {H1 : Hp} {D : Addr} {Qd : Hp → Prop} (Pv : Nat → Hp → Prop) (h0 : Pv 0 (upd H1 D (.dT []))) (hG : ∀ i H, i ≤ n → Pv i H → G H)
    (hs : ∀ i x H H', i < n → Pv i H → Y i H x H' → g x (wipe σ vs) H' fun σ2 H2 => wipe σ2 vs = wipe σ vs ∧ tt σ2 H2 fun b H3 =>
      if b = true then tk σ2 H3 fun y H4 => tv σ2 H4 fun z H5 => ∃ a kvs k, y = .ref a ∧ H5 a = some (.tup (k.map kV)) ∧ H5 D = some (.dT kvs) ∧ kvs.length < sizeLine ∧ Pv (i + 1) (upd H5 D (.dT (putK kvs k z))) else Pv (i + 1) H3) (hd : ∀ H, Pv n H → Qd H) :
    ∃ W : Nat → Nat → Hp → Prop, (∃ m, W 0 m (upd H1 D (.dT []))) ∧ ∀ i m H, W i m H →
      (J.stop i H ∧ Qd H) ∨ (J.go i H ∧ ∃ Nx : Hp → Prop, (∀ H', Nx H' → ∃ m', m' < m ∧ W (i + 1) m' H') ∧ ∀ x H', J.yld i H x H' → g x (wipe σ vs) H' fun σ2 H2 => wipe σ2 vs = wipe σ vs ∧ tt σ2 H2 fun b H3 =>
        if b = true then tk σ2 H3 fun y H4 => tv σ2 H4 fun z H5 => ∃ a kvs k, y = .ref a ∧ H5 a = some (.tup (k.map kV)) ∧ H5 D = some (.dT kvs) ∧ kvs.length < sizeLine ∧ Nx (upd H5 D (.dT (putK kvs k z))) else Nx H3) :=
  walk_any (B := fun (Nx : Hp → Prop) x H' => g x (wipe σ vs) H' fun σ2 H2 => wipe σ2 vs = wipe σ vs ∧ tt σ2 H2 fun b H3 =>
        if b = true then tk σ2 H3 fun y H4 => tv σ2 H4 fun z H5 => ∃ a kvs k, y = .ref a ∧ H5 a = some (.tup (k.map kV)) ∧ H5 D = some (.dT kvs) ∧ kvs.length < sizeLine ∧ Nx (upd H5 D (.dT (putK kvs k z))) else Nx H3) w Pv h0 hG hs hd
end Dt
namespace Dt
open PySem PySem.Spec PyProof.Rows L2
/-- e.f within a block: the written part is named -/
theorem pe_fldK {X : Cx} {K : PySem.W.Frag} {e : Expr} {f : Str} {pos : Pos} {ta : TE} (h : X.K = K) (he : PE X e ta) (hb : attributeBase e f X.env (eval e X.env) = eval e X.env) : PE X (.Attribute e f pos) (tFld K ta f) := by
  subst h
  exact pe_fld he hb
end Dt
/-! a comprehension within another one's block -/
namespace Nx
open PySem PySem.Spec PyProof.Rows L2
theorem rel_eq {scope : Scope} {env : Env} {sc : Scope} (h : env.scope = sc) : relabel scope env = relS scope sc := by
  subst h
  rfl
theorem blkOk_nest {N : List Str} {sc scope1 scope : Scope} {cl : List (Str × Addr)} {C : Addr} {env : Env} {own : List (Str × Nat)} (he : env.scope = sc) (h : blkC N (relS scope1 sc) scope own = true) : BlkOk N (compEnvC scope1 cl C env).scope scope own := by
  have e : (compEnvC scope1 cl C env).scope = relS scope1 sc := rel_eq he
  rw [e]
  exact blkOk_by h
/-- d.setdefault(t, v), t a tuple of ints and texts -/
def rSetdT : V → List V → Hp → VK → Prop := fun x vs H Q => ∃ (a b : Addr) (kvs : List (List Key × V)) (k : List Key) (v : V), x = .ref a ∧ vs = [.ref b, v] ∧ H a = some (.dT kvs) ∧ H b = some (.tup (k.map kV)) ∧ kvs.length < sizeLine ∧
  (∀ u, valV kvs k = some u → Q u H) ∧ (valV kvs k = none → Q v (upd H a (.dT (putK kvs k v))))
theorem mt_setdT {X : Cx} (hu : X.A.units + 1 < cLine) : MtR X "dict.setdefault" rSetdT := by
  intro pins s σ H x xs v us Q I rx rs q
  obtain ⟨a, b, kvs, k, y, rfl, rfl, ea, eb, hl, w1, w2⟩ := q
  cases rx
  cases rs with
  | cons r1 rs =>
    cases rs with
    | cons r2 rs =>
      cases rs
      cases r1
      obtain ⟨z, hd, xs0, rel, dd⟩ := dt_of I.hok ea
      have hz : xs0.length ≤ sizeLine := by rw [← Paired.length rel]; exact z
      have hl2 : (putK kvs k y).length ≤ sizeLine := by have := length_putK kvs k y; omega
      refine call_setdefault_heap (hsz := hz) (tupleKind_room_in1 hu) (key_of I.hok eb) hd dd (fun p hp => ?_) fun hn h' dd' hs => ?_
      · have rr := rel.val k
        rw [hp] at rr
        cases e : valV kvs k with
        | none =>
          rw [e] at rr
          have := rr.isSome_eq
          cases this
        | some u =>
          rw [e] at rr
          exact ⟨u, H, I.tok _, rr, w1 u e⟩
      · have rr := rel.val k
        rw [hn] at rr
        have e : valV kvs k = none := by
          cases e : valV kvs k with
          | none => rfl
          | some u =>
            rw [e] at rr
            have := rr.isSome_eq
            cases this
        obtain ⟨q, es, ep, hq, h2, h3, h4, _, h5⟩ := dd'
        refine ⟨y, upd H a (.dT (putK kvs k y)), d_write I (by rw [ea]; exact True.intro) hs ⟨q, hq⟩ ⟨hl2, hd, _, (rel.put k eb r2).keeps fun c ys ec => ?_, q, es, ep, hq, h2, h3, h4, h5⟩, r2, w2 e⟩
        rw [upd_ne (ne_of ec ea (fun z => nomatch z))]
        exact ec
end Nx
/-! sorted(xs), xs a list of data (alike tuples, ..), any length: the stable sort by the order of data. -/
namespace So
open PySem PySem.Spec PyProof.Rows L2 Bx TL Dx PySem.W
section
variable {X : Cx} {pins : List (Addr × Obj)} {σ : L2.St} {H : Hp} {s : Shared}
theorem each_of (I : Inv X pins σ H s) : ∀ {vs : List V} {us : List Value} {ds : List PyData}, DpAll X.K H vs ds → Vals vs us → EachIs (fun u d => (∃ v, Dp X.K H v d ∧ L2.RelV v u) ∧ ∃ as, Reads s.heap u d as) us ds
  | [], [], [], _, _ => .nil
  | v :: vs, u :: us, d :: ds, h, r => by
    cases h with
    | cons h1 h2 =>
      cases r with
      | cons r1 r2 => exact .cons ⟨⟨v, h1, r1⟩, Dp.reads I d v u h1 r1⟩ (each_of I h2 r2)
  | [], _ :: _, _, _, r => by cases r
  | _ :: _, [], _, _, r => by cases r
  | [], [], _ :: _, h, _ => by cases h
  | _ :: _, _ :: _, [], h, _ => by cases h
theorem each_back {K : Frag} : ∀ {us : List Value} {ds : List PyData}, EachIs (fun u d => ∃ v, Dp K H v d ∧ L2.RelV v u) us ds → ∃ vs, Vals vs us ∧ DpAll K H vs ds
  | _, _, .nil => ⟨[], .nil, .nil⟩
  | _, _, .cons ⟨v, h, r⟩ t => by
    obtain ⟨vs, r2, h2⟩ := each_back t
    exact ⟨v :: vs, .cons r r2, .cons h h2⟩
def dle : PyData → PyData → Bool := dataLe false id
def rSortD (K : Frag) : List V → Hp → VK → Prop := fun xs H Q => ∃ (a : Addr) (vs : List V) (ds : List PyData), xs = [V.ref a] ∧ SqL K H a vs ∧ DpAll K H vs ds ∧ AllAlike ds ∧ Sortable ds ∧ ds.length ≤ sizeLine ∧ (∀ d ∈ ds, d.depth ≤ 60) ∧
  ∀ (ys : List V) (p : Addr), H p = none → DpAll K H ys (ds.mergeSort dle) → Q (.ref p) (upd H p (.lst ys))
theorem cr_sortD (hu : X.A.units + 65 < cLine) : CallR X (.builtin "sorted") (rSortD X.K) := by
  intro pins s σ H xs us Q I r h
  obtain ⟨a, vs, ds, rfl, hs, hd, hal, hso, hz, hdp, q⟩ := h
  cases r with
  | cons r1 r2 =>
    cases r2
    cases r1
    obtain ⟨its, rv, hl, _⟩ := I.list hs
    have ea := each_of I hd rv
    refine sorted_data (bs := ds) (enc := id) (R := fun u d => ∃ v, Dp X.K H v d ∧ L2.RelV v u) hl.isList (ea.mono fun _ _ z => z.1) (ea.mono fun _ _ z => z.2) (by rw [List.map_id]; exact hal) (by rw [List.map_id]; exact hso) hz (fun d hd => ?_) fun out hlen eo => ?_
    · have := hdp d hd
      show X.A.units + 2 + d.depth < cLine
      omega
    · obtain ⟨ys, ry, dy⟩ := each_back eo
      obtain ⟨ep, he'⟩ := PyProof.Rows.sortedAll_at s.heap its out.toArray
      have hyl : ys.length = ds.length := by rw [ry.length, hlen]
      exact ⟨.ref _, upd H (s.heap.objs.size + 1) (.lst ys), I.laid (t' := s.toks) (fun _ _ => PyProof.Rows.sortedAll_old) (Nat.le_succ _) ⟨by rw [hyl]; exact hz, out, ep, ry, by simpa using he'⟩, rfl, q ys _ (I.hok.fresh (Nat.le_succ _)) dy⟩
end
end So
/-! Sets of nested tuples of ints and texts, fewer than 64 members: set(xs), sorted(..), `in`. -/
namespace Sd
open PySem PySem.Spec PyProof.Rows L2
abbrev NK := PySem.NestedKey
/-- the tuple at a is the key k -/
def Is8 (h : PySem.Heap) (k : NK) (a : Addr) : Prop := NestedIs h k (.ref a) ∧ k.depth ≤ 8
def ClsAt (P : Program) (w : World) (n : Nat) (s : Shared) (v : Value) : Prop := ∀ (A : Around) (E : Value → Shared → Prop) (Q : Bool → Shared → Prop), Q false s → wpAny (model P w) A (ofAClassStatement n v) Q E s
def HbvAt (P : Program) (w : World) (n : Nat) (s : Shared) (v : Value) : Prop := ∀ (A : Around) (E : Value → Shared → Prop) (Q : Bool → Shared → Prop), (∀ b, Q b s) → wpAny (model P w) A (hashByValue n v) Q E s
section
variable {P : Program} {w : World} {A : Around} {E : Value → Shared → Prop} {s : Shared}
theorem cls_pure {n : Nat} {v : Value} (e : ofAClassStatement n v = pure false) : ClsAt P w n s v := fun A E Q q => by
  rw [e]
  exact wpAny_pure q
theorem hbv_pure {n : Nat} {v : Value} {b : Bool} (e : hashByValue n v = pure b) : HbvAt P w n s v := fun A E Q q => by
  rw [e]
  exact wpAny_pure (q b)
theorem cls_tuple {n m : Nat} {a : Addr} {o : Obj} {vs : Array Value} (ho : s.heap.get? a = some o) (hc : o.cls = .type "tuple") (hd : o.data = .seq vs m) (all : ∀ v ∈ vs.toList, ClsAt P w n s v) : ClsAt P w (n + 1) s (.ref a) := fun A E Q q => by
  unfold ofAClassStatement
  refine wpAny_bind (wpAny_typeOf (show s.TypeIs (.ref a) "tuple" from ⟨o, ho, hc⟩) ?_)
  simp only [show (("tuple" : String) == "tuple") = true by decide, if_true, pure_bind, Bool.not_true, Bool.false_eq_true, if_false]
  refine wpAny_bind (wpAny_seqItems ho hd (wpAny_bind ?_))
  rw [← Array.forIn_toList]
  refine wpAny_forIn_list _ (fun left r s' => s' = s ∧ r.1 = none ∧ ∀ v ∈ left, ClsAt P w n s v) _ ?_ ?_ _ _ ⟨rfl, rfl, all⟩
  · rintro v left r s' ⟨rfl, e, rest⟩
    refine wpAny_bind (rest v (List.mem_cons_self ..) _ _ _ ?_)
    simp only [Bool.false_eq_true, if_false]
    exact wpAny_pure ⟨rfl, rfl, fun u hu => rest u (List.mem_cons_of_mem _ hu)⟩
  · rintro ⟨r, x⟩ s' ⟨rfl, e, _⟩
    simp only at e
    subst e
    exact wpAny_pure q
theorem hbv_tuple {n m : Nat} {a : Addr} {o : Obj} {vs : Array Value} (ho : s.heap.get? a = some o) (hc : o.cls = .type "tuple") (hd : o.data = .seq vs m) (all : ∀ v ∈ vs.toList, HbvAt P w n s v) : HbvAt P w (n + 1) s (.ref a) := fun A E Q q => by
  unfold hashByValue
  refine wpAny_bind (wpAny_specialOf (show s.TypeIs (.ref a) "tuple" from ⟨o, ho, hc⟩) F.slot_tuple_hash.lookup ?_)
  show wpAny _ _ (seqItems? (.ref a) >>= _) _ _ s
  refine wpAny_bind (wpAny_seqItems ho hd (wpAny_bind ?_))
  show wpAny _ _ (forIn vs _ _) _ _ s
  rw [← Array.forIn_toList]
  refine wpAny_forIn_list _ (fun left r s' => s' = s ∧ r.1 = none ∧ ∀ v ∈ left, HbvAt P w n s v) _ ?_ ?_ _ _ ⟨rfl, rfl, all⟩
  · rintro v left r s' ⟨rfl, e, rest⟩
    refine wpAny_bind (rest v (List.mem_cons_self ..) _ _ _ fun b => ?_)
    cases b with
    | true =>
      simp only [Bool.not_true, Bool.false_eq_true, if_false]
      exact wpAny_pure ⟨rfl, rfl, fun u hu => rest u (List.mem_cons_of_mem _ hu)⟩
    | false =>
      simp only [Bool.not_false, if_true]
      exact wpAny_pure (wpAny_pure (q false))
  · rintro ⟨r, x⟩ s' ⟨rfl, e, _⟩
    simp only at e
    subst e
    exact wpAny_pure (q true)
mutual
theorem cls_key : ∀ (k : NK) (v : Value) (n : Nat), NestedIs s.heap k v → k.depth ≤ n → ClsAt P w n s v
  | .none, _, n, x, _ => by
    cases x
    exact cls_pure (by cases n <;> rfl)
  | .num i, _, n, x, _ => by
    cases x <;> exact cls_pure (by cases n <;> rfl)
  | .text y, _, n, x, _ => by
    cases x
    exact cls_pure (by cases n <;> rfl)
  | .tup ks, _, n, x, hn => by
    cases x with
    | tup hg hc hd hk =>
      simp only [NestedKey.depth] at hn
      cases n with
      | zero => omega
      | succ n => exact cls_tuple hg hc hd (cls_keys ks _ n hk (by omega))
theorem cls_keys : ∀ (ks : List NK) (vs : List Value) (n : Nat), NestedAll s.heap ks vs → NestedKey.depthAll ks ≤ n → ∀ v ∈ vs, ClsAt P w n s v
  | [], _, n, x, _, v, hv => by
    cases x
    cases hv
  | k :: ks, _, n, x, hn, v, hv => by
    cases x with
    | cons x1 x2 =>
      simp only [NestedKey.depthAll] at hn
      rcases List.mem_cons.mp hv with e | hv
      · rw [e]
        exact cls_key k _ n x1 (by omega)
      · exact cls_keys ks _ n x2 (by omega) v hv
end
mutual
theorem hbv_key : ∀ (k : NK) (v : Value) (n : Nat), NestedIs s.heap k v → k.depth ≤ n → HbvAt P w n s v
  | .none, _, n, x, _ => by
    cases x
    exact hbv_pure (b := true) (by cases n <;> rfl)
  | .num i, _, n, x, _ => by
    cases x <;> exact hbv_pure (b := true) (by cases n <;> rfl)
  | .text y, _, n, x, _ => by
    cases x
    exact hbv_pure (b := false) (by cases n <;> rfl)
  | .tup ks, _, n, x, hn => by
    cases x with
    | tup hg hc hd hk =>
      simp only [NestedKey.depth] at hn
      cases n with
      | zero => omega
      | succ n => exact hbv_tuple hg hc hd (hbv_keys ks _ n hk (by omega))
theorem hbv_keys : ∀ (ks : List NK) (vs : List Value) (n : Nat), NestedAll s.heap ks vs → NestedKey.depthAll ks ≤ n → ∀ v ∈ vs, HbvAt P w n s v
  | [], _, n, x, _, v, hv => by
    cases x
    cases hv
  | k :: ks, _, n, x, hn, v, hv => by
    cases x with
    | cons x1 x2 =>
      simp only [NestedKey.depthAll] at hn
      rcases List.mem_cons.mp hv with e | hv
      · rw [e]
        exact hbv_key k _ n x1 (by omega)
      · exact hbv_keys ks _ n x2 (by omega) v hv
end
/-- looking such a key up shows nothing -/
theorem unseen {k : NK} {b : Addr} {Q : Bool → Shared → Prop} (hk : Is8 s.heap k b) {ys : List Value} (hy : ∀ y ∈ ys, ∃ k' c, y = Value.ref c ∧ Is8 s.heap k' c) (q : Q false s) : wpAny (model P w) A (searchCouldBeSeen (.ref b) ys) Q E s := by
  unfold searchCouldBeSeen
  refine wpAny_bind (wpAny_forIn_list _ (fun left r s' => s' = s ∧ r.1 = none ∧ ∀ y ∈ left, ∃ k' c, y = Value.ref c ∧ Is8 s.heap k' c) _ ?_ ?_ _ _ ⟨rfl, rfl, hy⟩)
  · rintro v left r s' ⟨rfl, e, all⟩
    obtain ⟨k', c, rfl, hc⟩ := all v (List.mem_cons_self ..)
    have rest : ∀ y ∈ left, ∃ k' c, y = Value.ref c ∧ Is8 s'.heap k' c := fun y hy => all y (List.mem_cons_of_mem _ hy)
    dsimp only
    by_cases hv : (b == c || (carriedByValue (.ref b) && carriedByValue (.ref c))) = true
    · refine wp_if_pos hv ?_
      exact wpAny_pure ⟨rfl, rfl, rest⟩
    · refine wp_if_neg hv ?_
      refine wpAny_bind ((nestedKind P w).quiet (show (nestedKind P w).is s'.heap k b from hk) ?_)
      simp only [Bool.not_true, Bool.false_eq_true, if_false]
      refine wpAny_bind ((nestedKind P w).quiet (show (nestedKind P w).is s'.heap k' c from hc) ?_)
      simp only [Bool.not_true, Bool.false_eq_true, if_false]
      refine wpAny_bind (cls_key k _ 8 hk.1 hk.2 _ _ _ ?_)
      simp only [Bool.false_eq_true, if_false]
      refine wpAny_bind (cls_key k' _ 8 hc.1 hc.2 _ _ _ ?_)
      simp only [Bool.false_eq_true, if_false]
      exact wpAny_pure ⟨rfl, rfl, rest⟩
  · rintro ⟨r, x⟩ s' ⟨rfl, e, _⟩
    simp only at e
    subst e
    exact wpAny_pure q
end
end Sd
namespace Sd
open PySem PySem.Spec PyProof.Rows L2
/-! ### the table -/
abbrev rowN (w : World) (p : Addr × NK) : Int × Value := (p.2.hash w, Value.ref p.1)
structure Ts (w : World) (h : PySem.Heap) (a : Addr) (L : List (Addr × NK)) (es : Array (Int × Value)) (ep : Nat) (t : SetTable) : Prop where
  obj : ∃ o, h.get? a = some o ∧ o.ExactSet ∧ o.data = .set es ep t
  row : es.toList = L.map (rowN w)
  tab : TabOk t (L.map fun p => p.2.hash w)
  one : (L.map (·.2)).Nodup
  mem : ∀ p ∈ L, Is8 h p.2 p.1
  led : w.params.followText "set-order" = true ∨ t.led = true
  free : L.length * 5 < t.mask * 3
  few : L.length < 64
/-- where the search for the hash h begins -/
abbrev beg (t : SetTable) (h : Int) : SetTable.Probe := runAt t.mask (SetTable.bits h % (t.mask + 1)) (SetTable.bits h)
section
variable {P : Program} {w : World} {A : Around} {E : Value → Shared → Prop} {s : Shared} {a : Addr} {L : List (Addr × NK)} {es : Array (Int × Value)} {ep : Nat} {t : SetTable}
theorem Ts.num (R : Ts w s.heap a L es ep t) : es.size = L.length := by
  have z := congrArg List.length R.row
  rwa [Array.length_toList, List.length_map] at z
theorem Ts.fit (R : Ts w s.heap a L es ep t) : t.fits es.size = true := by
  have z1 := R.tab.sz
  have z2 := R.num
  have z3 := R.free
  rw [List.length_map] at z1
  unfold SetTable.fits SetTable.fill
  rw [R.tab.dm, Bool.and_eq_true, beq_iff_eq, decide_eq_true_eq]
  show t.place.size = es.size ∧ t.place.size + 0 ≤ t.mask
  omega
theorem Ts.at (R : Ts w s.heap a L es ep t) {i : Nat} {p : Addr × NK} (e : L[i]? = some p) : es[i]? = some (rowN w p) := by
  rw [← Array.getElem?_toList, R.row, List.getElem?_map, e]
  rfl
theorem Ts.nogw (R : Ts w s.heap a L es ep t) : ¬ t.gaveWay = true := by
  unfold SetTable.gaveWay
  rw [mask_odd R.tab.mok]
  exact Bool.false_ne_true
theorem beg_quiet (m : Nat) : ∀ (n : Nat) (p : SetTable.Probe), p.dummy = none → (nth m p n).dummy = none
  | 0, _, h => h
  | n + 1, p, h => beg_quiet m n (adv m p) (by
    unfold adv
    split <;> exact h)
/-- from step c of the way on: found, or the first empty slot -/
theorem look_from (R : Ts w s.heap a L es ep t) {x : Addr} {k : NK} (hx : Is8 s.heap k x) (hu : A.units + 8 < cLine) {K : Nat} (K1 : K < 10 * SetTable.turns t.mask) (K2 : way t.mask (k.hash w) K ∉ t.place.toList) (K3 : ∀ c, c < K → way t.mask (k.hash w) c ∈ t.place.toList)
    {Q : SetFound → Shared → Prop} (yes : k ∈ L.map (·.2) → Q (.there none) s) (no : k ∉ L.map (·.2) → Q (.free (way t.mask (k.hash w) K) false) s) :
    ∀ (fuel c : Nat) (stand : Option SetTable.Probe), stand.getD (t.probeStart (k.hash w)) = nth t.mask (beg t (k.hash w)) c → c ≤ K → K - c < fuel →
      (∀ (i : Nat) p, L[i]? = some p → p.2 = k → ∃ d, c ≤ d ∧ d < K ∧ t.place.toList[i]? = some (way t.mask (k.hash w) d)) → wpAny (model P w) A (setSearchFrom a (.ref x) (k.hash w) true fuel stand) Q E s := by
  intro fuel
  induction fuel with
  | zero => exact fun c _ _ _ lt _ => absurd lt (Nat.not_lt_zero _)
  | succ fuel ih =>
    intro c stand est cK lt here
    obtain ⟨o, ho, hex, hd⟩ := R.obj
    have sum : ∀ q, nth t.mask (nth t.mask (beg t (k.hash w)) c) q = nth t.mask (beg t (k.hash w)) (c + q) := fun q => (nth_add t.mask c _ q).symm
    have wy : ∀ q, (nth t.mask (nth t.mask (beg t (k.hash w)) c) q).j = way t.mask (k.hash w) (c + q) := fun q => congrArg SetTable.Probe.j (sum q)
    have hsh : ∀ (i : Nat) p, L[i]? = some p → (es[i]?.map (·.1)).getD 0 = p.2.hash w := fun i p hp => by
      rw [R.at hp]
      rfl
    have met := go_spec t R.tab.ris R.tab.dm (fun i => (es[i]?.map (·.1)).getD 0) (k.hash w) (10 * SetTable.turns t.mask) (K - c) _ (beg_quiet t.mask c (beg t (k.hash w)) rfl) (by omega) (fun q hq => by rw [wy]; exact K3 _ (by omega)) (by rw [wy, show c + (K - c) = K by omega]; exact K2)
    rw [setSearchFrom_succ]
    refine wpAny_bind (wpAny_setState_of ho hd R.fit ?_)
    dsimp only
    refine wp_if_neg R.nogw ?_
    try refine wpAny_bind (wpAny_pure ?_)
    rcases met with ⟨q, i, hq, hi, hh, hno, pr⟩ | ⟨hno, pr⟩
    · have pr2 : t.probe (fun i => (es[i]?.map (·.1)).getD 0) (k.hash w) (stand.getD (t.probeStart (k.hash w))) = some (.candidate (way t.mask (k.hash w) (c + q)) i (nth t.mask (beg t (k.hash w)) (c + (q + 1)))) := by
        rw [est, ← wy, ← sum]
        exact pr
      rw [pr2]
      dsimp only
      rw [wy] at hi
      have iL : i < L.length := by
        have z1 := (List.getElem?_eq_some_iff.mp hi).1
        have z2 := R.tab.sz
        rw [List.length_map] at z2
        rw [Array.length_toList] at z1
        omega
      obtain ⟨p, hp⟩ : ∃ p, L[i]? = some p := ⟨_, List.getElem?_eq_getElem iL⟩
      have pm : p ∈ L := List.mem_of_getElem? hp
      have go : wpAny (model P w) A (searchRest a (.ref x) (k.hash w) true fuel es t (way t.mask (k.hash w) (c + q)) i (nth t.mask (beg t (k.hash w)) (c + (q + 1)))) Q E s := by
        unfold searchRest
        rw [R.at hp]
        dsimp only
        refine wpAny_bind (wpAny_holding ((nestedKind P w).eqBool (show A.units + 8 < cLine from hu) (show (nestedKind P w).is s.heap p.2 p.1 from R.mem p pm) (show (nestedKind P w).is s.heap k x from hx) ?_))
        refine wpAny_bind (wpAny_setState_of ho hd R.fit ?_)
        dsimp only
        by_cases e : p.2 = k
        · refine wp_if_pos (by simp [e]) ?_
          exact wpAny_pure (yes (List.mem_map.mpr ⟨p, pm, e⟩))
        · refine wp_if_neg (by simp [e]) ?_
          try refine wpAny_bind (wpAny_pure ?_)
          have live : t.slot (way t.mask (k.hash w) (c + q)) = .live i := slot_live R.tab.ris hi
          rw [sameMem]
          dsimp only
          simp only [if_true, live, R.at hp]
          refine wpAny_bind (wpAny_isSame_ref_self (wpAny_bind (wpAny_pure ?_)))
          simp only [if_true]
          refine wp_if_neg (by simp [e]) ?_
          refine ih (c + (q + 1)) _ rfl (by omega) (by omega) fun i' p' hp' e' => ?_
          obtain ⟨d, d1, d2, d3⟩ := here i' p' hp' e'
          refine ⟨d, Nat.not_lt.mp fun lt' => ?_, d2, d3⟩
          rcases Nat.lt_or_ge d (c + q) with z | z
          · exact hno (d - c) i' (by omega) (by rw [wy, show c + (d - c) = d by omega]; exact d3) ((hsh i' p' hp').trans (by rw [e']))
          · have ed : d = c + q := by omega
            rw [ed] at d3
            have live2 := slot_live R.tab.ris d3
            rw [live] at live2
            injection live2 with ei
            rw [← ei, hp] at hp'
            exact e (by rw [Option.some.inj hp']; exact e')
      by_cases hl : t.led = true
      · refine wp_if_neg (by simp [hl]) ?_
        try refine wpAny_bind (wpAny_pure ?_)
        exact go
      · refine wp_if_pos (by simp [hl]) ?_
        refine wpAny_bind (unseen hx (fun y hy => ?_) ?_)
        · obtain ⟨e, he, rfl⟩ := List.mem_map.mp hy
          have e1 : e ∈ es ∧ e.1 = k.hash w := by simpa using he
          have e2 : e ∈ es.toList := by simpa using e1.1
          rw [R.row] at e2
          obtain ⟨p', hp', rfl⟩ := List.mem_map.mp e2
          exact ⟨p'.2, p'.1, rfl, R.mem p' hp'⟩
        · refine wp_if_neg Bool.false_ne_true ?_
          try refine wpAny_bind (wpAny_pure ?_)
          exact go
    · have pr2 : t.probe (fun i => (es[i]?.map (·.1)).getD 0) (k.hash w) (stand.getD (t.probeStart (k.hash w))) = some (.empty (way t.mask (k.hash w) K) none) := by
        have z := wy (K - c)
        rw [show c + (K - c) = K by omega] at z
        rw [est, ← z]
        exact pr
      rw [pr2]
      dsimp only
      refine wpAny_pure (no fun hm => ?_)
      obtain ⟨p, pm, e⟩ := List.mem_map.mp hm
      obtain ⟨i, hp⟩ := List.mem_iff_getElem?.mp pm
      obtain ⟨d, d1, d2, d3⟩ := here i p hp e
      exact hno (d - c) i (by omega) (by rw [wy, show c + (d - c) = d by omega]; exact d3) ((hsh i p hp).trans (by rw [e]))
theorem look (R : Ts w s.heap a L es ep t) {x : Addr} {k : NK} (hx : Is8 s.heap k x) (hu : A.units + 8 < cLine) {Q : SetFound → Shared → Prop} (yes : k ∈ L.map (·.2) → Q (.there none) s)
    (no : ∀ K, k ∉ L.map (·.2) → way t.mask (k.hash w) K ∉ t.place.toList → (∀ c, c < K → way t.mask (k.hash w) c ∈ t.place.toList) → Q (.free (way t.mask (k.hash w) K) false) s) : wpAny (model P w) A (setSearch a (.ref x) (k.hash w) true) Q E s := by
  have z := R.free
  obtain ⟨K, K1, K2, K3⟩ := R.tab.first (by rw [List.length_map]; omega) (k.hash w)
  have small : 10 * SetTable.turns t.mask ≤ 1500 := by
    unfold SetTable.turns
    rcases R.tab.mok with e | e | e <;> omega
  unfold setSearch
  refine look_from R hx hu K1 K2 K3 yes (fun n => no K n K2 K3) 100000 0 none rfl (Nat.zero_le _) (by omega) fun i p hp e => ?_
  have hi : (L.map fun p => p.2.hash w)[i]? = some (k.hash w) := by
    rw [List.getElem?_map, hp, ← e]
    rfl
  have il : i < t.place.toList.length := by
    have z1 := (List.getElem?_eq_some_iff.mp hp).1
    have z2 := R.tab.sz
    rw [List.length_map] at z2
    rw [Array.length_toList]
    omega
  obtain ⟨j, hj⟩ : ∃ j, t.place.toList[i]? = some j := ⟨_, List.getElem?_eq_getElem il⟩
  obtain ⟨d, d1, d2⟩ := R.tab.before K2 hi hj
  exact ⟨d, Nat.zero_le _, d1, by rw [hj, d2]⟩
end
end Sd
namespace Sd
open PySem PySem.Spec PyProof.Rows L2
/-! ### the table laid anew; one key more -/
theorem range_get {α : Type} (L : List α) : ∀ n, n ≤ L.length → (List.range n).filterMap (fun i => L[i]?) = L.take n
  | 0, _ => rfl
  | n + 1, hn => by
    obtain ⟨x, e⟩ : ∃ x, L[n]? = some x := ⟨_, List.getElem?_eq_getElem hn⟩
    rw [List.range_succ, List.filterMap_append, range_get L n (Nat.le_of_succ_le hn), List.take_add_one, e]
    congr 1
    rw [List.filterMap_cons_some e]
    rfl
section
variable {P : Program} {w : World} {A : Around} {E : Value → Shared → Prop} {s : Shared} {a : Addr} {L : List (Addr × NK)} {es : Array (Int × Value)} {ep : Nat} {t : SetTable}
theorem ordered {order : Array Nat} (row : es.toList = L.map (rowN w)) (pm : order.toList.Perm (List.range L.length)) :
    ∃ M : List (Addr × NK), (order.filterMap (es[·]?)).toList = M.map (rowN w) ∧ M.Perm L ∧ (M.map fun p => p.2.hash w) = order.toList.map fun i => (es.map (·.1)).getD i 0 := by
  have ent : ∀ i : Nat, es[i]? = (L[i]?).map (rowN w) := fun i => by rw [← Array.getElem?_toList, row, List.getElem?_map]
  refine ⟨order.toList.filterMap (fun i => L[i]?), ?_, ?_, ?_⟩
  · rw [List.map_filterMap]
    have z : (order.filterMap (es[·]?)).toList = order.toList.filterMap (fun i => es[i]?) := by simp
    rw [z]
    congr 1
    funext i
    exact ent i
  · have z := pm.filterMap (fun i => L[i]?)
    rwa [range_get L L.length (Nat.le_refl _), List.take_length] at z
  · have all : ∀ i ∈ order.toList, i < L.length := fun i hi => List.mem_range.mp (pm.mem_iff.mp hi)
    revert all
    generalize order.toList = l
    intro all
    induction l with
    | nil => rfl
    | cons i l ih =>
      obtain ⟨p, hp⟩ : ∃ p, L[i]? = some p := ⟨_, List.getElem?_eq_getElem (all i (List.mem_cons_self ..))⟩
      have e1 : (es.map (·.1)).getD i 0 = p.2.hash w := by
        have z : (es.map (·.1))[i]? = some (p.2.hash w) := by
          rw [Array.getElem?_map, ent i, hp]
          rfl
        simp [Array.getD_eq_getD_getElem?, z]
      rw [List.filterMap_cons_some hp, List.map_cons, List.map_cons, ih fun j hj => all j (List.mem_cons_of_mem _ hj), e1]
theorem is8_but {h h' : PySem.Heap} {k : NK} {b : Addr} {o : Obj} (x : Is8 h k b) (ho : h.get? a = some o) (hd : o.data = .set es ep t) (sb : Heap.SameBut a h h') : Is8 h' k b :=
  ⟨NestedIs.at (fun c oc vs n hc hv => by
    refine (sb.2 c fun e => ?_).trans hc
    rw [e, ho] at hc
    cases hc
    rw [hd] at hv
    cases hv) k _ x.1, x.2⟩
theorem is8_keep {h h' : PySem.Heap} {k : NK} {b : Addr} (x : Is8 h k b) (kp : ∀ c o, h.get? c = some o → h'.get? c = some o) : Is8 h' k b := ⟨NestedIs.at (fun c o _ _ hc _ => kp c o hc) k _ x.1, x.2⟩
theorem relay {o : Obj} (ho : s.heap.get? a = some o) (hex : o.ExactSet) (hd : o.data = .set es ep t) (row : es.toList = L.map (rowN w)) (hsz : t.place.size = es.size) (hdm : t.dummies = #[]) (hfl : es.size ≤ t.mask) (one : (L.map (·.2)).Nodup) (mem : ∀ p ∈ L, Is8 s.heap p.2 p.1)
    (led : w.params.followText "set-order" = true ∨ t.led = true) (few : L.length < 64) {want M : Nat} (hw : SetTable.sizeAbove want - 1 = M) (hM : MaskOk M) (h128 : SetTable.sizeAbove want ≤ 128) (hn : L.length * 5 < M * 3) {Q : Unit → Shared → Prop}
    (q : ∀ h' L' es' ep' t', Heap.SameBut a s.heap h' → Ts w h' a L' es' ep' t' → L'.Perm L → Q () { s with heap := h' }) : wpAny (model P w) A (setRelay a want) Q E s := by
  have num : es.size = L.length := by
    have z := congrArg List.length row
    rwa [Array.length_toList, List.length_map] at z
  have fit : t.fits es.size = true := by
    unfold SetTable.fits SetTable.fill
    rw [hdm, Bool.and_eq_true, beq_iff_eq, decide_eq_true_eq]
    exact ⟨hsz, by show t.place.size + 0 ≤ t.mask; omega⟩
  obtain ⟨t', order, er, pm, T, em, el, _, _⟩ := relaid_ok t (hs := es.map (·.1)) (wanted := want) hw hM (by rw [Array.size_map, num]; omega)
  rw [Array.size_map, num] at pm
  obtain ⟨M', r1, r2, r3⟩ := ordered row pm
  have num2 : (order.filterMap (es[·]?)).size = es.size := by
    have z := congrArg List.length r1
    rw [Array.length_toList, List.length_map, r2.length_eq] at z
    rw [z, num]
  rw [← r3] at T
  rw [setRelay_eq]
  refine wpAny_bind (wpAny_setState_of ho hd fit ?_)
  dsimp only
  refine wp_if_neg (by rw [sizeLine_eq]; omega) ?_
  try refine wpAny_bind (wpAny_pure ?_)
  rw [er]
  dsimp only
  refine wpAny_bind (wp_if_neg (by rw [num2]; simp) ?_)
  try refine wpAny_bind (wpAny_pure ?_)
  refine wpAny_pure ?_
  dsimp only
  refine wpAny_storeSet_of ho hd ?_ (by rw [num2, num, sizeLine_eq]; omega)
  have sb : Heap.SameBut a s.heap (s.heap.update a (Obj.putSet (order.filterMap (es[·]?)) t')) := Heap.SameBut.update ..
  refine q _ M' _ (ep + 1) t' sb ⟨⟨_, store_at ho hd, ⟨hex.1, hex.2.1, hex.2.2⟩, rfl⟩, r1, T, (r2.map (·.2)).nodup_iff.mpr one, fun p hp => is8_but (mem p (r2.mem_iff.mp hp)) ho hd sb, by rw [el]; exact led, by rw [r2.length_eq, em]; exact hn, by rw [r2.length_eq]; exact few⟩ r2
theorem add1 (R : Ts w s.heap a L es ep t) {x : Addr} {k : NK} (hx : Is8 s.heap k x) (hu : A.units + 8 < cLine) (few : L.length + 1 < 64) {Q : Bool → Shared → Prop}
    (q : ∀ b h' L' es' ep' t', Heap.SameBut a s.heap h' → Ts w h' a L' es' ep' t' → (k ∈ L.map (·.2) → L' = L) → (k ∉ L.map (·.2) → L'.Perm ((x, k) :: L)) → Q b { s with heap := h' }) : wpAny (model P w) A (setAddHashed a (.ref x) (k.hash w)) Q E s := by
  obtain ⟨o, ho, hex, hd⟩ := R.obj
  have num := R.num
  have free := R.free
  unfold setAddHashed
  rw [show (100000 : Nat) = 99999 + 1 from rfl, setAddHashedIn_succ]
  refine wpAny_holding (wpAny_bind (wpAny_setState_of ho hd R.fit ?_))
  dsimp only
  refine wp_if_neg (by simp [byScan, Value.scannable]) ?_
  try refine wpAny_bind (wpAny_pure ?_)
  refine wpAny_bind (look R hx hu (fun hm => ?_) fun K hm K2 K3 => ?_)
  · dsimp only
    exact wpAny_pure (q false s.heap L es ep t (Heap.SameBut.refl a s.heap) R (fun _ => rfl) fun n => absurd hm n)
  dsimp only
  refine wpAny_bind (wpAny_setState_of ho hd R.fit ?_)
  dsimp only
  obtain ⟨p1, p2, p3, p4, p5, p6, p7, p8, p9⟩ := R.tab.put K2 K3
  generalize epp : t.put (way t.mask (k.hash w) K) = pp at p1 p3 p4 p5 p6 p7 p8 p9 ⊢
  obtain ⟨t1, j⟩ := pp
  dsimp only at p1 p3 p4 p5 p6 p7 p8 p9 ⊢
  subst p1
  -- what follows does not depend on `plain`
  have rest : ∀ t2 : SetTable, TabOk t2 ((L.map fun p => p.2.hash w).take (SetTable.below t.place (way t.mask (k.hash w) K)) ++ k.hash w :: (L.map fun p => p.2.hash w).drop (SetTable.below t.place (way t.mask (k.hash w) K))) → t2.mask = t.mask → t2.led = t.led → t2.fill = (L.map fun p => p.2.hash w).length + 1 →
      wpAny (model P w) A (do
        storeSet a (SetTable.insertAt es (SetTable.below t.place (way t.mask (k.hash w) K)) (k.hash w, Value.ref x)) t2
        if !false && t2.tooFull then setRelay a (SetTable.grown (es.size + 1))
        return true : Sem Bool) Q E s := by
    intro t2 T2 m2 l2 f2
    have ins : (SetTable.insertAt es (SetTable.below t.place (way t.mask (k.hash w) K)) (k.hash w, Value.ref x)).toList = (L.take (SetTable.below t.place (way t.mask (k.hash w) K)) ++ (x, k) :: L.drop (SetTable.below t.place (way t.mask (k.hash w) K))).map (rowN w) := by
      rw [SetTable.toList_insertAt, R.row, List.map_append, List.map_cons, List.map_take, List.map_drop]
    have hh : (L.take (SetTable.below t.place (way t.mask (k.hash w) K)) ++ (x, k) :: L.drop (SetTable.below t.place (way t.mask (k.hash w) K))).map (fun p => p.2.hash w) = (L.map fun p => p.2.hash w).take (SetTable.below t.place (way t.mask (k.hash w) K)) ++ k.hash w :: (L.map fun p => p.2.hash w).drop (SetTable.below t.place (way t.mask (k.hash w) K)) := by
      rw [List.map_append, List.map_cons, List.map_take, List.map_drop]
    rw [← hh] at T2
    have pm := put_perm L (SetTable.below t.place (way t.mask (k.hash w) K)) (x, k)
    generalize L.take (SetTable.below t.place (way t.mask (k.hash w) K)) ++ (x, k) :: L.drop (SetTable.below t.place (way t.mask (k.hash w) K)) = L1 at ins T2 pm
    have len1 : L1.length = L.length + 1 := pm.length_eq
    have num1 : (SetTable.insertAt es (SetTable.below t.place (way t.mask (k.hash w) K)) (k.hash w, Value.ref x)).size = L.length + 1 := by
      have z := congrArg List.length ins
      rwa [Array.length_toList, List.length_map, len1] at z
    generalize SetTable.insertAt es (SetTable.below t.place (way t.mask (k.hash w) K)) (k.hash w, Value.ref x) = es1 at ins num1 ⊢
    have one1 : (L1.map (·.2)).Nodup := (pm.map (·.2)).nodup_iff.mpr (by
      rw [List.map_cons]
      exact List.nodup_cons.mpr ⟨hm, R.one⟩)
    refine wpAny_bind (wpAny_storeSet_of ho hd ?_ (by rw [num1, sizeLine_eq]; omega))
    have sb : Heap.SameBut a s.heap (s.heap.update a (Obj.putSet es1 t2)) := Heap.SameBut.update ..
    have ho1 := store_at (es' := es1) (t' := t2) ho hd
    generalize s.heap.update a (Obj.putSet es1 t2) = h1 at sb ho1 ⊢
    have mem1 : ∀ p ∈ L1, Is8 h1 p.2 p.1 := fun p hp => by
      rcases List.mem_cons.mp (pm.mem_iff.mp hp) with e | hp
      · rw [e]
        exact is8_but hx ho hd sb
      · exact is8_but (R.mem p hp) ho hd sb
    have led1 : w.params.followText "set-order" = true ∨ t2.led = true := by
      rw [l2]
      exact R.led
    have full : t2.tooFull = true ↔ (L.length + 1) * 5 ≥ t2.mask * 3 := by
      unfold SetTable.tooFull
      rw [decide_eq_true_eq, f2, List.length_map]
    by_cases hf : t2.tooFull = true
    · have z := full.mp hf
      have two : (t.mask = 7 ∧ L.length = 4) ∨ (t.mask = 31 ∧ L.length = 18) := by
        rcases R.tab.mok with e | e | e <;> rw [m2, e] at z <;> rw [e] at free <;> omega
      have sz1 : t2.place.size = es1.size := by
        have z := T2.sz
        rw [List.length_map, len1] at z
        rw [z, num1]
      rw [num]
      have go : ∀ M, SetTable.sizeAbove (SetTable.grown (L.length + 1)) - 1 = M → MaskOk M → SetTable.sizeAbove (SetTable.grown (L.length + 1)) ≤ 128 → (L.length + 1) * 5 < M * 3 →
          wpAny (model P w) A (setRelay a (SetTable.grown (L.length + 1))) (fun _ s' => wpAny (model P w) A (pure true) Q E s') E { s with heap := h1 } := fun M g1 g2 g3 g4 =>
        relay (s := { s with heap := h1 }) ho1 ⟨hex.1, hex.2.1, hex.2.2⟩ rfl ins sz1 T2.dm (by rw [num1, m2]; rcases two with ⟨e, e2⟩ | ⟨e, e2⟩ <;> omega) one1 mem1 led1 (by rw [len1]; exact few) g1 g2 g3 (by rw [len1]; exact g4) fun h2 L2 es2 ep2 t3 sb2 R2 pm2 =>
          wpAny_pure (q true h2 L2 es2 ep2 t3 (sb.trans sb2) R2 (fun y => absurd y hm) fun _ => pm2.trans pm)
      have goal : wpAny (model P w) A (setRelay a (SetTable.grown (L.length + 1))) (fun _ s' => wpAny (model P w) A (pure true) Q E s') E { s with heap := h1 } := by
        rcases two with ⟨_, e⟩ | ⟨_, e⟩
        · exact go 31 (by rw [e, size_20]) (.inr (.inl rfl)) (by rw [e, size_20]; decide) (by omega)
        · exact go 127 (by rw [e, size_76]) (.inr (.inr rfl)) (by rw [e, size_76]; decide) (by omega)
      first
        | exact wp_if_pos (by simp [hf]) (wpAny_bind goal)
        | exact wpAny_bind (wp_if_pos (by simp [hf]) goal)
    · have fin := q true h1 L1 es1 (ep + 1) t2 sb ⟨⟨_, ho1, ⟨hex.1, hex.2.1, hex.2.2⟩, rfl⟩, ins, T2, one1, mem1, led1, by rw [len1]; have := mt full.mpr hf; omega, by rw [len1]; exact few⟩ (fun y => absurd y hm) fun _ => pm
      first
        | exact wp_if_neg (by simp [hf]) (wpAny_pure fin)
        | exact wpAny_bind (wp_if_neg (by simp [hf]) (wpAny_pure (wpAny_pure fin)))
  have hb : HbvAt P w 8 s (.ref x) := hbv_key k _ 8 hx.1 hx.2
  have off : TabOk { t1 with plain := false } ((L.map fun p => p.2.hash w).take (SetTable.below t.place (way t.mask (k.hash w) K)) ++ k.hash w :: (L.map fun p => p.2.hash w).drop (SetTable.below t.place (way t.mask (k.hash w) K))) := ⟨p3.ris, p3.dm, p3.sz, p3.mok, p3.bd, p3.reach⟩
  have both : ∀ b : Bool, wpAny (model P w) A (do
        storeSet a (SetTable.insertAt es (SetTable.below t.place (way t.mask (k.hash w) K)) (k.hash w, Value.ref x)) (if b then t1 else { t1 with plain := false })
        if !false && (if b then t1 else { t1 with plain := false }).tooFull then setRelay a (SetTable.grown (es.size + 1))
        return true : Sem Bool) Q E s := fun b => by
    cases b with
    | true => exact rest t1 p3 p4 p5 p9
    | false => exact rest { t1 with plain := false } off p4 p5 p9
  by_cases pl : t1.plain = true
  · first
      | exact wpAny_bind (wp_if_pos pl (hb _ _ _ both))
      | exact wp_if_pos pl (wpAny_bind (hb _ _ _ both))
  · first
      | exact wpAny_bind (wp_if_neg pl (wpAny_pure (both true)))
      | exact wp_if_neg pl (wpAny_bind (wpAny_pure (both true)))
      | exact wp_if_neg pl (both true)
end
end Sd
namespace Sd
open PySem PySem.Spec PyProof.Rows L2
/-! ### set(xs): the loop -/
/-- what the first i keys leave -/
structure Some1 (ks : List (Addr × NK)) (i : Nat) (L : List (Addr × NK)) : Prop where
  sub : ∀ p ∈ L, p ∈ ks.take i
  all : ∀ p ∈ ks.take i, p.2 ∈ L.map (·.2)
  len : L.length ≤ i
theorem some_zero (ks : List (Addr × NK)) : Some1 ks 0 [] := ⟨fun p hp => (by cases hp), fun p hp => (by simp at hp), Nat.le_refl _⟩
theorem some_next {ks L L' : List (Addr × NK)} {i : Nat} {x : Addr × NK} (g : Some1 ks i L) (e : ks[i]? = some x) (same : x.2 ∈ L.map (·.2) → L' = L) (more : x.2 ∉ L.map (·.2) → L'.Perm (x :: L)) : Some1 ks (i + 1) L' := by
  have et : ks.take (i + 1) = ks.take i ++ [x] := by
    rw [List.take_add_one, e]
    rfl
  by_cases c : x.2 ∈ L.map (·.2)
  · rw [same c]
    refine ⟨fun p hp => by rw [et]; exact List.mem_append_left _ (g.sub p hp), fun p hp => ?_, Nat.le_succ_of_le g.len⟩
    rw [et] at hp
    rcases List.mem_append.mp hp with z | z
    · exact g.all p z
    · rw [List.mem_singleton.mp z]
      exact c
  · have pm := more c
    refine ⟨fun p hp => ?_, fun p hp => ?_, by rw [pm.length_eq]; exact Nat.succ_le_succ g.len⟩
    · rw [et]
      rcases List.mem_cons.mp (pm.mem_iff.mp hp) with z | z
      · rw [z]
        exact List.mem_append_right _ (List.mem_singleton.mpr rfl)
      · exact List.mem_append_left _ (g.sub p z)
    · rw [(pm.map (·.2)).mem_iff, List.map_cons]
      rw [et] at hp
      rcases List.mem_append.mp hp with z | z
      · exact List.mem_cons_of_mem _ (g.all p z)
      · rw [List.mem_singleton.mp z]
        exact List.mem_cons_self ..
section
variable {P : Program} {w : World} {A : Around} {E : Value → Shared → Prop} {s : Shared}
theorem Ts.keep {h h' : PySem.Heap} {a : Addr} {L : List (Addr × NK)} {es : Array (Int × Value)} {ep : Nat} {t : SetTable} (R : Ts w h a L es ep t) (ka : ∀ o, h.get? a = some o → h'.get? a = some o) (km : ∀ p ∈ L, Is8 h' p.2 p.1) : Ts w h' a L es ep t := by
  obtain ⟨o, ho, r⟩ := R.obj
  exact ⟨⟨o, ka o ho, r⟩, R.row, R.tab, R.one, km, R.led, R.free, R.few⟩
theorem ts_new {h : PySem.Heap} {a : Addr} (ho : h.get? a = some (Sx.emptyObj w)) : Ts w h a [] #[] 0 (.fresh 0 0 (!w.params.followText "set-order")) where
  obj := ⟨_, ho, ⟨rfl, rfl, rfl⟩, rfl⟩
  row := rfl
  tab := ⟨List.Pairwise.nil, rfl, rfl, .inl rfl, (fun x hx => by cases hx), fun i h j hi => by simp at hi⟩
  one := List.nodup_nil
  mem := fun p hp => nomatch hp
  led := by
    show _ ∨ (!w.params.followText "set-order") = true
    cases w.params.followText "set-order"
    · exact .inr rfl
    · exact .inl rfl
  free := by
    show 0 * 5 < 7 * 3
    decide
  few := by
    show 0 < 64
    decide
theorem fill {I : Addr} {fp wr : List Addr} {G : Array GenState → Array GenState → Prop} {n : Nat} {Pv : Nat → Value → Prop} {St : Nat → Shared → Prop} {R : Result → Shared → Prop} (W : WalksS P w A.in1 I fp wr G n Pv St) (S : Addr) (nS : S ∉ fp) (ks : List (Addr × NK)) (hn : n = ks.length) (few : ks.length < 64)
    (val : ∀ i v, Pv i v → ∃ p, ks[i]? = some p ∧ v = .ref p.1) (h0 : PySem.Heap) (hk : ∀ p ∈ ks, Is8 h0 p.2 p.1) (hS : h0.get? S = none) (hw : ∀ b ∈ wr, h0.get? b = none) (hu : A.in1.units + 8 < cLine) :
    ∀ (r i : Nat) (s : Shared), n - i = r → i ≤ n → St i s → (∀ b o, h0.get? b = some o → s.heap.get? b = some o) → (∃ L es ep t, Ts w s.heap S L es ep t ∧ Some1 ks i L) →
      (∀ s' L es ep t, Moved (S :: wr) G s s' → Ts w s'.heap S L es ep t → Some1 ks n L → (∀ b o, h0.get? b = some o → s'.heap.get? b = some o) → R (.ok (.ret .none)) s') →
      codeAny (model P w) A (.builtin "set.update.loop" ⟨[.ref S, .ref I], []⟩) R s := by
  have nW : S ∉ wr := fun z => nS (W.sub _ z)
  have up : ∀ b ∈ wr, b ∈ S :: wr := fun b hb => List.mem_cons_of_mem _ hb
  have old : ∀ {s s' : Shared}, Moved wr G s s' → (∀ b o, h0.get? b = some o → s.heap.get? b = some o) → ∀ b o, h0.get? b = some o → s'.heap.get? b = some o := fun mv kp b o e => mv.heap b o (fun hb => by rw [hw b hb] at e; cases e) (kp b o e)
  intro r
  induction r with
  | zero =>
    intro i s er hi hst kp ⟨L, es, ep, t, hT, g⟩ fin
    have ei : i = n := by omega
    subst ei
    refine codeAny_builtin F.entry_set_update_loop ?_
    rw [Around.under_plainId F.plain_set_update_loop _]
    show wpAny _ A.in1 (pyNext (.ref I) >>= _) _ _ s
    refine wpAny_bind (W.done s _ _ hst fun s' mv => ?_)
    have kp' := old mv kp
    show wpAny _ A.in1 (ret Value.none) _ _ s'
    exact wpAny_pure (fin s' L es ep t (mv.mono up) (hT.keep (fun o e => mv.heap S o nW e) fun p hp => is8_keep (hk p (List.mem_of_mem_take (g.sub p hp))) kp') g kp')
  | succ r ih =>
    intro i s er hi hst kp ⟨L, es, ep, t, hT, g⟩ fin
    have lt : i < n := by omega
    refine codeAny_builtin F.entry_set_update_loop ?_
    rw [Around.under_plainId F.plain_set_update_loop _]
    show wpAny _ A.in1 (pyNext (.ref I) >>= _) _ _ s
    refine wpAny_bind (W.item i s _ _ lt hst fun v s' hv hst' mv => ?_)
    obtain ⟨p, hp, rfl⟩ := val i v hv
    have kp' := old mv kp
    have hT' : Ts w s'.heap S L es ep t := hT.keep (fun o e => mv.heap S o nW e) fun p hp => is8_keep (hk p (List.mem_of_mem_take (g.sub p hp))) kp'
    have hx : Is8 s'.heap p.2 p.1 := is8_keep (hk p (List.mem_of_getElem? hp)) kp'
    show wpAny _ A.in1 (holding [Value.ref p.1] (setAdd S (.ref p.1)) >>= _) _ _ s'
    unfold setAdd
    refine wpAny_bind (wpAny_holding (wpAny_holding (wpAny_bind ((nestedKind P w).pyHash (show A.in1.units + 8 < cLine from hu) (show (nestedKind P w).is s'.heap p.2 p.1 from hx) ?_))))
    refine add1 (s := { s' with toks := s'.toks + p.2.draws }) hT' hx hu (by have := g.len; omega) fun b h' L' es' ep' t' sb hT2 c1 c2 => ?_
    have g' := some_next g hp c1 c2
    have kp2 : ∀ b o, h0.get? b = some o → h'.get? b = some o := fun b o e => (sb.2 b (fun z => by rw [z, hS] at e; cases e)).trans (kp' b o e)
    refine wpAny_pure ⟨plainId_quiet F.plain_set_update_loop _, ih (i + 1) _ (by omega) lt (W.frame _ s' _ _ hst' (Nat.le_add_right _ _) fun b hb o e => ?_) kp2 ⟨L', es', ep', t', hT2, g'⟩ fun s2 L2 es2 ep2 t2 mv2 hT3 g2 kp3 => ?_⟩
    · rw [sb.2 b (fun z : b = S => nS (by rw [← z]; exact hb))]
      exact e
    · refine fin s2 L2 es2 ep2 t2 (Moved.trans W.gtrans ((mv.mono up).then_heap (Nat.le_add_right _ _) fun b o hb e => ?_) mv2) hT3 g2 kp3
      rw [sb.2 b (fun z : b = S => hb (by rw [z]; exact List.mem_cons_self ..))]
      exact e
end
end Sd
namespace Sd
open PySem PySem.Spec PyProof.Rows L2
section
variable {P : Program} {w : World} {A : Around} {E : Value → Shared → Prop} {s : Shared}
set_option maxRecDepth 100000 in
set_option maxHeartbeats 4000000 in
/-- set(xs), xs a list or a tuple of keys -/
theorem call_setN {l : Addr} {items : Array Value} (ks : List (Addr × NK)) {Q : Value → Shared → Prop} (hh : A.handled = none) (hl : s.heap.IsList l items ∨ s.heap.IsTuple l items) (hit : items.toList = ks.map fun p => Value.ref p.1) (hk : ∀ p ∈ ks, Is8 s.heap p.2 p.1) (few : ks.length < 64) (hu : A.units + 12 < cLine)
    (h : ∀ (h' : PySem.Heap) (tk : Nat) L es ep t, Ts w h' s.heap.objs.size L es ep t → Some1 ks ks.length L → (∀ b o, s.heap.get? b = some o → h'.get? b = some o) → Q (.ref s.heap.objs.size) { s with heap := h', toks := tk }) :
    wpAny (model P w) A (call (.type "set") [.ref l]) Q E s := by
  have hisz : items.size = ks.length := by
    have z := congrArg List.length hit
    rwa [Array.length_toList, List.length_map] at z
  have hval : ∀ (i : Nat) (v : Value), items[i]? = some v → ∃ p, ks[i]? = some p ∧ v = .ref p.1 := fun i v hv => by
    rw [← Array.getElem?_toList, hit, List.getElem?_map] at hv
    cases e : ks[i]? with
    | none =>
      rw [e] at hv
      cases hv
    | some p =>
      rw [e] at hv
      exact ⟨p, rfl, (Option.some.inj hv).symm⟩
  obtain ⟨c, tl, hmro⟩ := PySem.F.called_set.mro
  have hmade := PySem.F.called_set.made
  have hsub := PySem.F.called_set.sub
  refine wpAny_call (codeAny_of_tree ?_)
  show wpAny _ _ (callAny (.type "set") _) _ _ _
  refine wpAny_pure ⟨Code.quiet_builtin _ (by decide +kernel), codeAny_builtin PySem.F.entry_type_call ?_⟩
  rw [Around.under_plain (weight_type_call_type "set" [.ref l] []) rfl]
  have h1 := PySem.F.called_set.notType
  have h2 := PySem.F.called_set.canCreate
  have hct := PySem.F.typeCall_set_1 (.ref l)
  repeat (any_goals (first | assumption | wp_step))
  refine codeAny_mono (code_set_led1 (.ref l) (E := E) (Q₁ := fun obj s₁ => obj = .ref s.heap.objs.size ∧ s₁ = { s with heap := s.heap.push (Sx.emptyObj w) }) ⟨rfl, rfl⟩) fun r s₁ hr => ?_
  cases r with
  | error e => exact hr
  | ok fl =>
    cases fl with
    | ret obj =>
      obtain ⟨rfl, rfl⟩ := hr
      have hS : (s.heap.push (Sx.emptyObj w)).get? s.heap.objs.size = some (Sx.emptyObj w) := Heap.get?_push_size _ rfl
      have hT : Shared.TypeIs { s with heap := s.heap.push (Sx.emptyObj w) } (.ref s.heap.objs.size) "set" := ⟨_, hS, rfl⟩
      have hli := PySem.F.called_set.init.lookup
      have hbi := PySem.F.called_set.init.bind (.ref s.heap.objs.size)
      repeat (any_goals (first | assumption | wp_step))
      refine codeAny_mono (codeAny_call_builtin (R := wants (fun r s₂ => r = .none ∧ ∃ h' tk L es ep t, s₂ = { s with heap := h', toks := tk } ∧ Ts w h' s.heap.objs.size L es ep t ∧ Some1 ks ks.length L ∧
          (∀ b o, s.heap.get? b = some o → h'.get? b = some o)) E) PySem.F.called_set.init.plain PySem.F.entry_set_init (check_set_init_1 hT ?_)) fun r₂ s₂ hr₂ => ?_
      · have hh3 : A.in1.in1.in1.handled = none := by simp [hh]
        have hz1 : (s.heap.push (Sx.emptyObj w)).objs.size = s.heap.objs.size + 1 := Heap.size_push ..
        rcases hl with hl | hl
        · obtain ⟨ol, hol, hcl, nl, hdl⟩ := hl
          obtain ⟨ocls, odict, odata, oslots⟩ := ol
          simp only at hcl hdl
          subst hcl; subst hdl
          have hol' : (s.heap.push (Sx.emptyObj w)).get? l = some { cls := .type "list", dict := odict, data := .seq items nl, slots := oslots } := Heap.get?_push_of_some _ hol
          have hsls := PySem.F.sub_list_set
          have hslf := PySem.F.sub_list_frozenset
          have hne : (Value.type "list" == Value.type "dict") = false := by decide
          have hl1 : (s.heap.push (Sx.emptyObj w)).IsList l items := ⟨_, hol', rfl, nl, rfl⟩
          unfold Builtin.«set.__init__» noKeywords Builtin.Frozenset.updateFrom
          generalize hPI : pyIter = PI
          wp_walk
          subst hPI
          refine wpAny_pyIter_list hl1 ?_
          refine wpAny_bind (wpAny_runValue ?_)
          have hlS : l < s.heap.objs.size := Heap.lt_size hol
          have hneI : l ≠ (s.heap.push (Sx.emptyObj w)).objs.size := by
            rw [hz1]
            exact Nat.ne_of_lt (Nat.lt_succ_of_lt hlS)
          have hSf : s.heap.objs.size ∉ [(s.heap.push (Sx.emptyObj w)).objs.size, l] := by
            simp only [List.mem_cons, List.mem_singleton, List.not_mem_nil, or_false, not_or]
            rw [hz1]
            exact ⟨Nat.ne_of_lt (Nat.lt_succ_self _), Nat.ne_of_gt hlS⟩
          have hget : ((s.heap.push (Sx.emptyObj w)).push { cls := .type "list_iterator", data := .fields #[.ref l, .int 0 0] }).get? s.heap.objs.size = some (Sx.emptyObj w) := Heap.get?_push_of_some _ hS
          refine fill ((Walks.list hh3 _ l hneI items).toS) s.heap.objs.size hSf ks hisz few hval s.heap hk (Heap.get?_none_of_le (Nat.le_refl _)) (fun b hb => ?hw1) (by simp only [Around.in1_units]; omega) (items.size - 0) 0 _ (by omega) (Nat.zero_le _)
            ⟨⟨_, Heap.get?_push_size _ rfl, rfl, rfl⟩, (hl1.push _)⟩ (fun b o e => Heap.get?_push_of_some _ (Heap.get?_push_of_some _ e)) ⟨[], _, _, _, ts_new hget, some_zero ks⟩ ?hR1
          case hw1 =>
            rw [List.mem_singleton.mp hb, hz1]
            exact Heap.get?_none_of_le (Nat.le_succ _)
          case hR1 =>
            intro s' L es ep t hm hS' hmm hkk
            obtain ⟨h', g', d', tk', os'⟩ := s'
            have eg : g' = s.gens := hm.gens
            have ed : d' = s.drawn := hm.drawn
            have eo : os' = s.os := hm.os
            subst eg; subst ed; subst eo
            show wpAny _ _ _ _ _ _
            refine wpAny_pure ?_
            show wpAny _ _ (ret Value.none) _ _ _
            exact wpAny_pure ⟨rfl, h', tk', L, es, ep, t, rfl, hS', hisz ▸ hmm, hkk⟩
        · obtain ⟨ol, hol, hcl, nl, hdl⟩ := hl
          obtain ⟨ocls, odict, odata, oslots⟩ := ol
          simp only at hcl hdl
          subst hcl; subst hdl
          have hol' : (s.heap.push (Sx.emptyObj w)).get? l = some { cls := .type "tuple", dict := odict, data := .seq items nl, slots := oslots } := Heap.get?_push_of_some _ hol
          have hsls := PySem.F.sub_tuple_set
          have hslf := PySem.F.sub_tuple_frozenset
          have hne : (Value.type "tuple" == Value.type "dict") = false := by decide
          have hl1 : (s.heap.push (Sx.emptyObj w)).IsTuple l items := ⟨_, hol', rfl, nl, rfl⟩
          unfold Builtin.«set.__init__» noKeywords Builtin.Frozenset.updateFrom
          generalize hPI : pyIter = PI
          wp_walk
          subst hPI
          refine wpAny_pyIter_tuple hl1 ?_
          refine wpAny_bind (wpAny_runValue ?_)
          have hlS : l < s.heap.objs.size := Heap.lt_size hol
          have hneI : l ≠ (s.heap.push (Sx.emptyObj w)).objs.size := by
            rw [hz1]
            exact Nat.ne_of_lt (Nat.lt_succ_of_lt hlS)
          have hSf : s.heap.objs.size ∉ [(s.heap.push (Sx.emptyObj w)).objs.size, l] := by
            simp only [List.mem_cons, List.mem_singleton, List.not_mem_nil, or_false, not_or]
            rw [hz1]
            exact ⟨Nat.ne_of_lt (Nat.lt_succ_self _), Nat.ne_of_gt hlS⟩
          have hget : ((s.heap.push (Sx.emptyObj w)).push { cls := .type "tuple_iterator", data := .fields #[.ref l, .int 0 0] }).get? s.heap.objs.size = some (Sx.emptyObj w) := Heap.get?_push_of_some _ hS
          refine fill ((Walks.tuple hh3 _ l hneI items).toS) s.heap.objs.size hSf ks hisz few hval s.heap hk (Heap.get?_none_of_le (Nat.le_refl _)) (fun b hb => ?hw2) (by simp only [Around.in1_units]; omega) (items.size - 0) 0 _ (by omega) (Nat.zero_le _)
            ⟨⟨_, Heap.get?_push_size _ rfl, rfl, rfl⟩, (hl1.push _)⟩ (fun b o e => Heap.get?_push_of_some _ (Heap.get?_push_of_some _ e)) ⟨[], _, _, _, ts_new hget, some_zero ks⟩ ?hR2
          case hw2 =>
            rw [List.mem_singleton.mp hb, hz1]
            exact Heap.get?_none_of_le (Nat.le_succ _)
          case hR2 =>
            intro s' L es ep t hm hS' hmm hkk
            obtain ⟨h', g', d', tk', os'⟩ := s'
            have eg : g' = s.gens := hm.gens
            have ed : d' = s.drawn := hm.drawn
            have eo : os' = s.os := hm.os
            subst eg; subst ed; subst eo
            show wpAny _ _ _ _ _ _
            refine wpAny_pure ?_
            show wpAny _ _ (ret Value.none) _ _ _
            exact wpAny_pure ⟨rfl, h', tk', L, es, ep, t, rfl, hS', hisz ▸ hmm, hkk⟩
      · cases r₂ with
        | error e => exact hr₂
        | ok fl₂ =>
          cases fl₂ with
          | ret r =>
            obtain ⟨rfl, h', tk, L, es, ep, t, rfl, hS', hmm, hk'⟩ := hr₂
            repeat (any_goals (first | assumption | wp_step))
            exact h _ _ _ _ _ _ hS' hmm hk'
          | _ => exact hr₂.elim
    | _ => exact hr.elim
end
end Sd
/-! Sorting tuples of alike data, the empty tuple among them. -/
namespace Sd
open PySem PySem.Spec PyProof.Rows L2 PySem.W PySem.Calls
open PySem.SeqAt
def more : PyData → Bool
  | .tuple (_ :: _) => true
  | _ => false
section
variable {P : Program} {w : World} {A : Around} {E : Value → Shared → Prop} {s : Shared}
theorem call_tuple_lt {Q : Value → Shared → Prop} {l b : Addr} {items items2 : Array Value} {e r : Nat → Bool} (hl : s.heap.IsTuple l items) (hb : s.heap.IsTuple b items2)
    (he : ∀ j (h1 : j < items.size) (h2 : j < items2.size), EqAt A.in1 s items[j] items2[j] (e j)) (hr : ∀ j (h1 : j < items.size) (h2 : j < items2.size), e j = false → RcLt A.in1 s items[j] items2[j] (r j))
    (h : Q (.bool (firstLt e r (decide (items.size < items2.size)) (List.range (min items.size items2.size)))) s) : wpAny (model P w) A (call (.builtin "tuple.__lt__") [.ref l, .ref b]) Q E s := by
  obtain ⟨⟨cls, dd, data, sl⟩, ho, hc, n, hd⟩ := id hl
  obtain ⟨⟨cls2, dd2, data2, sl2⟩, ho2, hc2, n2, hd2⟩ := id hb
  simp only at hc hd hc2 hd2
  subst hc hd hc2 hd2
  exact call_meets F.slot_tuple_lt ⟨_, ho, rfl⟩ F.entry_tuple_lt (F.args_tuple_lt_2 _ _) (tuple_ltAt l b items items2 n n2 dd dd2 sl sl2 e r) ⟨ho, ho2, he, hr, h⟩
theorem oneLt_tup {xs ys : List PyData} {a b : Value} {as bs : List Addr} {Q : Bool → Shared → Prop} (ra : PySem.Reads s.heap a (.tuple xs) as) (rb : PySem.Reads s.heap b (.tuple ys) bs) (h : alike (.tuple xs) (.tuple ys) = true)
    (hu : A.units + min (PyData.tuple xs).depth (PyData.tuple ys).depth < cLine) (hq : Q (dataLt (.tuple xs) (.tuple ys)) s) : wpAny (model P w) A (oneLt' true a b) Q E s := by
  have hal : alikeAll xs ys = true := by simpa [alike] using h
  cases ra with
  | @tuple l o vs n _ as₁ h1 h2 h3 h4 =>
    cases rb with
    | @tuple l' o' vs' n' _ bs₁ k1 k2 k3 k4 =>
      have n1 : vs.size = xs.length := by simpa using SeqAt.ReadsAll.length _ _ _ h4
      have n2 : vs'.size = ys.length := by simpa using SeqAt.ReadsAll.length _ _ _ k4
      rw [dataLt_tuple, ← firstLt_toks xs ys hal, ← n1, ← n2] at hq
      rw [oneLt'_eq]
      simp only [if_true]
      refine wpAny_bind (wpAny_cRoomFor (room_here hu) ?_)
      refine wpAny_bind (wpAny_callSpecialIfBound?_slot (T := "tuple") ⟨_, h1, h2⟩ F.slot_tuple_lt (call_tuple_lt (e := pairEq xs ys) (r := fun j => dataLt (xs.getD j .none) (ys.getD j .none)) ⟨_, h1, h2, _, h3⟩ ⟨_, k1, k2, _, k3⟩ (fun j j1 j2 => ?_) (fun j j1 j2 hj => ?_) ?_))
      · have := eqAt_alikeAll xs ys A.in1 s vs.toList vs'.toList _ _ h4 k4 hal (room_in hu) j (by simpa using j1) (by simpa using j2)
        simpa using this
      · have := rcLt_alikeAll xs ys A.in1 s vs.toList vs'.toList _ _ h4 k4 hal (room_in hu) j (by simpa using j1) (by simpa using j2) hj
        simpa using this
      · exact wpAny_truthy_bool hq
theorem firsts {M : Model} {A : Around} {E : Value → Shared → Prop} {s : Shared} : ∀ {vs : List Value} {ds : List PyData}, EachIs (fun v d => ∃ as, PySem.Reads s.heap v d as) vs ds → (∀ d ∈ ds, ∃ xs, d = .tuple xs) → ∀ {Q : List (Option Value) → Shared → Prop}, (∀ os : List (Option Value), os.map (·.isSome) = ds.map more → Q os s) → wpAny M A (vs.mapM firstOfTuple') Q E s
  | _, _, .nil, _, _, h => by
    rw [List.mapM_nil]
    exact wpAny_pure (h [] rfl)
  | _, _, .cons (a := v) (b := d) (as := vs) (bs := ds) ⟨as, r⟩ t, ht, Q, h => by
    obtain ⟨xs, rfl⟩ := ht d (List.mem_cons_self ..)
    cases r with
    | @tuple a o us n _ _ ho hc hd hr =>
      rw [List.mapM_cons]
      refine wpAny_bind ?_
      rw [kas_first_eq]
      refine wpAny_bind (Looks.here (show Looks M s.heap (typeOf (.ref a)) o.cls from (Looks.ld ho).andThen .now) ?_)
      rw [hc, if_neg (by first | decide | simp)]
      refine wpAny_bind (listItems_at ho hd (wpAny_pure ?_))
      refine wpAny_bind (firsts t (fun d hd => ht d (List.mem_cons_of_mem _ hd)) fun os eos => wpAny_pure (h _ ?_))
      have hn : us.size = xs.length := by simpa using SeqAt.ReadsAll.length _ _ _ hr
      have e1 : (us[0]?).isSome = more (.tuple xs) := by
        cases xs with
        | nil =>
          have z : us.size = 0 := hn
          rw [Array.getElem?_eq_none (by omega)]
          rfl
        | cons x xs =>
          have z : 0 < us.size := by
            rw [hn]
            exact Nat.succ_pos _
          rw [Array.getElem?_eq_getElem z]
          rfl
      rw [List.map_cons, List.map_cons, eos, e1]
theorem kind_of {M : Model} {A : Around} {E : Value → Shared → Prop} {s : Shared} {vs : List Value} {ds : List PyData} (e : EachIs (fun v d => ∃ as, PySem.Reads s.heap v d as) vs ds) (ht : ∀ d ∈ ds, ∃ xs, d = .tuple xs) (hne : ds.all more = false) {Q : SortKind → Shared → Prop}
    (h : Q (if (ds.map more).head? = some true then general' else oneType') s) : wpAny M A (keyKind' vs.toArray) Q E s := by
  rw [kat_kind_eq, List.mapM_toArray, map_eq_pure_bind]
  refine wpAny_bind (wpAny_bind (firsts e ht fun os eos => wpAny_pure ?_))
  have h1 : (os.toArray.all fun x => x.isSome) = false := by
    rw [List.all_toArray]
    have z : os.all (fun x => x.isSome) = (os.map (·.isSome)).all id := by
      rw [List.all_map]
      rfl
    rw [z, eos, List.all_map]
    exact hne
  rw [if_neg (by rw [h1]; exact Bool.false_ne_true)]
  have h2 : ((os.toArray[0]?).bind id).isSome = true ↔ (ds.map more).head? = some true := by
    rw [← eos]
    cases os with
    | nil => simp
    | cons o os =>
      cases o <;> simp
  by_cases c : (ds.map more).head? = some true
  · rw [if_pos c] at h
    rw [if_pos (h2.mpr c)]
    exact wpAny_pure h
  · rw [if_neg c] at h
    rw [if_neg (fun z => c (h2.mp z))]
    have hT : ∀ v ∈ vs, Looks M s.heap (typeOf v) (Value.type "tuple") := fun v hv => by
      obtain ⟨d, hd, as, r⟩ := e.left v hv
      obtain ⟨xs, rfl⟩ := ht d hd
      exact looks_reads r
    have hv : vs ≠ [] := by
      rintro rfl
      cases e
      exact absurd hne (by decide)
    rw [oneTypeOnly'_eq, List.mapM_toArray, map_eq_pure_bind]
    refine wpAny_bind (wpAny_bind (wpAny_bind (kas_mapM (r := Value.type "tuple") _ (fun v hv Q' hq => (hT v hv).here hq) (wpAny_pure ?_))))
    have hall2 : ((List.map (fun _ => Value.type "tuple") vs).toArray.all fun x => x == Value.type "tuple") = true := by
      simp only [List.all_toArray, List.all_map, List.all_eq_true]
      intro _ _
      rfl
    have h0 : (List.map (fun _ => Value.type "tuple") vs).toArray[0]? = some (Value.type "tuple") := by
      cases vs with
      | nil => exact absurd rfl hv
      | cons v vs => simp
    rw [h0]
    simp only [hall2, if_true]
    exact wpAny_pure (wpAny_pure h)
theorem sorts_tups {vs : List Value} {ds : List PyData} (e : EachIs (fun v d => ∃ as, PySem.Reads s.heap v d as) vs ds) (hal : AllAlike ds) (ht : ∀ d ∈ ds, ∃ xs, d = .tuple xs) (hu : ∀ d, d ∈ ds → A.units + d.depth < cLine) : SortsAt P w A s (dataKind s.heap ds) vs := by
  have room : ∀ {d d' : PyData}, d ∈ ds → A.units + min d.depth d'.depth < cLine := fun {d d'} hd => Nat.lt_of_le_of_lt (Nat.add_le_add_left (Nat.min_le_left _ _) _) (hu d hd)
  by_cases hne : ds.all more = true
  · refine SortsAt.data e hal (.inl fun d hd => ?_) hu
    have z := List.all_eq_true.mp hne d hd
    obtain ⟨xs, rfl⟩ := ht d hd
    cases xs with
    | nil => exact absurd z (by decide)
    | cons x xs => exact ⟨x, xs, rfl⟩
  · refine ⟨fun v hv => ?_, if (ds.map more).head? = some true then general' else oneType', ?_, fun _ E Q hq => kind_of e ht (by simpa using hne) hq⟩
    · obtain ⟨d, hd, as, r⟩ := e.left v hv
      exact ⟨_, dataKind_some hal hd r⟩
    · intro E x y a b Q ha hb hq
      obtain ⟨d, as, hd, ra, rfl⟩ := dataKind_inv ha
      obtain ⟨d', as', hd', rb, rfl⟩ := dataKind_inv hb
      have hdd := hal d hd d' hd'
      have hroom := room (d' := d') hd
      obtain ⟨xs, rfl⟩ := ht d hd
      obtain ⟨ys, rfl⟩ := ht d' hd'
      by_cases c : (ds.map more).head? = some true
      · rw [if_pos c]
        show wpAny (model P w) A (oneLt' false x y) Q E s
        exact oneLt_alike (fun z => nomatch z) ra rb hdd (fun z => nomatch z) hroom hq
      · rw [if_neg c, keyLt'_oneType]
        exact oneLt_tup ra rb hdd hroom hq
variable {β : Type} {vs : List Value} {bs : List β} {enc : β → PyData} {R : Value → β → Prop}
/-- xs.sort() -/
theorem list_sort_tups {a : Addr} {n : Nat} {Q : Value → Shared → Prop} (ho : s.heap.get? a = some (seqObj "list" vs.toArray n)) (e : EachIs R vs bs) (er : EachIs (fun v b => ∃ as, PySem.Reads s.heap v (enc b) as ∧ a ∉ as) vs bs) (hal : AllAlike (bs.map enc)) (ht : ∀ b ∈ bs, ∃ xs, enc b = .tuple xs) (hL : bs.length ≤ sizeLine)
    (hu : ∀ b, b ∈ bs → A.units + 1 + (enc b).depth < cLine) (h : ∀ out, out.length = bs.length → EachIs R out (bs.mergeSort (dataLe false enc)) → Q .none { s with heap := sortedHeap s.heap a vs (List.toArray out) }) :
    wpAny (model P w) A (call (.builtin "list.sort") [.ref a]) Q E s := by
  have er' : EachIs (fun v b => ∃ as, PySem.Reads (sortingHeap s.heap a vs) v (enc b) as) vs bs := each_keepBut (h' := sortingHeap s.heap a vs) (fun _ _ hb q => sortingHeap_old hb q) (fun o q => by rw [ho] at q; rw [← Option.some.inj q]) hal er
  refine wpAny_call_entry slot_list_sort ⟨_, ho, rfl⟩ entry_list_sort (list_sort_vals (κ := dataKind (sortingHeap s.heap a vs) (bs.map enc)) ho (sorts_tups (s := { s with heap := sortingHeap s.heap a vs }) (each_map (R := fun v d => ∃ as, PySem.Reads (sortingHeap s.heap a vs) v d as) enc er') hal (fun d hd => ?_) (bound_map hu)) (by rw [e.length]; exact hL) ⟨.none, rfl, ?_⟩) (args_list_sort _)
  · obtain ⟨b, hb, rfl⟩ := List.mem_map.mp hd
    exact ht b hb
  · exact h _ (by rw [sortVals_length false rfl]; exact e.length) (sortVals_data false e er' hal)
end
end Sd
/-! Sets of nested tuples over the layer: set(xs), sorted(set). -/
namespace Sd
open PySem PySem.Spec PyProof.Rows L2 Bx TL Dx PySem.W PySem.Calls
mutual
/-- the key that a datum is -/
def nk : PyData → NK
  | .int i => .num i
  | .str x => .text x
  | .tuple xs => .tup (nks xs)
  | _ => .none
def nks : List PyData → List NK
  | [] => []
  | d :: ds => nk d :: nks ds
end
mutual
/-- made of whole numbers, texts and tuples -/
def plain : PyData → Bool
  | .int _ => true
  | .str _ => true
  | .tuple xs => plains xs
  | _ => false
def plains : List PyData → Bool
  | [] => true
  | d :: ds => plain d && plains ds
end
mutual
theorem nk_inj : ∀ (d e : PyData), plain d = true → plain e = true → nk d = nk e → d = e
  | .int i, e, _, he, h => by
    cases e <;> first | (simp only [nk] at h; cases h; rfl) | (simp only [nk] at h; cases h; done) | (simp only [plain] at he; cases he; done)
  | .str i, e, _, he, h => by
    cases e <;> first | (simp only [nk] at h; cases h; rfl) | (simp only [nk] at h; cases h; done) | (simp only [plain] at he; cases he; done)
  | .tuple xs, e, hd, he, h => by
    cases e with
    | tuple ys =>
      simp only [nk, NestedKey.tup.injEq] at h
      simp only [plain] at hd he
      rw [nks_inj xs ys hd he h]
    | _ => first | (simp only [nk] at h; cases h; done) | (simp only [plain] at he; cases he; done)
  | .none, _, hd, _, _ => by simp [plain] at hd
  | .bool _, _, hd, _, _ => by simp [plain] at hd
  | .list _, _, hd, _, _ => by simp [plain] at hd
  | .dict _, _, hd, _, _ => by simp [plain] at hd
theorem nks_inj : ∀ (ds es : List PyData), plains ds = true → plains es = true → nks ds = nks es → ds = es
  | [], [], _, _, _ => rfl
  | [], _ :: _, _, _, h => by simp [nks] at h
  | _ :: _, [], _, _, h => by simp [nks] at h
  | d :: ds, e :: es, hd, he, h => by
    simp only [nks, List.cons.injEq] at h
    simp only [plains, Bool.and_eq_true] at hd he
    rw [nk_inj d e hd.1 he.1 h.1, nks_inj ds es hd.2 he.2 h.2]
end
mutual
theorem is_nk {h : PySem.Heap} : ∀ (d : PyData) (v : Value) (as : List Addr), plain d = true → PySem.Reads h v d as → NestedIs h (nk d) v ∧ as = []
  | .int _, _, _, _, r => by
    cases r
    exact ⟨.int _ _, rfl⟩
  | .str _, _, _, _, r => by
    cases r
    exact ⟨.text _ _, rfl⟩
  | .tuple xs, _, _, hd, r => by
    simp only [plain] at hd
    cases r with
    | tuple h1 h2 h3 h4 =>
      obtain ⟨q1, q2⟩ := is_nks xs _ _ hd h4
      exact ⟨.tup h1 h2 h3 q1, q2⟩
  | .none, _, _, hd, _ => by simp [plain] at hd
  | .bool _, _, _, hd, _ => by simp [plain] at hd
  | .list _, _, _, hd, _ => by simp [plain] at hd
  | .dict _, _, _, hd, _ => by simp [plain] at hd
theorem is_nks {h : PySem.Heap} : ∀ (ds : List PyData) (vs : List Value) (as : List Addr), plains ds = true → PySem.ReadsAll h vs ds as → NestedAll h (nks ds) vs ∧ as = []
  | [], _, _, _, r => by
    cases r
    exact ⟨.nil, rfl⟩
  | d :: ds, _, _, hd, r => by
    simp only [plains, Bool.and_eq_true] at hd
    cases r with
    | cons r1 r2 =>
      obtain ⟨q1, q2⟩ := is_nk d _ _ hd.1 r1
      obtain ⟨q3, q4⟩ := is_nks ds _ _ hd.2 r2
      exact ⟨.cons q1 q3, by rw [q2, q4]; rfl⟩
end
/-- a tuple made of such data, not deep -/
def K8 (d : PyData) : Prop := (∃ xs, d = .tuple xs) ∧ plain d = true ∧ (nk d).depth ≤ 8 ∧ d.depth ≤ 60
theorem perm_each {α β : Type} {R : α → β → Prop} {out its : List α} (pm : out.Perm its) : ∀ {ds : List β}, EachIs R its ds → ∃ es : List β, es.Perm ds ∧ EachIs R out es := by
  induction pm with
  | nil => exact fun e => ⟨_, List.Perm.refl _, e⟩
  | cons x p ih =>
    intro ds e
    cases e with
    | cons h t =>
      obtain ⟨es, q1, q2⟩ := ih t
      exact ⟨_ :: es, q1.cons _, .cons h q2⟩
  | swap x y l =>
    intro ds e
    cases e with
    | cons h t =>
      cases t with
      | cons h2 t2 => exact ⟨_ :: _ :: _, List.Perm.swap _ _ _, .cons h2 (.cons h t2)⟩
  | trans p q ih1 ih2 =>
    intro ds e
    obtain ⟨es, a1, a2⟩ := ih2 e
    obtain ⟨fs, b1, b2⟩ := ih1 a2
    exact ⟨fs, b1.trans a1, b2⟩
section
variable {P : Program} {w : World} {A : Around} {E : Value → Shared → Prop} {s : Shared} {a : Addr} {L : List (Addr × NK)} {es : Array (Int × Value)} {ep : Nat} {t : SetTable}
theorem sorted_setN {Rl : Value → PyData → Prop} {ds : List PyData} {Q : Value → Shared → Prop} (T : Ts w s.heap a L es ep t) (hh : A.handled = none) (hu : A.units + 65 < cLine)
    (e : EachIs Rl (L.map fun p => Value.ref p.1) ds) (er : EachIs (fun u d => ∃ as, PySem.Reads s.heap u d as) (L.map fun p => Value.ref p.1) ds) (hal : AllAlike ds) (hk : ∀ d ∈ ds, K8 d)
    (hQ : ∀ s' p (out : List Value) (c : Nat) (fs : List PyData), (∀ b o, s.heap.get? b = some o → s'.heap.get? b = some o) → s'.gens = s.gens → s'.os = s.os → s.heap.objs.size ≤ p →
      s'.heap.get? p = some (seqObj "list" out.toArray c) → fs.Perm ds → EachIs Rl out (fs.mergeSort (dataLe false id)) → Q (.ref p) s') :
    wpAny (model P w) A (call (.builtin "sorted") [.ref a]) Q E s := by
  obtain ⟨o, ho, hex, hd⟩ := T.obj
  have hn := T.num
  have hfew := T.few
  have hsb : scanBound = 4096 := rfl
  have hva : es.toList.map (·.2) = L.map fun p => Value.ref p.1 := by
    rw [T.row, List.map_map]
    rfl
  refine Calls.call_function_entry kind_sorted plain_sorted entry_sorted (args_sorted1 _) ?_
  unfold Builtin.«sorted»
  refine wpAny_bind (m := checkCount "sorted" 1 1 _) (wpAny_pure ?_)
  refine wpAny_bind (collect_set (A := A.in1) hh ⟨_, ho, hex.1, hd⟩ T.fit (by rw [hn]; omega) T.tab.ris T.led fun s1 vs k1 hz g1 o1 pm => ?_)
  rw [hva] at pm
  have both : EachIs (fun u d => Rl u d ∧ ∃ as, PySem.Reads s.heap u d as) (L.map fun p => Value.ref p.1) ds := by
    clear hQ hal hk hva
    revert e er
    generalize (L.map fun p => Value.ref p.1) = us
    intro e er
    clear pm
    induction e with
    | nil => exact .nil
    | cons h t ih =>
      cases er with
      | cons r1 r2 => exact .cons ⟨h, r1⟩ (ih r2)
  obtain ⟨fs, pf, ef⟩ := perm_each pm both
  have hfl : fs.length = L.length := by rw [pf.length_eq, ← e.length, List.length_map]
  have hvl : vs.length = L.length := by rw [pm.length_eq, List.length_map]
  have hline : vs.length ≤ sizeLine := by
    rw [hvl, sizeLine_eq]
    omega
  refine wpAny_bind (wpAny_newList ?_ hline)
  have hoL : (s1.heap.push (seqObj "list" vs.toArray 0)).get? s1.heap.objs.size = some (seqObj "list" vs.toArray 0) := Heap.get?_push_size _ rfl
  have mfs : ∀ d ∈ fs, d ∈ ds := fun d hd => pf.mem_iff.mp hd
  have kp : ∀ b u, s.heap.get? b = some u → (s1.heap.push (seqObj "list" vs.toArray 0)).get? b = some u := fun b u q => Heap.get?_push_of_some _ (k1 b u q)
  refine wpAny_bind (wpAny_holding (list_sort_tups (R := Rl) (enc := id) (bs := fs) hoL (ef.mono fun _ _ z => z.1) ?reads (by rw [List.map_id]; exact fun d hd d' hd' => hal d (mfs d hd) d' (mfs d' hd')) (fun d hd => (hk d (mfs d hd)).1) (by rw [hfl, sizeLine_eq]; omega) (fun d hd => ?room) fun out hout eo => ?done))
  case reads =>
    refine (each_mem ef).mono fun u d z => ?_
    obtain ⟨as, r⟩ := z.1.2
    have z0 := (is_nk d u as (hk d (mfs d z.2)).2.1 r).2
    exact ⟨as, PyProof.Rows.Reads.keeps kp r, by rw [z0]; exact List.not_mem_nil⟩
  case room =>
    have z := (hk d (mfs d hd)).2.2.2
    show A.in1.units + 1 + d.depth < cLine
    simp only [Around.in1_units]
    omega
  case done =>
    obtain ⟨c, hc⟩ := sortedHeap_at (vs := vs) (out := out.toArray) hoL
    refine wpAny_pure ⟨_, rfl, hQ _ s1.heap.objs.size out c fs (fun b u q0 => ?_) g1 o1 hz hc pf eo⟩
    have q := k1 b u q0
    have hlt := Heap.lt_size q
    show (sortedHeap (s1.heap.push (seqObj "list" vs.toArray 0)) s1.heap.objs.size vs _).get? b = some u
    rw [sortedHeap_old (Nat.ne_of_lt hlt) (by rw [size_push']; exact Nat.lt_succ_of_lt hlt)]
    exact Heap.get?_push_of_some _ q
end
/-! ### over the layer -/
def SetN (w : World) (a : Addr) (L : List (Addr × NK)) : HO := .ext fun h => ∃ h0 es ep t, Ts w h0 a L es ep t ∧ ∀ o, h0.get? a = some o → h.get? a = some o
section
variable {X : Cx} {pins : List (Addr × Obj)} {σ : L2.St} {H : Hp} {s : Shared}
theorem setN_ok {P : Program} {w : World} {h : PySem.Heap} {a : Addr} {L : List (Addr × NK)} {es : Array (Int × Value)} {ep : Nat} {t : SetTable} (R : Ts w h a L es ep t) : ObjOk P w H h a (SetN w a L) := by
  obtain ⟨o, ho, _⟩ := R.obj
  exact ⟨⟨h, es, ep, t, R, fun _ z => z⟩, ⟨_, ho⟩, fun h1 h2 ⟨h0, es, ep, t, p, k⟩ k2 => ⟨h0, es, ep, t, p, fun o z => k2 o (k o z)⟩⟩
theorem keys_of (I : Inv X pins σ H s) : ∀ {xs : List V} {us : List Value} {ds : List PyData}, DpAll X.K H xs ds → Vals xs us → (∀ d ∈ ds, K8 d) →
    ∃ ks : List (Addr × NK), us = ks.map (fun p => Value.ref p.1) ∧ ks.map (·.2) = ds.map nk ∧ (∀ p ∈ ks, Is8 s.heap p.2 p.1) ∧ ∀ p ∈ ks, ∃ d ∈ ds, p.2 = nk d ∧ Dp X.K H (V.ref p.1) d
  | [], [], [], _, _, _ => ⟨[], rfl, rfl, fun p hp => (by cases hp), fun p hp => (by cases hp)⟩
  | x :: xs, u :: us, d :: ds, h, r, hk => by
    cases h with
    | cons h1 h2 =>
      cases r with
      | cons r1 r2 =>
        obtain ⟨ks, q1, q2, q3, q4⟩ := keys_of I h2 r2 fun d hd => hk d (List.mem_cons_of_mem _ hd)
        obtain ⟨⟨ys, rfl⟩, k1, k2, k3⟩ := hk d (List.mem_cons_self ..)
        obtain ⟨as, rd⟩ := Dp.reads I _ _ _ h1 r1
        obtain ⟨b, zs, rfl, _⟩ := dp_tup h1
        have eu : u = Value.ref b := by
          cases r1
          rfl
        subst eu
        refine ⟨(b, nk (.tuple ys)) :: ks, by rw [q1]; rfl, by rw [List.map_cons, List.map_cons, q2], fun p hp => ?_, fun p hp => ?_⟩
        · rcases List.mem_cons.mp hp with z | z
          · rw [z]
            exact ⟨(is_nk _ _ _ k1 rd).1, k2⟩
          · exact q3 p z
        · rcases List.mem_cons.mp hp with z | z
          · rw [z]
            exact ⟨_, List.mem_cons_self .., rfl, h1⟩
          · obtain ⟨e, e1, e2⟩ := q4 p z
            exact ⟨e, List.mem_cons_of_mem _ e1, e2⟩
  | [], _ :: _, _, _, r, _ => by cases r
  | _ :: _, [], _, _, r, _ => by cases r
  | [], [], _ :: _, h, _, _ => by cases h
  | _ :: _, _ :: _, [], h, _, _ => by cases h
theorem nodup_of {α β : Type} (f : α → β) : ∀ {l : List α}, (l.map f).Nodup → l.Nodup
  | [], _ => List.nodup_nil
  | x :: l, h => by
    rw [List.map_cons, List.nodup_cons] at h
    exact List.nodup_cons.mpr ⟨fun z => h.1 (List.mem_map.mpr ⟨x, z, rfl⟩), nodup_of f h.2⟩
theorem pairs_same {α β : Type} : ∀ {l m : List (α × β)}, l.map (·.1) = m.map (·.1) → l.map (·.2) = m.map (·.2) → l = m
  | [], [], _, _ => rfl
  | [], _ :: _, h, _ => by simp at h
  | _ :: _, [], h, _ => by simp at h
  | (a, b) :: l, (c, d) :: m, h, g => by
    simp only [List.map_cons, List.cons.injEq] at h g
    rw [h.1, g.1, pairs_same h.2 g.2]
theorem pick {K : PySem.W.Frag} {ds : List PyData} : ∀ (L : List (Addr × NK)), (∀ p ∈ L, ∃ d ∈ ds, p.2 = nk d ∧ Dp K H (V.ref p.1) d) → ∃ es : List PyData, DpAll K H (L.map fun p => V.ref p.1) es ∧ L.map (·.2) = es.map nk ∧ ∀ d ∈ es, d ∈ ds
  | [], _ => ⟨[], .nil, rfl, fun d hd => (by cases hd)⟩
  | p :: L, h => by
    obtain ⟨es, q1, q2, q3⟩ := pick L fun p hp => h p (List.mem_cons_of_mem _ hp)
    obtain ⟨d, d1, d2, d3⟩ := h p (List.mem_cons_self ..)
    refine ⟨d :: es, .cons d3 q1, by rw [List.map_cons, List.map_cons, q2, d2], fun e he => ?_⟩
    rcases List.mem_cons.mp he with z | z
    · rw [z]
      exact d1
    · exact q3 e z
/-- set(xs), xs a list or a tuple of such tuples -/
def rSetN (K : PySem.W.Frag) (w : World) : List V → Hp → VK → Prop := fun vs H Q => ∃ (a : Addr) (xs : List V) (ds : List PyData), vs = [V.ref a] ∧ (SqL K H a xs ∨ SqT K H a xs) ∧ DpAll K H xs ds ∧ (∀ d ∈ ds, K8 d) ∧ ds.length < 64 ∧
  ∀ p L es, H p = none → DpAll K H (L.map fun q => V.ref q.1) es → L.map (·.2) = es.map nk → es.Nodup → (∀ d, d ∈ es ↔ d ∈ ds) → es.length ≤ ds.length → Q (.ref p) (upd H p (SetN w p L))
theorem cr_setN {w : World} (hc : X.calm = true) (hw : X.w = w) (hu : X.A.units + 65 < cLine) : CallR X (.type "set") (rSetN X.K w) := by
  subst hw
  intro pins s σ H vs us Q I r h
  obtain ⟨a, xs, ds, rfl, hs, hd, hk, hlen, q⟩ := h
  rw [Vals.ref1 r]
  have hn : H s.heap.objs.size = none := I.hok.fresh (Nat.le_refl _)
  obtain ⟨its, rv, pl⟩ : ∃ its : List Value, Vals xs its ∧ (s.heap.IsList a its.toArray ∨ s.heap.IsTuple a its.toArray) := by
    rcases hs with hs | hs
    · obtain ⟨its, rv, pl, _⟩ := I.list hs
      exact ⟨its, rv, .inl pl.isList⟩
    · obtain ⟨its, rv, pl, _⟩ := I.tuple hs
      exact ⟨its, rv, .inr pl⟩
  obtain ⟨ks, e1, e2, e3, e4⟩ := keys_of I hd rv hk
  have hkl : ks.length = ds.length := by
    have z := congrArg List.length e2
    rwa [List.length_map, List.length_map] at z
  refine call_setN (P := X.prog) (w := X.w) ks (I.ok.hd hc) pl (by simpa using e1) e3 (by omega) (by omega) fun h' tk L es ep t T sm k => ?_
  obtain ⟨fs, f1, f2, f3⟩ := pick L fun p hp => e4 p (List.mem_of_mem_take (sm.sub p hp))
  have inj : ∀ d ∈ ds, ∀ d' ∈ ds, nk d = nk d' → d = d' := fun d hd d' hd' e => nk_inj d d' (hk d hd).2.1 (hk d' hd').2.1 e
  refine ⟨.ref s.heap.objs.size, upd H s.heap.objs.size (SetN X.w s.heap.objs.size L), I.laid (t' := tk) k (Nat.le_refl _) (setN_ok T), rfl, q _ L fs hn f1 f2 ?_ (fun d => ⟨f3 d, fun hd => ?_⟩) ?_⟩
  · have z := T.one
    rw [f2] at z
    exact nodup_of nk z
  · have z : nk d ∈ ks.map (·.2) := by
      rw [e2]
      exact List.mem_map.mpr ⟨d, hd, rfl⟩
    obtain ⟨p, hp, ep⟩ := List.mem_map.mp z
    have z2 := sm.all p (by rw [List.take_length]; exact hp)
    rw [f2, ep] at z2
    obtain ⟨d', hd', e'⟩ := List.mem_map.mp z2
    rw [← inj d' (f3 d' hd') d hd e']
    exact hd'
  · have z := sm.len
    have z2 := congrArg List.length f2
    rw [List.length_map, List.length_map] at z2
    omega
theorem refs_vals : ∀ (L : List (Addr × NK)), Vals (L.map fun q => V.ref q.1) (L.map fun q => Value.ref q.1)
  | [] => .nil
  | _ :: L => .cons rfl (refs_vals L)
/-- sorted(a set of such tuples) -/
def rSortN (K : PySem.W.Frag) (w : World) : List V → Hp → VK → Prop := fun vs H Q => ∃ (a : Addr) (L : List (Addr × NK)) (ds : List PyData), vs = [V.ref a] ∧ H a = some (SetN w a L) ∧ DpAll K H (L.map fun q => V.ref q.1) ds ∧ L.map (·.2) = ds.map nk ∧ AllAlike ds ∧ (∀ d ∈ ds, K8 d) ∧ ds.length < 64 ∧
  ∀ (ys : List V) (fs : List PyData) (p : Addr), H p = none → fs.Perm ds → DpAll K H ys (fs.mergeSort So.dle) → Q (.ref p) (upd H p (.lst ys))
theorem cr_sortN {w : World} (hc : X.calm = true) (hw : X.w = w) (hu : X.A.units + 65 < cLine) : CallR X (.builtin "sorted") (rSortN X.K w) := by
  subst hw
  intro pins s σ H vs us Q I r h
  obtain ⟨a, L, ds, rfl, ha, hd, hn2, hal, hk, hlen, q⟩ := h
  obtain ⟨h0, es, ep, t, T0, k0⟩ := (I.hok a _ ha).1
  rw [Vals.ref1 r]
  have rl := refs_vals L
  have ea := So.each_of I hd rl
  have T : Ts X.w s.heap a L es ep t := T0.keep k0 fun p hp => by
    obtain ⟨ks, e1, e2, e3, e4⟩ := keys_of I hd rl hk
    have es1 : ks.map (·.1) = L.map (·.1) := by
      have z := congrArg (List.map fun v => match v with | Value.ref b => b | _ => 0) e1
      rw [List.map_map, List.map_map] at z
      exact z.symm
    have el : ks = L := pairs_same es1 (by rw [e2, hn2])
    rw [← el] at hp
    exact e3 p hp
  refine sorted_setN (P := X.prog) T (I.ok.hd hc) hu (ea.mono fun _ _ z => z.1) (ea.mono fun _ _ z => z.2) hal hk fun s' p out c fs k g o hp hg pf eo => ?_
  obtain ⟨ys, ry, dy⟩ := So.each_back eo
  have hl2 : ys.length ≤ sizeLine := by
    have z := eo.length
    rw [List.length_mergeSort, pf.length_eq] at z
    rw [ry.length, z, sizeLine_eq]
    omega
  have hn : H p = none := I.hok.fresh hp
  have J : Inv X pins σ (upd H p (.lst ys)) { s with heap := s'.heap, gens := s'.gens, drawn := s'.drawn, toks := s'.toks } :=
    I.call (ch := []) (Un.laid k hp hn) (I.hok.laid k hp ⟨hl2, out, c, ry, hg⟩) (by rw [g]; exact I.bare) (fun _ z => nomatch z)
  have e : s' = { s with heap := s'.heap, gens := s'.gens, drawn := s'.drawn, toks := s'.toks } := by
    cases s'
    cases s
    cases o
    rfl
  rw [e]
  exact ⟨.ref p, _, J, rfl, q ys fs p hn pf dy⟩
end
end Sd
/-! len(set of texts); data in a tuple of data; == and != of data within a block. -/
namespace Sl
open PySem PySem.Spec PyProof.Rows L2 Bx TL Dx
section
variable {X : Cx}
def rLenX (P : Program) (w : World) : List V → Hp → VK → Prop := fun vs H Q => ∃ (a : Addr) (l : List Str), vs = [V.ref a] ∧ H a = some (Sx.SetV P w a l) ∧ l.length < 4000 ∧ Q (.int l.length) H
theorem call_lenX : CallR X (.builtin "len") (rLenX X.prog X.w) := by
  intro pins s σ H vs us Q I r h
  obtain ⟨a, l, rfl, ha, hlen, q⟩ := h
  have R : Sx.SetX X.prog X.w s.heap a l := (I.hok a _ ha).1
  obtain ⟨⟨es, ep, t⟩, ho, F, nd, ri, hl⟩ := R
  rw [Vals.ref1 r]
  have hsz : es.size = l.length := F.sz
  exact call_len_set ho ⟨rfl, rfl, rfl⟩ rfl F.fit (by rw [hsz]; omega) ⟨.int l.length, H, I.tok _, ⟨s.toks + 1, by rw [hsz]⟩, q⟩
def rInT (K : PySem.W.Frag) : R2 := fun x y H Q => ∃ d ds, Dp K H x d ∧ Dp K H y (.tuple ds) ∧ SeqAt.shaped d = true ∧ SeqAt.shaped (.tuple ds) = true ∧ Q (.bl (ds.any fun z => PyData.eqv z d)) H
theorem op_inT {K : PySem.W.Frag} (hK : X.K = K) (hu : X.A.units + 65 < cLine) : OpR X (compareOp .In) (rInT K) := by
  subst hK
  intro pins s σ H x y v u Q I rx ry h
  obtain ⟨d, ds, hd, he, sd, se, q⟩ := h
  obtain ⟨as, r1⟩ := Dp.reads I d x v hd rx
  obtain ⟨bs, r2⟩ := Dp.reads I (.tuple ds) y u he ry
  exact SeqAt.in_tuple_reads r2 r1 (SeqAt.canLay_of_shaped se) (SeqAt.canLay_of_shaped sd) (room_in_shaped sd hu) ⟨.bl _, H, I, rfl, q⟩
theorem op_eqDK {K : PySem.W.Frag} (hK : X.K = K) (hu : X.A.units + 64 < cLine) : OpR X (compareOp .Eq) (rEqD K) := by
  subst hK
  exact op_eqD hu
theorem op_neDK {K : PySem.W.Frag} (hK : X.K = K) (hu : X.A.units + 64 < cLine) : OpR X (compareOp .NotEq) (rNeD K) := by
  subst hK
  exact op_neD hu
end
end Sl
/-! t[::-1] of a tuple. -/
namespace Rt
open PySem PySem.Spec PyProof.Rows L2 HT
section
variable {prog : Program} {w : World} {A : Around} {E : Value → Shared → Prop} {s : Shared}
theorem sliceApplied_rev {sl : Addr} {vs : Value} {n : Nat} {Q : Int × Int × Nat → Shared → Prop} (hs : s.heap.IsSliceOf sl .none .none vs) (ps : IsPart vs (some (-1))) (h : Q ((n : Int) - 1, -1, n) s) :
    wpAny (model prog w) A (Builtin.Slice.sliceApplied (.ref sl) (pure (n : Int))) Q E s := by
  obtain ⟨os, hos, hcs, hds⟩ := id hs
  unfold Builtin.Slice.sliceApplied Builtin.Slice.sliceFields
  refine wpAny_bind (wpAny_bind (wpAny_field hos hds (x := .none) rfl (wpAny_bind (wpAny_field hos hds (x := .none) rfl (wpAny_bind (wpAny_field hos hds (x := vs) rfl (wpAny_pure ?_)))))))
  refine wpAny_bind (slicePart_ ps ?_)
  show wpAny _ _ (if ((-1 : Int) == 0) = true then _ else _) _ _ s
  rw [if_neg (by decide)]
  refine wpAny_bind (slicePart_none (wpAny_bind (slicePart_none (wpAny_bind (wpAny_pure ?_)))))
  show wpAny _ _ (pure ((n : Int) - 1, (-1 : Int), Builtin.Slice.slicePlaces ((n : Int) - 1) (-1) (-1))) _ _ s
  have e : Builtin.Slice.slicePlaces ((n : Int) - 1) (-1) (-1) = n := by
    unfold Builtin.Slice.slicePlaces
    rw [if_neg (by decide)]
    split
    · have e2 : ((n : Int) - 1 - -1 - 1) / (- -1) = (n : Int) - 1 := by
        rw [show (- -1 : Int) = 1 by decide, Int.ediv_one]
        omega
      rw [e2]
      omega
    · show (0 : Int).toNat = n
      omega
  rw [e]
  exact wpAny_pure h
theorem pick_rev (xs : Array Value) : ((List.range xs.size).filterMap fun (k : Nat) => xs[(((xs.size : Int) - 1) + (k : Int) * -1).toNat]?).toArray = xs.toList.reverse.toArray := by
  have e : (fun (k : Nat) => xs[(((xs.size : Int) - 1) + (k : Int) * -1).toNat]?) = (xs[·]?) ∘ fun k => xs.size - 1 - k := by
    funext k
    have : (((xs.size : Int) - 1) + (k : Int) * -1).toNat = xs.size - 1 - k := by omega
    show xs[(((xs.size : Int) - 1) + (k : Int) * -1).toNat]? = xs[xs.size - 1 - k]?
    rw [this]
  rw [e, ← List.filterMap_map, PySem.W.krv_range, List.filterMap_reverse, PySem.W.krv_all]
theorem getItem_tuple_rev {t sl : Addr} {items : Array Value} {vs : Value} {Q : Value → Shared → Prop} (ht : IsTup s.heap t items) (hs : s.heap.IsSliceOf sl .none .none vs) (ps : IsPart vs (some (-1)))
    (h : Q (.ref s.heap.objs.size) { s with heap := s.heap.push { cls := .type "tuple", data := .seq items.toList.reverse.toArray } })
    (hsz : items.size ≤ sizeLine) : wpAny (model prog w) A (getItem (.ref t) (.ref sl)) Q E s := by
  have htake : sizeOk (.seq items.toList.reverse.toArray) := by
    show items.toList.reverse.toArray.size ≤ sizeLine
    rw [List.size_toArray, List.length_reverse, Array.length_toList]
    exact hsz
  obtain ⟨os, hos, hcs, hds⟩ := id hs
  have hTs : s.TypeIs (.ref sl) "slice" := ⟨os, hos, hcs⟩
  unfold getItem
  try with_reducible refine wpAny_holding ?_
  first | refine wpAny_bind (wpAny_pure ?_) | skip
  refine wpAny_bind (wpAny_sequenceKey ht.typeIs (by decide) ?_)
  refine wpAny_bind (wpAny_callSpecial?_slot (name := Str.ofString "__getitem__") ht.typeIs PyProof.Rows.slot_tuple_getitem
    (wpAny_call_entry PyProof.Rows.slot_tuple_getitem ht.typeIs entry_tuple_getitem ?_ (args_tuple_getitem _ _)))
  show wpAny _ _ (Builtin.Tuple.tupleItemsOf (.ref t) >>= _) _ _ s
  refine wpAny_bind (tupleItemsOf_ ht ?_)
  refine wpAny_bind (wpAny_typeOf hTs ?_)
  rw [if_pos (by decide)]
  refine wpAny_bind (sliceApplied_rev hs ps ?_)
  have hno : ¬ (((((items.size : Int) - 1) == 0 && (-1 : Int) == 1) && items.size == items.size) = true) := by
    rw [show ((-1 : Int) == 1) = false by decide, Bool.and_false, Bool.false_and]
    exact Bool.false_ne_true
  show wpAny _ _ (if ((((items.size : Int) - 1) == 0 && (-1 : Int) == 1) && items.size == items.size) = true then _ else _) _ _ s
  rw [if_neg hno, pick_rev]
  first
    | exact wpAny_bind (m := Builtin.Tuple.tupleExact _) (wpAny_newObj_type (wpAny_pure ⟨_, rfl, wpAny_pure h⟩) htake)
    | exact wpAny_bind (m := Builtin.Tuple.tupleExact _) (wpAny_newObj_type (wpAny_bind (wpAny_pure (wpAny_pure ⟨_, rfl, wpAny_pure h⟩))) htake)
    | exact wpAny_bind (wpAny_bind (m := Builtin.Tuple.tupleExact _) (wpAny_newObj_type (wpAny_pure (wpAny_pure ⟨_, rfl, wpAny_pure h⟩)) htake))
    | exact wpAny_bind (wpAny_bind (m := Builtin.Tuple.tupleExact _) (wpAny_newObj_type (wpAny_pure ⟨_, rfl, wpAny_pure h⟩) htake))
end
section
variable {X : Cx}
def tRevT (K : PySem.W.Frag) (te : TE) : TE := fun σ H Q => te σ H fun x H1 => ∃ a xs, x = .ref a ∧ SqT K H1 a xs ∧ ∀ p, H1 p = none → Q (.ref p) (upd H1 p (.tup xs.reverse))
theorem pe_revT {e : Expr} {te : TE} {k : Nat} {p1 p2 p3 pos : Pos} (he : PE X e te) : PE X (.Subscript e (.Slice none none (some (.UnaryOp .USub (.Constant (.int 1) k p1) p2)) p3) pos) (tRevT X.K te) := by
  refine ⟨fun pins s σ H Q I h => ?_⟩
  refine Subscript_ (thn (he.run pins s σ H _ I h) fun v s1 ⟨x, H1, I1, r1, q1⟩ => ?_)
  obtain ⟨a, xs, ex, hx, q⟩ := q1
  subst ex
  cases r1
  have hst : PO X (some (.UnaryOp .USub (.Constant (.int 1) k p1) p2)) (tPart (tUn (rU fun i => .int (-i)) (tC (.int 1)))) := po_some (pe_un un_neg pe_int)
  refine wpAny_Slice (thn (po_none.run pins s1 σ H1 (fun o H2 => o = none ∧ H2 = H1) I1 ⟨rfl, rfl⟩) fun vl s2 ⟨l, H2, I2, pl, el, e2⟩ => ?_)
  subst el e2
  refine thn (po_none.run pins s2 σ H2 (fun o H3 => o = none ∧ H3 = H2) I2 ⟨rfl, rfl⟩) fun vu s3 ⟨u, H3, I3, pu, eu, e3⟩ => ?_
  subst eu e3
  refine thn (hst.run pins s3 σ H3 (fun o H4 => o = some (-1) ∧ H4 = H3) I3 ⟨1, rfl, -1, rfl, rfl, rfl⟩) fun vs s4 ⟨o, H4, I4, ps, eo, e4⟩ => ?_
  subst eo e4
  cases pl
  cases pu
  have I5 : Inv X pins σ H4 { s4 with heap := s4.heap.push { cls := .type "slice", data := .fields #[.none, .none, vs] } } := I4.kept (t' := s4.toks) fun b ob q => Heap.get?_push_of_some _ q
  obtain ⟨its, r, ht, hz⟩ := I5.tuple hx
  have hlen := r.length
  show wpAny (model X.prog X.w) X.A (subscriptTail e (.Slice none none (some (.UnaryOp .USub (.Constant (.int 1) k p1) p2)) p3) (.ref a) (.ref s4.heap.objs.size)) (EP X pins σ Q) X.xe { s4 with heap := s4.heap.push { cls := .type "slice", data := .fields #[.none, .none, vs] } }
  refine tail_any (ops := [.ref a, .ref s4.heap.objs.size]) ht.typeIs (PyProof.Rows.slot_tuple_getitem.lookup) ?_ (by with_unfolding_all rfl)
  refine getItem_tuple_rev ht (Heap.IsSliceOf.new _ .none .none vs) ps ?_ (by rw [List.size_toArray]; omega)
  refine ⟨.ref _, _, I5.laid (t' := s4.toks) (o := .tup xs.reverse) (fun b ob q => Heap.get?_push_of_some _ q) (Nat.le_refl _) ?_, rfl, q _ (I5.hok.fresh (Nat.le_refl _))⟩
  exact ⟨by rw [List.length_reverse]; exact hz, _, r.reverse, IsTup.new _ _⟩
end
end Rt
/-! try with several clauses: one clause more; isinstance of an error without a dict. -/
namespace Tr
open PySem PySem.Spec PyProof.Rows L2 Bx TL Dx Zx Ow Sup Er Px
theorem hd_cons {X : Cx} {n x : Str} {C : Value} {t : Addr → Value → Option Addr → TS} {b0 : Stmt} {bs : List Stmt} {p1 p2 : Pos} {hs : List ExceptHandler} {l : List Cl} (nm : Names X x C)
    (su : ∀ (a : Addr) (o : Obj) (cls : Value) (d : Option Addr) (pn : List (Addr × Obj)), Zc cls d o → (∃ vs, o.data = .fields vs) → PSs (X.suite a ((a, o) :: pn)) (b0 :: bs) (t a cls d)) (r : HdA X n hs l) :
    HdA X n (.ExceptHandler (some (.Name x p1)) (some n) (b0 :: bs) p2 :: hs) ((C, t) :: l) := HdA.cons (c := (C, t)) nm su r
def rIsO (K : PySem.W.Frag) (a : Addr) (cls : Value) (d : Option Addr) : List V → Hp → VK → Prop := fun xs H Q => ∃ D, cls = .ref D ∧ d = none ∧ ExcC K D ∧ rIsE K D a xs H Q
theorem call_isO {X : Cx} {a : Addr} {cls : Value} {d : Option Addr} {oe : Obj} {pn : List (Addr × Obj)} (hz : Zc cls d oe) (hf : ∃ vs, oe.data = .fields vs) : CallR (X.suite a ((a, oe) :: pn)) (.builtin "isinstance") (rIsO X.K a cls d) := by
  intro pins s σ H xs us Q I r h
  obtain ⟨D, rfl, rfl, C, h⟩ := h
  exact call_isE C hz hf pins s σ H xs us Q I r h
end Tr
/-! {**d, k: v}, and min(xs, default=v). -/
namespace Dd
open PySem PySem.Spec PyProof.Rows L2 Bx TL
open Sem (wp)
section
variable {prog : Program} {w : World} {κ : Type} [DecidableEq κ] {knd : PySem.KeyKind prog w κ} {A : Around} {E : Value → Shared → Prop} {s : Shared}
theorem put_pairs {d : Addr} {kvs : List (κ × Value)} {k : κ} {key v : Value} {Q : Unit → Shared → Prop} (hkey : knd.is k key = true) (hm : s.heap.DictOf knd d kvs)
    (hQ : ∀ h', h'.DictOf knd d (PySem.stored kvs k v) → Heap.SameBut d s.heap h' → Q () { s with heap := h' }) (hsz : kvs.length ≤ sizeLine) :
    wpAny (model prog w) A (dictPut d (knd.hash k) key v) Q E s := by
  obtain ⟨o, es, ep, ho, hc, hd, hk, hp, hn⟩ := hm
  have hes : es.size ≤ sizeLine := by
    have e1 := hp.length
    have e2 : es.toList.length = es.size := by simp
    omega
  unfold dictPut
  refine wpAny_bind (PySem.wpAny_dictFind_of hkey ho hd hk ?_)
  have hidx : (es.findIdx? fun e => knd.is k e.key) = kvs.findIdx? fun kv => decide (kv.1 = k) := by
    rw [← hp.findIdx k]; obtain ⟨l⟩ := es; simp
  cases hi : es.findIdx? fun e => knd.is k e.key with
  | some i =>
    refine wpAny_updateDict ho hd (hQ _ ⟨_, _, ep, Heap.get?_update_self _ ho (Obj.isFreed_of_dict (Obj.data_mapDict hd _)), hc.mapDict _, Obj.data_mapDict hd _, hk.modify _ _, ?_, ?_⟩ (Heap.SameBut.update ..))
    · rw [PySem.stored, if_pos (PySem.any_of_findIdx_some (hidx ▸ hi))]
      have hl : (es.toList.findIdx? fun e => knd.is k e.key) = some i := by rw [← hi]; obtain ⟨l⟩ := es; simp
      have := hp.modify hn hl v
      obtain ⟨l⟩ := es
      simpa using this
    · rw [PySem.stored, if_pos (PySem.any_of_findIdx_some (hidx ▸ hi)), PySem.keys_map_store]; exact hn
  | none =>
    have hnot : k ∉ kvs.map (·.1) := PySem.not_mem_of_findIdx_none (hidx ▸ hi)
    have hany : ¬ (kvs.any fun kv => decide (kv.1 = k)) = true := by
      rw [List.any_eq_true]; rintro ⟨kv, hkv, he⟩
      exact hnot (List.mem_map.mpr ⟨kv, hkv, of_decide_eq_true he⟩)
    refine wpAny_updateDictKeys (hz := hes) ho hd (hQ _ ⟨_, _, ep + 1, Heap.get?_update_self _ ho (Obj.isFreed_of_dict (Obj.data_mapDictKeys hd _)), hc.mapDictKeys _, Obj.data_mapDictKeys hd _, hk.push hkey _, ?_, ?_⟩ (Heap.SameBut.update ..))
    · rw [PySem.stored, if_neg hany]
      have := hp.append hkey (knd.hash k) v
      obtain ⟨l⟩ := es
      simpa using this
    · rw [PySem.stored, if_neg hany, List.map_append, List.nodup_append]
      refine ⟨hn, by simp, ?_⟩
      intro a ha b hb
      simp only [List.map_cons, List.map_nil, List.mem_singleton] at hb
      subst hb
      exact fun e => hnot (e ▸ ha)
theorem merge_map {d o : Addr} {kvs more : List (κ × Value)} {Q : Unit → Shared → Prop} (hdo : d ≠ o) (hoS : (o == sysModules) = false)
    (hd : s.heap.DictOf knd d kvs) (ho : s.heap.DictOf knd o more)
    (hQ : ∀ h', h'.DictOf knd d (PySem.merged kvs more) → Heap.SameBut d s.heap h' → Q () { s with heap := h' })
    (hsz : kvs.length + more.length ≤ sizeLine) :
    wpAny (model prog w) A (mergeMapping d (.ref o) false) Q E s := by
  obtain ⟨od, esd, epd, hod, hcd, hdd, hkd, hpd, hnd⟩ := id hd
  obtain ⟨oo, eso, epo, hoo, hco, hdo', hko, hpo, hno⟩ := id ho
  have hlen : more.length = eso.size := by rw [← hpo.length]; simp
  unfold mergeMapping
  refine wpAny_bind (wpAny_isInstance ho.typeIs isSubtype_dict_dict ?_)
  simp only [if_true]
  refine wpAny_bind (wpAny_specialOf ho.typeIs F.slot_dict_iter.lookup (wpAny_bind (wpAny_pure ?_)))
  show wpAny _ _ (if (o == sysModules) = true then _ else _) _ _ _
  rw [if_neg (by rw [hoS]; exact Bool.false_ne_true)]
  have fin : wpAny (model prog w) A (do
      let size := (← dictEntries o).size
      let epoch ← dictEpoch o
      for i in List.range size do
        let some e := (← dictEntries o)[i]? | unsupported "dict.changed-during-merge"
        holding [e.key, e.val] do
          dictPut d e.hash e.key e.val
        if (← dictEpoch o) != epoch then unsupported "dict.changed-during-merge") Q E s := by
    refine wpAny_bind (wpAny_dictEntries hoo hdo' ?_)
    refine wpAny_bind (wpAny_dictEpoch hoo hdo' ?_)
    refine wpAny_bind (wpAny_forIn_list _
      (fun rest _ s' => ∃ h' i, s' = { s with heap := h' } ∧ rest = List.range' i (eso.size - i) ∧ i ≤ eso.size ∧ h'.DictOf knd d (PySem.merged kvs (more.take i)) ∧ h'.get? o = some oo ∧ Heap.SameBut d s.heap h')
      (fun _ s' => wpAny (model prog w) A (pure ()) Q E s') ?_ ?_ (List.range eso.size) _ ⟨s.heap, 0, rfl, by rw [Nat.sub_zero, List.range_eq_range'], Nat.zero_le _, by simpa [PySem.merged] using hd, hoo, Heap.SameBut.refl _ _⟩)
    · rintro x rest b s' ⟨h', i, rfl, hr, hi, hd', hoo', hs'⟩
      have hlt : i < eso.size := by
        rcases Nat.lt_or_ge i eso.size with h | h
        · exact h
        · rw [Nat.sub_eq_zero_of_le h] at hr; simp at hr
      obtain ⟨rfl, hrest⟩ : x = i ∧ rest = List.range' (i + 1) (eso.size - (i + 1)) := by
        have e : eso.size - i = (eso.size - (i + 1)) + 1 := by omega
        rw [e, List.range'_succ] at hr
        injection hr with h1 h2
        exact ⟨h1, h2⟩
      refine wpAny_bind (wpAny_dictEntries hoo' hdo' ?_)
      rw [Array.getElem?_eq_getElem hlt]
      obtain ⟨kv, hkv⟩ : ∃ kv, more[x]? = some kv := ⟨more[x]'(by rw [hlen]; exact hlt), List.getElem?_eq_getElem _⟩
      obtain ⟨k, v⟩ := kv
      obtain ⟨hkey, hval⟩ := hpo.get? (e := eso[x]) (by simp [hlt]) hkv
      obtain ⟨k', hkey', hhash⟩ := hko eso[x] (Array.getElem_mem hlt)
      obtain rfl : k' = k := knd.inj _ _ _ hkey' hkey
      show wpAny _ _ (holding [eso[x].key, eso[x].val] (dictPut d eso[x].hash eso[x].key eso[x].val) >>= _) _ _ _
      rw [hhash, hval]
      have hmx : (PySem.merged kvs (more.take x)).length ≤ sizeLine := by
        have e1 := PySem.merged_length_le kvs (more.take x)
        have e2 : (more.take x).length ≤ more.length := by rw [List.length_take]; omega
        omega
      refine wpAny_bind (wpAny_holding (put_pairs (hsz := hmx) hkey hd' fun h'' hd'' hs'' => ?_))
      have hoo'' : h''.get? o = some oo := (hs''.2 o (Ne.symm hdo)).trans hoo'
      refine wpAny_bind (wpAny_dictEpoch hoo'' hdo' ?_)
      rw [if_neg (by simp)]
      exact wpAny_pure ⟨h'', x + 1, rfl, hrest, hlt, by rw [PySem.merged_take_succ kvs more x (k', v) hkv]; exact hd'', hoo'', hs'.trans hs''⟩
    · rintro b s' ⟨h', i, rfl, hr, hi, hd', hoo', hs'⟩
      have hin : i = eso.size := by
        rcases Nat.lt_or_ge i eso.size with h | h
        · have e : eso.size - i = (eso.size - (i + 1)) + 1 := by omega
          rw [e, List.range'_succ] at hr; exact nomatch hr
        · exact Nat.le_antisymm hi h
      rw [hin, ← hlen, List.take_length] at hd'
      exact wpAny_pure (hQ h' hd' hs')
  refine wpAny_bind (wpAny_dictEntries hod hdd ?_)
  have noref : ∀ e ∈ eso, ∀ a, e.key ≠ .ref a := fun e he a ea => by
    obtain ⟨k, hk, _⟩ := hko e he
    have := knd.byValue k _ hk
    rw [ea] at this
    cases this
  by_cases hemp : esd.isEmpty = true
  · rw [if_pos hemp]
    refine wpAny_bind (wpAny_dictEntries hoo hdo' ?_)
    refine wpAny_bind ?_
    rw [← Array.forIn_toList]
    refine wpAny_forIn_list _ (fun rest _ s' => s' = s ∧ ∀ e ∈ rest, e ∈ eso) _ ?_ ?_ _ _ ⟨rfl, fun e he => Array.mem_toList_iff.mp he⟩
    · rintro e rest b s' ⟨rfl, hin⟩
      have he := hin e (List.mem_cons_self ..)
      have hno' := noref e he
      cases ek : e.key with
      | ref a => exact absurd ek (hno' a)
      | _ => exact wpAny_pure ⟨rfl, fun e' h' => hin e' (List.mem_cons_of_mem _ h')⟩
    · rintro b s' ⟨rfl, _⟩
      exact fin
  · rw [if_neg hemp]
    exact fin
end
end Dd
namespace Dd
open PySem PySem.Spec PyProof.Rows L2 Bx TL
/-- {**e, k: v} -/
def tDStar (te tk tv : TE) : TE := fun σ H Q => ∀ p, H p = none → te σ (upd H p (.dK [])) fun x H1 => ∃ a kvs, x = .ref a ∧ H1 a = some (.dK kvs) ∧ a ≠ p ∧ H1 p = some (.dK []) ∧ kvs.length + 1 ≤ sizeLine ∧
  ∀ p2, (upd H1 p (.dK kvs)) p2 = none → tPairs [(tk, tv)] σ (upd (upd H1 p (.dK kvs)) p2 (.dK [])) fun ps H3 => ∃ k z, ps = [(kV k, z)] ∧ H3 p = some (.dK kvs) ∧ H3 p2 = some (.dK []) ∧ Q (.ref p) (upd (upd H3 p2 (.dK [(k, z)])) p (.dK (putK kvs k z)))
theorem pe_dstar {X : Cx} {e k v : Expr} {te tk tv : TE} {pos : Pos} (he : PE X e te) (hk : PE X k tk) (hv : PE X v tv) : PE X (.Dict [none, some k] [e, v] pos) (tDStar te tk tv) := by
  refine ⟨fun pins s σ H Q I q => ?_⟩
  rw [arm_eval_Dict]
  refine wpAny_bind (wpAny_standAt ?_)
  show wpAny _ _ (dictDisplay [(none, do let x ← eval e X.env; standAt pos; pure x), (some (eval k X.env), do let x ← eval v X.env; standAt pos; pure x)]) _ _ _
  unfold dictDisplay
  simp only [List.forIn_cons, List.forIn_nil, List.isEmpty_nil, if_true, pure_bind, List.nil_append, List.length_cons, List.length_nil]
  have hp0 := I.hok.fresh (Nat.le_refl s.heap.objs.size)
  have I1 := I.laid (a := s.heap.objs.size) (o := .dK []) (h' := s.heap.push { cls := .type "dict", data := .dict #[] }) (t' := s.toks) (fun _ _ z => Heap.get?_push_of_some _ z) (Nat.le_refl _) (dk_empty s.heap I.big)
  refine wpAny_bind (wpAny_bind (wpAny_bind (wpAny_alloc (wpAny_bind (wpAny_holding (wpAny_bind (thn (he.run pins _ σ _ _ I1 (q _ hp0)) fun u s1 ⟨x, H1, I2, r1, a, kvs, ex, ea, nap, ep, hz, q1⟩ => ?_)))))))
  refine wpAny_bind (wpAny_standAt (wpAny_pure ?_))
  subst ex
  obtain rfl : u = Value.ref a := r1
  obtain ⟨z0, hd0, vs0, r0, dd0⟩ := dk_of I2.hok ep
  cases r0
  obtain ⟨za, hda, vsa, ra, dda⟩ := dk_of I2.hok ea
  have len : kvs.length = vsa.length := ra.length
  have nd : (vsa.map (·.1)).Nodup := by
    obtain ⟨_, _, _, _, _, _, _, _, hn⟩ := dda
    exact hn
  refine wpAny_bind (wpAny_onRaise (wpAny_tryCatch (wpAny_onRaise (wpAny_holding (merge_map (Ne.symm nap) hda dd0 dda (fun h1 m1 sb1 => ?_) (by rw [List.length_nil]; omega))))))
  rw [PySem.merged_nil_of_nodup _ nd] at m1
  have hp1 : ∃ z, h1.get? s.heap.objs.size = some z := let ⟨z, _, _, hq, _⟩ := m1; ⟨z, hq⟩
  have I3 : L2.Inv X pins σ (upd H1 s.heap.objs.size (.dK kvs)) { s1 with heap := h1 } := d_write (t' := s1.toks) I2 (by rw [ep]; exact True.intro) sb1 hp1 (dk_new (by omega) hd0 ra m1)
  refine wpAny_pure (wpAny_pure (wpAny_bind ?_))
  show wpAny _ _ (holding [.ref s.heap.objs.size] (subDict (pairTrees [some k] [v] X.env pos)) >>= _) _ _ _
  have hp2 := I3.hok.fresh (Nat.le_refl h1.objs.size)
  have np12 : s.heap.objs.size ≠ h1.objs.size := fun z => by
    obtain ⟨o, ho⟩ := hp1
    exact Nat.ne_of_lt (PySem.Heap.lt_size ho) z
  have I4 := I3.laid (a := h1.objs.size) (o := .dK []) (h' := h1.push { cls := .type "dict", data := .dict #[] }) (t' := s1.toks) (fun _ _ z => Heap.get?_push_of_some _ z) (Nat.le_refl _) (dk_empty h1 I3.big)
  refine wpAny_bind (wpAny_holding (wpAny_subDict (knd := mixKind X.prog X.w) (by show 1 ≤ 15; decide) (thn ((pps_cons (pos := pos) hk hv pps_nil).run pins _ σ _ _ I4 (q1 _ hp2)) fun ws s2 ⟨ps, H3, I5, rel, kk, z, eps, e1, e2, q2⟩ => ?_)))
  subst eps
  obtain ⟨rs, cr, rk⟩ := carries_of (P := X.prog) (w := X.w) (kvs := [(kk, z)]) rel
  obtain ⟨z2, hd2, vs2, r2, dd2⟩ := dk_of I5.hok e2
  cases r2
  refine ⟨rs, cr, dd2, fun h2 m2 sb2 => ?_⟩
  have n2 : (rs.map (·.1)).Nodup := by
    have ek := rk.keys
    rw [← ek]
    exact List.nodup_cons.mpr ⟨List.not_mem_nil, List.nodup_nil⟩
  rw [PySem.merged_nil_of_nodup _ n2] at m2
  have hp3 : ∃ z, h2.get? h1.objs.size = some z := let ⟨z, _, _, hq, _⟩ := m2; ⟨z, hq⟩
  have I6 : L2.Inv X pins σ (upd H3 h1.objs.size (.dK [(kk, z)])) { s2 with heap := h2, toks := s2.toks + ws.length } := d_write I5 (by rw [e2]; exact True.intro) sb2 hp3 (dk_new (by rw [sizeLine_eq]; show 1 ≤ 16777216; decide) hd2 rk m2)
  have e3 : (upd H3 h1.objs.size (.dK [(kk, z)])) s.heap.objs.size = some (.dK kvs) := by rw [upd_ne np12]; exact e1
  obtain ⟨z3, hd3, vs3, r3, dd3⟩ := dk_of I6.hok e3
  refine wpAny_bind (wpAny_onRaise (wpAny_holding (merge_map np12 hd2 dd3 m2 (fun h3 m3 sb3 => ?_) ?_)))
  · obtain ⟨rv, rs2⟩ : ∃ rv, rs = [(kk, rv)] ∧ RelV z rv := by
      cases rk with
      | cons h t =>
        cases t
        obtain ⟨h1, h2⟩ := h
        exact ⟨_, congrArg (fun z => [z]) (Prod.ext h1.symm rfl), h2⟩
    obtain ⟨rfl, rzv⟩ := rs2
    have hp4 : ∃ z, h3.get? s.heap.objs.size = some z := let ⟨z, _, _, hq, _⟩ := m3; ⟨z, hq⟩
    refine wpAny_pure (wpAny_pure ⟨.ref s.heap.objs.size, _, d_write (t' := s2.toks + ws.length) I6 (by rw [e3]; exact True.intro) sb3 hp4 (dk_new ?_ hd3 (r3.put kk rzv) m3), rfl, q2⟩)
    have := length_putK kvs kk z
    omega
  · have l3 : kvs.length = vs3.length := r3.length
    have l4 : [(kk, z)].length = rs.length := rk.length
    have l5 : [(kk, z)].length = 1 := rfl
    omega
end Dd
namespace K06
local macro_rules | `(tactic| walk_at "rd") => `(tactic| repeat (first | refine ⟨rfl, ?_⟩ | refine ⟨_, rfl, ?_⟩ | refine ⟨_, _, rfl, rfl, ?_⟩ | refine ⟨⟨_, rfl⟩, ?_⟩))
open PySem PySem.Spec PyProof.Rows L2 Bx TL Dx Sup Er NdefX
def topS (i : Nat) : Stmt := PySem.Challenge.pw_shadowlinks_k06_assignments_read_back.main.body.getD i (.Pass ⟨0, 0, 0, 0⟩)
abbrev s_InvalidText___init__ : Stmt := inClass (topS 3) 0
abbrev n_InvalidText___init__ : List Str := ["self", "line"]
theorem ns_InvalidText___init__ : NScope (n_InvalidText___init__ ++ [("__class__" : Str)]) ["self", "line"] [("__class__" : Str)] (defScope s_InvalidText___init__) := nscope_by (by decide +kernel)
abbrev s_is_number : Stmt := topS 6
abbrev n_is_number : List Str := ["text", "digits", "digit"]
theorem sc_is_number : FnScope n_is_number ["text"] (defScope s_is_number) := ⟨rfl, rfl, rfl, by decide +kernel, rfl, by decide +kernel, by decide +kernel⟩
abbrev s_parse_number : Stmt := topS 7
abbrev n_parse_number : List Str := ["text", "line"]
theorem sc_parse_number : FnScope n_parse_number ["text", "line"] (defScope s_parse_number) := ⟨rfl, rfl, rfl, by decide +kernel, rfl, by decide +kernel, by decide +kernel⟩
abbrev s_is_name : Stmt := topS 12
abbrev n_is_name : List Str := ["text", "letter"]
theorem sc_is_name : FnScope n_is_name ["text"] (defScope s_is_name) := ⟨rfl, rfl, rfl, by decide +kernel, rfl, by decide +kernel, by decide +kernel⟩
abbrev s_is_full_name : Stmt := topS 13
abbrev n_is_full_name : List Str := ["text", "piece"]
theorem sc_is_full_name : FnScope n_is_full_name ["text"] (defScope s_is_full_name) := ⟨rfl, rfl, rfl, by decide +kernel, rfl, by decide +kernel, by decide +kernel⟩
abbrev s_is_ascending : Stmt := topS 14
abbrev n_is_ascending : List Str := ["values"]
theorem sc_is_ascending : FnScope n_is_ascending ["values"] (defScope s_is_ascending) := ⟨rfl, rfl, rfl, by decide +kernel, rfl, by decide +kernel, by decide +kernel⟩
abbrev s_are_full_names : Stmt := topS 15
abbrev n_are_full_names : List Str := ["names", "name"]
theorem sc_are_full_names : FnScope n_are_full_names ["names"] (defScope s_are_full_names) := ⟨rfl, rfl, rfl, by decide +kernel, rfl, by decide +kernel, by decide +kernel⟩
abbrev s_parse_names : Stmt := topS 17
abbrev n_parse_names : List Str := ["words", "line"]
theorem sc_parse_names : FnScope n_parse_names ["words", "line"] (defScope s_parse_names) := ⟨rfl, rfl, rfl, by decide +kernel, rfl, by decide +kernel, by decide +kernel⟩
abbrev s_format_value : Stmt := topS 19
abbrev n_format_value : List Str := ["word", "value", "top", "bottom"]
theorem sc_format_value : FnScope n_format_value ["word", "value"] (defScope s_format_value) := ⟨rfl, rfl, rfl, by decide +kernel, rfl, by decide +kernel, by decide +kernel⟩
abbrev s_parse_value : Stmt := topS 20
abbrev n_parse_value : List Str := ["word", "text", "line"]
theorem sc_parse_value : FnScope n_parse_value ["word", "text", "line"] (defScope s_parse_value) := ⟨rfl, rfl, rfl, by decide +kernel, rfl, by decide +kernel, by decide +kernel⟩
abbrev s_format_assignment : Stmt := topS 21
abbrev n_format_assignment : List Str := ["word", "assignment", "name"]
theorem sc_format_assignment : FnScope n_format_assignment ["word", "assignment"] (defScope s_format_assignment) := ⟨rfl, rfl, rfl, by decide +kernel, rfl, by decide +kernel, by decide +kernel⟩
abbrev s_parse_assignment : Stmt := topS 22
abbrev n_parse_assignment : List Str := ["word", "text", "line", "tokens"]
theorem sc_parse_assignment : FnScope n_parse_assignment ["word", "text", "line"] (defScope s_parse_assignment) := ⟨rfl, rfl, rfl, by decide +kernel, rfl, by decide +kernel, by decide +kernel⟩
abbrev s__parse_small : Stmt := topS 23
abbrev n__parse_small : List Str := ["text", "highest", "line", "number"]
theorem sc__parse_small : FnScope n__parse_small ["text", "highest", "line"] (defScope s__parse_small) := ⟨rfl, rfl, rfl, by decide +kernel, rfl, by decide +kernel, by decide +kernel⟩
abbrev s__parse_fraction : Stmt := topS 24
abbrev n__parse_fraction : List Str := ["text", "line", "left", "_", "right", "top", "bottom"]
theorem sc__parse_fraction : FnScope n__parse_fraction ["text", "line"] (defScope s__parse_fraction) := ⟨rfl, rfl, rfl, by decide +kernel, rfl, by decide +kernel, by decide +kernel⟩
abbrev s__parse_letters : Stmt := topS 25
abbrev n__parse_letters : List Str := ["text", "line", "letter"]
theorem sc__parse_letters : FnScope n__parse_letters ["text", "line"] (defScope s__parse_letters) := ⟨rfl, rfl, rfl, by decide +kernel, rfl, by decide +kernel, by decide +kernel⟩
abbrev s__format_entry : Stmt := topS 26
abbrev n__format_entry : List Str := ["word", "name", "value"]
theorem sc__format_entry : FnScope n__format_entry ["word", "name", "value"] (defScope s__format_entry) := ⟨rfl, rfl, rfl, by decide +kernel, rfl, by decide +kernel, by decide +kernel⟩
abbrev s__parse_entries : Stmt := topS 27
abbrev n__parse_entries : List Str := ["word", "tokens", "line", "names", "texts", "token", "name", "text"]
theorem sc__parse_entries : FnScope n__parse_entries ["word", "tokens", "line"] (defScope s__parse_entries) := ⟨rfl, rfl, rfl, by decide +kernel, rfl, by decide +kernel, by decide +kernel⟩
abbrev s__parse_grounded : Stmt := topS 28
abbrev n__parse_grounded : List Str := ["tokens", "line", "length", "values", "name"]
theorem sc__parse_grounded : FnScope n__parse_grounded ["tokens", "line"] (defScope s__parse_grounded) := ⟨rfl, rfl, rfl, by decide +kernel, rfl, by decide +kernel, by decide +kernel⟩
abbrev s__law_source : Stmt := topS 30
abbrev n__law_source : List Str := ["_law_script", "_law_k", "_law_number"]
theorem sc__law_source : FnScope n__law_source ["_law_script", "_law_k"] (defScope s__law_source) := ⟨rfl, rfl, rfl, by decide +kernel, rfl, by decide +kernel, by decide +kernel⟩
abbrev s__law_draw : Stmt := topS 31
abbrev n__law_draw : List Str := ["_law_source_here", "_law_limit", "_law_number", "_law_mixed"]
theorem sc__law_draw : FnScope n__law_draw ["_law_source_here", "_law_limit"] (defScope s__law_draw) := ⟨rfl, rfl, rfl, by decide +kernel, rfl, by decide +kernel, by decide +kernel⟩
abbrev s__law_names : Stmt := topS 32
abbrev n__law_names : List Str := ["_law_source_here", "_law_most", "_law_names_here", "_law_k", "_law_text", "_law_j", "_law_choice"]
theorem sc__law_names : FnScope n__law_names ["_law_source_here", "_law_most"] (defScope s__law_names) := ⟨rfl, rfl, rfl, by decide +kernel, rfl, by decide +kernel, by decide +kernel⟩
abbrev s__law_fraction : Stmt := topS 33
abbrev n__law_fraction : List Str := ["_law_source_here", "_law_top", "_law_bottom", "_law_first", "_law_second", "_law_k", "_law_rest"]
theorem sc__law_fraction : FnScope n__law_fraction ["_law_source_here"] (defScope s__law_fraction) := ⟨rfl, rfl, rfl, by decide +kernel, rfl, by decide +kernel, by decide +kernel⟩
abbrev s__law_value : Stmt := topS 34
abbrev n__law_value : List Str := ["_law_word", "_law_source_here", "_law_size", "_law_small", "_law_text", "_law_k"]
theorem sc__law_value : FnScope n__law_value ["_law_word", "_law_source_here", "_law_size"] (defScope s__law_value) := ⟨rfl, rfl, rfl, by decide +kernel, rfl, by decide +kernel, by decide +kernel⟩
abbrev s__law_value_text : Stmt := topS 35
abbrev n__law_value_text : List Str := ["_law_word", "_law_value_here"]
theorem sc__law_value_text : FnScope n__law_value_text ["_law_word", "_law_value_here"] (defScope s__law_value_text) := ⟨rfl, rfl, rfl, by decide +kernel, rfl, by decide +kernel, by decide +kernel⟩
abbrev s__law_bad_value : Stmt := topS 36
abbrev n__law_bad_value : List Str := ["_law_word", "_law_source_here", "_law_value_here", "_law_top", "_law_doubled"]
theorem sc__law_bad_value : FnScope n__law_bad_value ["_law_word", "_law_source_here", "_law_value_here"] (defScope s__law_bad_value) := ⟨rfl, rfl, rfl, by decide +kernel, rfl, by decide +kernel, by decide +kernel⟩
abbrev s__law_spoilt : Stmt := topS 37
abbrev n__law_spoilt : List Str := ["_law_source_here", "_law_word", "_law_pairs", "_law_texts", "_law_size", "_law_choice", "_law_name", "_law_value_here", "_law_first", "_law_before", "_law_written", "_law_at"]
theorem sc__law_spoilt : FnScope n__law_spoilt ["_law_source_here", "_law_word", "_law_pairs", "_law_texts", "_law_size"] (defScope s__law_spoilt) := ⟨rfl, rfl, rfl, by decide +kernel, rfl, by decide +kernel, by decide +kernel⟩
abbrev s__law_equal : Stmt := topS 38
abbrev n__law_equal : List Str := ["_law_actual", "_law_expected"]
theorem sc__law_equal : FnScope n__law_equal ["_law_actual", "_law_expected"] (defScope s__law_equal) := ⟨rfl, rfl, rfl, by decide +kernel, rfl, by decide +kernel, by decide +kernel⟩
abbrev s__law_read : Stmt := topS 39
abbrev n__law_read : List Str := ["_law_word", "_law_text", "_law_at", "e"]
theorem sc__law_read : FnScope n__law_read ["_law_word", "_law_text", "_law_at"] (defScope s__law_read) := ⟨rfl, rfl, rfl, by decide +kernel, rfl, by decide +kernel, by decide +kernel⟩
abbrev s__law_read_value : Stmt := topS 40
abbrev n__law_read_value : List Str := ["_law_word", "_law_text", "_law_at", "e"]
theorem sc__law_read_value : FnScope n__law_read_value ["_law_word", "_law_text", "_law_at"] (defScope s__law_read_value) := ⟨rfl, rfl, rfl, by decide +kernel, rfl, by decide +kernel, by decide +kernel⟩
abbrev s__law_same : Stmt := topS 41
abbrev n__law_same : List Str := ["_law_actual", "_law_expected", "_law_name"]
theorem sc__law_same : FnScope n__law_same ["_law_actual", "_law_expected"] (defScope s__law_same) := ⟨rfl, rfl, rfl, by decide +kernel, rfl, by decide +kernel, by decide +kernel⟩
abbrev s__law_right : Stmt := topS 42
abbrev n__law_right : List Str := ["_law_word", "_law_source_here", "_law_size", "_law_pairs", "_law_expected", "_law_passed", "_law_texts", "_law_pair", "_law_at", "_law_written", "_law_bad", "_law_name"]
theorem sc__law_right : FnScope n__law_right ["_law_word", "_law_source_here"] (defScope s__law_right) := ⟨rfl, rfl, rfl, by decide +kernel, rfl, by decide +kernel, by decide +kernel⟩
abbrev s_law : Stmt := topS 43
abbrev n_law : List Str := ["_law_script", "_law_words", "_law_k"]
theorem sc_law : FnScope n_law ["_law_script"] (defScope s_law) := ⟨rfl, rfl, rfl, by decide +kernel, rfl, by decide +kernel, by decide +kernel⟩
end K06
namespace K06
local macro_rules | `(tactic| walk_at "rd") => `(tactic| repeat (first | refine ⟨rfl, ?_⟩ | refine ⟨_, rfl, ?_⟩ | refine ⟨_, _, rfl, rfl, ?_⟩ | refine ⟨⟨_, rfl⟩, ?_⟩))
open PySem PySem.Spec PyProof.Rows L2 Bx TL Dx Sup Er NdefX
section
variable {P : Program} {w : World} {K : PySem.W.Frag} {mg : Str → Option Value} {base : Heap}
/-! ### InvalidText -/
def okI (v : V) : Prop := ∃ i : Int, v = .int i ∧ i.natAbs.log2 < 1920
abbrev nfI (cc cda : Addr) : NF := ⟨"__init__", "InvalidText.__init__", defArgs s_InvalidText___init__, defBody s_InvalidText___init__, defScope s_InvalidText___init__, [(("__class__" : Str), cc)], cda⟩
theorem toI_len {i : Int} (h : i.natAbs.log2 < 1920) : (Str.ofString (toString i)).length ≤ 1921 := by
  rw [PySem.ofString_length]
  exact int_text_length_le (by decide) h
theorem app_len (x y : Str) : (x ++ y).length = x.length + y.length := by
  rw [len_tl, tl_append, List.length_append, ← len_tl, ← len_tl]
theorem ok_init {fI cc cda C : Addr} {oc kV doc pm ct : Value} {od an : Option Addr} {osl : Array (Option Value)}
    (lk : K.lookup fI = some ⟨oc, od, .func (PySem.W.fnX "__init__" "InvalidText.__init__" (defArgs s_InvalidText___init__) (defBody s_InvalidText___init__) (defScope s_InvalidText___init__) [(("__class__" : Str), cc)] .none kV doc pm an (.ref cda) ct), osl⟩) (hcd : PySem.W.codeIn K (.ref cda) "InvalidText.__init__" = true)
    (hcc : ∃ cl cld csl, K.lookup cc = some ⟨cl, cld, .cell (some (.ref C)), csl⟩)
    (hco : ∃ (ccl : Value) (cdd : Option Addr) (vs : Array Value) (ccs : Array (Option Value)) (file : Str) (tf : Tok), K.lookup cda = some ⟨ccl, cdd, .fields vs, ccs⟩ ∧ vs[2]? = some (.str file tf) ∧ ((P.main.file : Str) == file) = true)
    (htop : (P.main.scope.names.lookup ("super" : Str)).isSome = false) (m_super : mg "super" = none) (hany : PySem.W.nsIn K cStatics "thirdparty.any" = some none) (T : SupC K C C) (no : PySem.W.findIn K (.ref C) "line" = some none) :
    FnOk P w K mg base CX0 1 fI (PySem.W.fnX "__init__" "InvalidText.__init__" (defArgs s_InvalidText___init__) (defBody s_InvalidText___init__) (defScope s_InvalidText___init__) [(("__class__" : Str), cc)] .none kV doc pm an (.ref cda) ct) ["self", "line"] (spErr okI C "line") := by
  obtain ⟨ccl, cdd, vs, ccs, file, tf, lc, hvs, hfile⟩ := hco
  obtain ⟨cl, cld, csl, lcc⟩ := hcc
  refine fn_sup (F := nfI cc cda) (k := 0) (self := "self") lk hcd rfl ⟨cl, cld, csl, lcc⟩ ns_InvalidText___init__
    (fun L => ⟨rfl, rfl, ⟨fI, _, _, _, _, _, rfl, lk, rfl, rfl⟩, ⟨cda, ccl, cdd, vs, ccs, file, tf, rfl, lc, hvs, hfile⟩, htop, ⟨cc, cl, cld, csl, rfl, lcc⟩, m_super, hany, rfl, rfl⟩) rfl rfl
    (fun vs H Q E h => ?_) (fun A outer s H vs Q E hr h => ?_)
  · obtain ⟨a, v, rfl, _⟩ := h
    rfl
  · obtain ⟨a, v, rfl, ⟨i, rfl, hi⟩, ea, q⟩ := h
    refine ⟨a, C, _, _, T, rfl, ea, (pa_cons (pe_joined (.cons pe_str (.cons (pe_fmt (pv 1)) (.cons pe_str .nil)))) pa_nil), (pss_one (ps_ost (pv 0) (pv 1))), fun u nu => ?_⟩
    have hua : u ≠ a := fun e => by rw [e, ea] at nu; cases nu
    walk_at "rd"
    have h1 := toI_len hi
    refine ⟨sz (by decide +kernel), ?_⟩
    refine ⟨_, rfl, .inr ⟨i, rfl, hi, ?_⟩⟩
    have l1 : (Str.empty ++ Str.ofString "the line " ++ Str.ofString (toString i)).length ≤ 2000 := by
      rw [app_len, app_len, show Str.empty.length = 0 from rfl, show (Str.ofString "the line ").length = 9 by decide +kernel]
      omega
    refine ⟨_, rfl, sz (Nat.le_trans l1 (by decide)), ?_⟩
    refine ⟨_, rfl, sz ?_, ?_⟩
    · rw [app_len, show (Str.ofString " is not a written form").length = 22 by decide +kernel]
      omega
    refine ⟨by show 1 ≤ 1000; decide, upd_same, by rw [upd_ne hua.symm]; exact ea, ?_⟩
    walk_at "rd"
    refine ⟨a, C, rfl, T.exc, no, .inl ⟨by rw [upd_ne hua.symm]; exact ea, fun dx nd da => ?_⟩⟩
    have ndu : dx ≠ u := fun e => by rw [e, upd_same] at nd; cases nd
    have nd0 : H dx = none := by rw [upd_ne ndu] at nd; exact nd
    refine q dx _ (fun b o hb e => ?_) nd0 da upd_same ?_
    · rw [upd_ne hb, upd_ne (ne_of_none e nd0), upd_ne (ne_of_none e nu)]
      exact e
    · rw [upd_ne da, upd_same]
end
end K06
namespace K06
local macro_rules | `(tactic| walk_at "rd") => `(tactic| repeat (first | refine ⟨rfl, ?_⟩ | refine ⟨_, rfl, ?_⟩ | refine ⟨_, _, rfl, rfl, ?_⟩ | refine ⟨⟨_, rfl⟩, ?_⟩))
open PySem PySem.Spec PyProof.Rows L2 Bx TL Dx Sup Er NdefX
/-! ### numbers -/
abbrev digs : List Nat := [48, 49, 50, 51, 52, 53, 54, 55, 56, 57]
def bare : List Nat → List Nat
  | [] => []
  | c :: r => if c = 45 then r else c :: r
def okDig : List Nat → Bool
  | [] => false
  | c :: r => !decide (c = 48) && (c :: r).all fun d => decide (d ∈ digs)
def okNum (l : List Nat) : Bool := decide (l = [48]) || okDig (bare l)
theorem tl_digs : tl (Str.ofString "0123456789") = digs := by decide +kernel
theorem tl_bare (z : Str) : tl (Txt.removeprefix z (Str.ofString "-")) = bare (tl z) := by
  rw [StrLaws.removeprefix_eq, StrLaws.subAt_eq, List.drop_zero, show (Str.ofString "-").length = 1 by decide +kernel, show (Str.ofString "-").cps.toList = [45] by decide +kernel]
  have hl : z.length = (tl z).length := len_tl z
  cases e : tl z with
  | nil =>
    rw [e] at hl
    rw [if_neg (by rw [hl]; simp)]
    exact e
  | cons c r =>
    rw [e] at hl
    show tl (if (decide (0 + 1 ≤ z.length) && ((tl z).take 1 == [45])) = true then ⟨(((tl z).drop 1).take (z.length - 1)).toArray⟩ else z) = if c = 45 then r else c :: r
    rw [e, hl]
    by_cases hc : c = 45
    · subst hc
      rw [if_pos rfl, if_pos (by simp)]
      show (((45 :: r).drop 1).take ((45 :: r).length - 1)).toArray.toList = r
      simp
    · rw [if_neg hc, if_neg (by simp [hc])]
      exact e
section
variable {P : Program} {w : World} {K : PySem.W.Frag} {mg : Str → Option Value} {base : Heap}
def spIsNumber : Sp := fun vs H Q _ => ∃ z : Str, vs = [.str z] ∧ z.length ≤ 1000 ∧ ∀ H', Same H H' → Q (.bl (okNum (tl z))) H'
theorem ok_is_number {f : Addr} {fd : FuncData} (F : Fun K "is_number" "is_number" s_is_number f fd) (m_all : mg "all" = none) {t1 : Tok} (m_DIGITS : mg "DIGITS" = some (.str (Str.ofString "0123456789") t1)) : FnOk P w K mg base CX0 1 f fd ["text"] spIsNumber := by
  refine F.ok sc_is_number (fun vs H Q E h => ?_) (fun cdv A outer s H vs Q E hr h => ?_)
  · obtain ⟨z, rfl, _⟩ := h
    rfl
  · obtain ⟨z, rfl, hz, q⟩ := h
    have hu := hu_of hr
    refine ⟨_, (pss_cons (ps_if (pt_cmpR op_eq (pv 0) pe_str (nomark _))
      (pss_one (ps_ret pe_bl))
      pss_nil)
    (pss_cons (ps_set (i := 1) sc_is_number.nd rfl (Or.inl rfl) (pe_m1 PySem.F.slot_str_removeprefix PySem.F.type_str_removeprefix mt_removeprefix (pv 0) pe_str))
    (pss_cons (ps_if (PW.pt (pw_or (pt_cmpR op_eq (pv 1) pe_str (nomark _)) (pw_or1 (pt_cmpR op_eq (pe_ix ix_str (pv 1) pe_int (fun _ _ => rfl)) pe_str (nomark _)))))
      (pss_one (ps_ret pe_bl))
      pss_nil)
    (pss_one (ps_ret (pe_callB (id := "all") (cr_all rfl) (by rfl) m_all (by decide +kernel) (pa_cons (pe_lc (own := [("digit", 2)]) (tt := tYes) rfl sc_is_number.nd (pi_str (pv 1)) (blkOk_by (N := n_is_number) (sc := defScope s_is_number) (by decide +kernel)) (fun _ _ _ _ _ => pg_name (i := 2) sc_is_number.nd rfl (Or.inl rfl)) (fun _ _ _ _ _ => pts_nil) (fun _ _ _ _ _ => (pe_cmpR op_in_sign (pv 2) (pe_glob (v := .str _) rfl m_DIGITS ⟨_, rfl⟩) (by rfl)))) pa_nil))))))), ?_⟩
    have hz2 : z.length ≤ sizeLine := sz (by omega)
    have hlen : (tl z).length = z.length := (len_tl z).symm
    walk_at "rd"
    refine ite2 (fun h0 => ?_) (fun h0 => ?_)
    · have e : z = Str.ofString "0" := V.str.inj (of_decide_eq_true h0)
      walk_at "rd"
      have e2 : okNum (tl z) = true := by
        rw [e]
        decide +kernel
      rw [e2] at q
      exact q H (Same.refl H)
    · have hne : ¬ (tl z = [48]) := fun e => h0 (decide_eq_true (congrArg V.str (ext_tl (e.trans (by decide +kernel)))))
      have hok : okNum (tl z) = okDig (bare (tl z)) := by
        unfold okNum
        rw [decide_eq_false hne, Bool.false_or]
      walk_at "rd"
      refine ⟨hz2, ?_⟩
      walk_at "rd"
      have hb := tl_bare z
      generalize Txt.removeprefix z (Str.ofString "-") = y at hb
      refine ite2 (fun h1 => ?_) (fun h1 => ?_)
      · have e : y = Str.ofString "" := V.str.inj (of_decide_eq_true h1)
        walk_at "rd"
        rw [hok, ← hb, e] at q
        exact q H (Same.refl H)
      · have hyl : y.length ≤ 1000 := by
          rw [len_tl, hb]
          refine Nat.le_trans ?_ (Nat.le_trans (Nat.le_of_eq hlen) hz)
          cases e : tl z with
          | nil => exact Nat.le_refl _
          | cons c r =>
            show (if c = 45 then r else c :: r).length ≤ _
            split
            · exact Nat.le_succ _
            · exact Nat.le_refl _
        have hy2 : y.length ≤ sizeLine := sz (by omega)
        obtain ⟨c, l, e⟩ : ∃ c l, tl y = c :: l := by
          cases e : tl y with
          | nil => exact absurd (decide_eq_true (congrArg V.str (ext_tl (e.trans rfl)))) h1
          | cons c l => exact ⟨c, l, rfl⟩
        have hc : atI y.cps.toList 0 = some c := by
          show atI (tl y) ((0 : Nat) : Int) = some c
          exact atI_nat (by rw [e]; rfl)
        have c0 : (V.str ⟨#[c]⟩ = V.str (Str.ofString "0")) ↔ c = 48 := by
          refine ⟨fun h => ?_, fun h => by rw [h]; decide +kernel⟩
          have h2 := congrArg tl (V.str.inj h)
          have h3 : [c] = [48] := h2.trans (by decide +kernel)
          exact (List.cons.inj h3).1
        rw [hok, ← hb, e] at q
        walk_at "rd"
        refine ⟨_, _, _, rfl, rfl, hy2, hc, ?_⟩
        walk_at "rd"
        refine ite2 (fun h2 => ?_) (fun h2 => ?_)
        · have h3 : c = 48 := c0.mp (of_decide_eq_true h2)
          walk_at "rd"
          have e3 : okDig (c :: l) = false := by
            show (!decide (c = 48) && _) = false
            rw [decide_eq_true h3]
            rfl
          rw [e3] at q
          exact q H (Same.refl H)
        · have h3 : ¬ c = 48 := fun z => h2 (decide_eq_true (c0.mpr z))
          have hyn : (tl y).length = y.length := (len_tl y).symm
          walk_at "rd"
          refine fun D hD => lc_it walk_str (fun i H' => Same H H' ∧ H' D = some (.lst (((tl y).take i).map fun c => V.bl (decide (c ∈ digs))))) ⟨same_new hD, by rw [upd_same]; rfl⟩ (fun _ _ _ _ => trivial) ?_ ?_
          · rintro i x H1 H2 hi ⟨hs, hd⟩ ⟨rfl, c, hc, rfl⟩
            have hi2 : (tl y)[i]? = some c := by
              rw [← Array.getElem?_toList] at hc
              exact hc
            refine ⟨rfl, ?_⟩
            walk_at "rd"
            refine ⟨_, hd, ?_, ?_, ?_⟩
            · rw [List.length_map, List.length_take]
              exact szl (by omega)
            · exact fun b o eb => by
                rw [upd_ne (ne_of_none eb hD)]
                exact hs b o eb
            · rw [upd_same, List.take_add_one, hi2, List.map_append]
              rw [show (Str.ofString "0123456789").cps.toList = digs from tl_digs]
              rfl
          · rintro H1 ⟨hs, hd⟩
            rw [show y.cps.size = (tl y).length from (Array.length_toList).symm, List.take_length] at hd
            refine ⟨_, (tl y).map (fun c => decide (c ∈ digs)), rfl, sq (by rw [hd, List.map_map]; rfl), ?_⟩
            have e2 : okDig (c :: l) = ((tl y).map fun c => decide (c ∈ digs)).all id := by
              rw [List.all_map, e]
              show (!decide (c = 48) && _) = _
              rw [decide_eq_false h3]
              rfl
            rw [e2] at q
            exact q H1 hs
end
end K06
namespace K06
local macro_rules | `(tactic| walk_at "rd") => `(tactic| repeat (first | refine ⟨rfl, ?_⟩ | refine ⟨_, rfl, ?_⟩ | refine ⟨_, _, rfl, rfl, ?_⟩ | refine ⟨⟨_, rfl⟩, ?_⟩))
open PySem PySem.Spec PyProof.Rows L2 Bx TL Dx Sup Er NdefX
/-! ### parse_number -/
def numOf : List Nat → Int
  | [] => 0
  | c :: r => if c = 45 then -((NumText.digitsVal r : Nat) : Int) else ((NumText.digitsVal (c :: r) : Nat) : Int)
theorem all_digs {l : List Nat} (h : l.all (fun d => decide (d ∈ digs)) = true) : NumText.AllDigits l := fun c hc => by
  have z := of_decide_eq_true (List.all_eq_true.mp h c hc)
  simp only [digs, List.mem_cons, List.not_mem_nil, or_false] at z
  omega
theorem num_reads {z : Str} (h : okNum (tl z) = true) (hl : z.length ≤ 640) : intText? z = some (numOf (tl z)) := by
  unfold okNum at h
  rw [Bool.or_eq_true] at h
  rcases h with h | h
  · have e : tl z = [48] := of_decide_eq_true h
    rw [intText_digits (x := z) (by show NumText.AllDigits (tl z); rw [e]; exact all_digs (by decide)) (by show tl z ≠ []; rw [e]; simp) (by omega)]
    show some (((NumText.digitsVal (tl z) : Nat)) : Int) = _
    rw [e]
    rfl
  · cases e : tl z with
    | nil =>
      rw [e] at h
      cases h
    | cons c r =>
      rw [e] at h
      by_cases hc : c = 45
      · subst hc
        have h2 : okDig r = true := h
        cases r with
        | nil => cases h2
        | cons c2 r2 =>
          have h3 : (!decide (c2 = 48) && (c2 :: r2).all fun d => decide (d ∈ digs)) = true := h2
          rw [Bool.and_eq_true] at h3
          rw [intText_neg (x := z) (cs := c2 :: r2) e (all_digs h3.2) (by simp) (by omega)]
          rfl
      · have h2 : okDig (bare (c :: r)) = true := h
        have hb : bare (c :: r) = c :: r := if_neg hc
        rw [hb] at h2
        have h3 : (!decide (c = 48) && (c :: r).all fun d => decide (d ∈ digs)) = true := h2
        rw [Bool.and_eq_true] at h3
        rw [intText_digits (x := z) (by show NumText.AllDigits (tl z); rw [e]; exact all_digs h3.2) (by show tl z ≠ []; rw [e]; simp) (by omega)]
        show some (((NumText.digitsVal (tl z) : Nat)) : Int) = some (if c = 45 then _ else _)
        rw [e, if_neg hc]
section
variable {P : Program} {w : World} {K : PySem.W.Frag} {mg : Str → Option Value} {base : Heap}
def spParseNumber (C : Addr) : Sp := fun vs H Q E => ∃ (z : Str) (i : Int), vs = [.str z, .int i] ∧ z.length ≤ 640 ∧ i.natAbs.log2 < 1920 ∧ (okNum (tl z) = true → ∀ H', Same H H' → Q (.int (numOf (tl z))) H') ∧
  (okNum (tl z) = false → ∀ d H', Same H H' → H' d = some (.xd [(("line" : Str), .int i)]) → E (.ref C) (some d) H')
theorem ok_parse_number {f C : Addr} {fd : FuncData} (F : FunD K "parse_number" "parse_number" (defArgs s_parse_number) (defBody s_parse_number) (defScope s_parse_number) [] [(("line" : Str), V.int 1)] f fd) (m_int : mg "int" = none) (C_is_number : Cal P w K mg base "is_number" 1 ["text"] spIsNumber)
    (E_InvalidText : Err P w K mg base "InvalidText" C "line" "line" okI 1) : FnOk P w K mg base (L2.CX P w) 3 f fd ["text", "line"] (spParseNumber C) := by
  refine F.ok sc_parse_number (fun vs H Q E h => ?_) (fun cdv A outer s H vs Q E hr h => ?_)
  · obtain ⟨z, i, rfl, _⟩ := h
    rfl
  · obtain ⟨z, i, rfl, hz, hi, q1, q2⟩ := h
    refine ⟨_, (pss_cons (ps_if (pt_not (pt_val (pe_cal C_is_number (hr.mono (by decide)) (pa_cons (pv 0) pa_nil))))
      (pss_one (ps_raiseE E_InvalidText rfl (takes_of rfl rfl rfl rfl) (hr.mono (by decide)) (pv 1)))
      pss_nil)
    (pss_one (ps_ret (pe_callTy (T := "int") call_int_str (by rfl) m_int (by decide +kernel) (pa_cons (pv 0) pa_nil))))), ?_⟩
    walk_at "rd"
    refine ⟨by omega, fun H1 s1 => ?_⟩
    walk_at "rd"
    cases hk : okNum (tl z) with
    | true =>
      walk_at "rd"
      exact ⟨_, _, rfl, num_reads hk hz, hz, q1 hk H1 s1⟩
    | false =>
      walk_at "rd"
      exact ⟨⟨i, rfl, hi⟩, fun d H3 s3 _ hd => q2 hk d H3 (Same.trans s1 s3) hd⟩
end
end K06
namespace K06
local macro_rules | `(tactic| walk_at "rd") => `(tactic| repeat (first | refine ⟨rfl, ?_⟩ | refine ⟨_, rfl, ?_⟩ | refine ⟨_, _, rfl, rfl, ?_⟩ | refine ⟨⟨_, rfl⟩, ?_⟩))
open PySem PySem.Spec PyProof.Rows L2 Bx TL Dx Sup Er NdefX
abbrev lett : List Nat := [97, 98, 99, 100, 101, 102, 103, 104, 105, 106, 107, 108, 109, 110, 111, 112, 113, 114, 115, 116, 117, 118, 119, 120, 121, 122]
def okName : List Nat → Bool
  | [] => false
  | c :: l => decide ((c :: l).length ≤ 8) && decide (c ∈ lett) && (c :: l).all fun d => decide (d ∈ lett ++ digs)
theorem tl_lett : tl (Str.ofString "abcdefghijklmnopqrstuvwxyz") = lett := by decide +kernel
theorem tl_ld : tl (Str.ofString "abcdefghijklmnopqrstuvwxyz0123456789") = lett ++ digs := by decide +kernel
section
variable {P : Program} {w : World} {K : PySem.W.Frag} {mg : Str → Option Value} {base : Heap}
def spIsName : Sp := fun vs H Q _ => ∃ z : Str, vs = [.str z] ∧ z.length ≤ 1000 ∧ ∀ H', Same H H' → Q (.bl (okName (tl z))) H'
theorem ok_is_name {f : Addr} {fd : FuncData} (F : Fun K "is_name" "is_name" s_is_name f fd) (m_len : mg "len" = none) (m_all : mg "all" = none) {t1 t2 t3 : Tok} (m_LONGEST : mg "LONGEST" = some (.int 8 t1))
    (m_LETTERS : mg "LETTERS" = some (.str (Str.ofString "abcdefghijklmnopqrstuvwxyz") t2)) (m_LETTERS_AND_DIGITS : mg "LETTERS_AND_DIGITS" = some (.str (Str.ofString "abcdefghijklmnopqrstuvwxyz0123456789") t3)) : FnOk P w K mg base CX0 1 f fd ["text"] spIsName := by
  refine F.ok sc_is_name (fun vs H Q E h => ?_) (fun cdv A outer s H vs Q E hr h => ?_)
  · obtain ⟨z, rfl, _⟩ := h
    rfl
  · obtain ⟨z, rfl, hz, q⟩ := h
    have hu := hu_of hr
    refine ⟨_, (pss_cons (ps_if (PW.pt (pw_or (pt_cmpR op_eq (pv 0) pe_str (nomark _)) (pw_or1 (pt_cmpR op_gt (pe_callB call_len_str (by rfl) m_len PySem.boot_len (pa_cons (pv 0) pa_nil)) (pe_glob (v := .int _) rfl m_LONGEST ⟨_, rfl⟩) (nomark _)))))
      (pss_one (ps_ret pe_bl))
      pss_nil)
    (pss_one (ps_ret (pe_and (pe_cmpR op_in_sign (pe_ix ix_str (pv 0) pe_int (fun _ _ => rfl)) (pe_glob (v := .str _) rfl m_LETTERS ⟨_, rfl⟩) (by rfl)) (pe_one (pe_callB (id := "all") (cr_all rfl) (by rfl) m_all (by decide +kernel) (pa_cons (pe_lc (own := [("letter", 1)]) (tt := tYes) rfl sc_is_name.nd (pi_str (pv 0)) (blkOk_by (N := n_is_name) (sc := defScope s_is_name) (by decide +kernel)) (fun _ _ _ _ _ => pg_name (i := 1) sc_is_name.nd rfl (Or.inl rfl)) (fun _ _ _ _ _ => pts_nil) (fun _ _ _ _ _ => (pe_cmpR op_in_sign (pv 1) (pe_glob (v := .str _) rfl m_LETTERS_AND_DIGITS ⟨_, rfl⟩) (by rfl)))) pa_nil))))))), ?_⟩
    have hz2 : z.length ≤ sizeLine := sz (by omega)
    have hlen : (tl z).length = z.length := (len_tl z).symm
    walk_at "rd"
    refine ite2 (fun h0 => ?_) (fun h0 => ?_)
    · refine iteT ?_
      have e : z = Str.ofString "" := V.str.inj (of_decide_eq_true h0)
      have e2 : okName (tl z) = false := by
        rw [e]
        rfl
      rw [e2] at q
      exact q H (Same.refl H)
    · have hne : tl z ≠ [] := fun e => h0 (decide_eq_true (congrArg V.str (ext_tl (e.trans rfl))))
      walk_at "rd"
      refine ⟨hz2, ?_⟩
      walk_at "rd"
      refine ite2 (fun h1 => ?_) (fun h1 => ?_)
      · have h2 : (8 : Int) < z.length := of_decide_eq_true h1
        have e2 : okName (tl z) = false := by
          cases e : tl z with
          | nil => rfl
          | cons c l =>
            rw [e] at hlen
            show (decide ((c :: l).length ≤ 8) && _ && _) = false
            rw [decide_eq_false (by omega)]
            rfl
        rw [e2] at q
        exact q H (Same.refl H)
      · have h2 : ¬ (8 : Int) < z.length := fun c => h1 (decide_eq_true c)
        obtain ⟨c, l, e⟩ : ∃ c l, tl z = c :: l := by
          cases e : tl z with
          | nil => exact absurd e hne
          | cons c l => exact ⟨c, l, rfl⟩
        have hc : atI z.cps.toList 0 = some c := by
          show atI (tl z) ((0 : Nat) : Int) = some c
          exact atI_nat (by rw [e]; rfl)
        walk_at "rd"
        refine ⟨_, _, _, rfl, rfl, hz2, hc, ?_⟩
        walk_at "rd"
        have ha : decide (c ∈ (Str.ofString "abcdefghijklmnopqrstuvwxyz").cps.toList) = decide (c ∈ lett) := by
          rw [show (Str.ofString "abcdefghijklmnopqrstuvwxyz").cps.toList = lett from tl_lett]
        refine ite2 (fun h3 => ?_) (fun h3 => ?_)
        · rw [ha] at h3
          -- all([..])
          walk_at "rd"
          refine fun D hD => lc_it walk_str (fun i H' => Same H H' ∧ H' D = some (.lst (((tl z).take i).map fun c => V.bl (decide (c ∈ lett ++ digs))))) ⟨same_new hD, by rw [upd_same]; rfl⟩ (fun _ _ _ _ => trivial) ?_ ?_
          · rintro i x H1 H2 hi ⟨hs, hd⟩ ⟨rfl, c, hc, rfl⟩
            have hi2 : (tl z)[i]? = some c := by
              rw [← Array.getElem?_toList] at hc
              exact hc
            refine ⟨rfl, ?_⟩
            walk_at "rd"
            refine ⟨_, hd, ?_, ?_, ?_⟩
            · rw [List.length_map, List.length_take]
              exact szl (by omega)
            · exact fun b o eb => by
                rw [upd_ne (ne_of_none eb hD)]
                exact hs b o eb
            · rw [upd_same, List.take_add_one, hi2, List.map_append]
              rw [show (Str.ofString "abcdefghijklmnopqrstuvwxyz0123456789").cps.toList = lett ++ digs from tl_ld]
              rfl
          · rintro H1 ⟨hs, hd⟩
            rw [show z.cps.size = (tl z).length from (Array.length_toList).symm, List.take_length] at hd
            refine ⟨_, (tl z).map (fun c => decide (c ∈ lett ++ digs)), rfl, sq (by rw [hd, List.map_map]; rfl), ?_⟩
            have e2 : okName (tl z) = ((tl z).map fun c => decide (c ∈ lett ++ digs)).all id := by
              rw [List.all_map, e]
              rw [e] at hlen
              show (decide ((c :: l).length ≤ 8) && decide (c ∈ lett) && _) = _
              rw [decide_eq_true (show (c :: l).length ≤ 8 by omega), h3]
              rfl
            rw [e2] at q
            exact q H1 hs
        · rw [ha] at h3
          have e2 : okName (tl z) = false := by
            rw [e]
            show (_ && decide (c ∈ lett) && _) = false
            rw [Bool.eq_false_iff.mpr h3, Bool.and_false]
            rfl
          rw [e2] at q
          exact q H (Same.refl H)

def spFull : Sp := fun vs H Q _ => ∃ z : Str, vs = [.str z] ∧ z.length ≤ 1000 ∧ (∀ p ∈ Txt.split z ".", p.length ≤ 1000) ∧ (Txt.split z ".").length ≤ 1000 ∧ ∀ H', Same H H' → Q (.bl ((Txt.split z ".").all fun p => okName (tl p))) H'
theorem ok_is_full_name {f : Addr} {fd : FuncData} (F : Fun K "is_full_name" "is_full_name" s_is_full_name f fd) (m_all : mg "all" = none) (C_is_name : Cal P w K mg base "is_name" 1 ["text"] spIsName) : FnOk P w K mg base CX0 2 f fd ["text"] spFull := by
  refine F.ok sc_is_full_name (fun vs H Q E h => ?_) (fun cdv A outer s H vs Q E hr h => ?_)
  · obtain ⟨z, rfl, _⟩ := h
    rfl
  · obtain ⟨z, rfl, hz, hp, hn, q⟩ := h
    refine ⟨_, (pss_one (ps_ret (pe_callB (id := "all") (cr_all rfl) (by rfl) m_all (by decide +kernel) (pa_cons (pe_lc (own := [("piece", 1)]) (tt := tYes) rfl sc_is_full_name.nd (pi_list (pe_split (pv 0) pe_str)) (blkOk_by (N := n_is_full_name) (sc := defScope s_is_full_name) (by decide +kernel)) (fun _ _ _ _ _ => pg_name (i := 1) sc_is_full_name.nd rfl (Or.inl rfl)) (fun _ _ _ _ _ => pts_nil) (fun _ _ _ _ _ => (pe_cal C_is_name (hr.mono (by decide)) (pa_cons (pv 1) pa_nil)))) pa_nil)))), ?_⟩
    walk_at "rd"
    refine ⟨sz (by omega), fun p np => ?_⟩
    walk_at "rd"
    refine ⟨⟨_, sq upd_same⟩, fun D hD => ?_⟩
    have hDp : p ≠ D := fun e => by
      rw [e, upd_same] at hD
      cases hD
    refine lc_list (xs := (Txt.split z ".").map V.str) (fun i H' => Same H H' ∧ H' p = some (.lst ((Txt.split z ".").map V.str)) ∧ H' D = some (.lst ((((Txt.split z ".").take i).map fun c => V.bl (okName (tl c)))))) ⟨?_, ?_, by rw [upd_same]; rfl⟩ (fun i H' _ h => sq h.2.1) ?_ ?_
    · exact (same_new np).trans (same_new hD)
    · rw [upd_ne hDp, upd_same]
    · rintro i x H1 hi ⟨hs, h1, h2⟩
      obtain ⟨y, hy, rfl⟩ : ∃ y, (Txt.split z ".")[i]? = some y ∧ x = .str y := by
        rw [List.getElem?_map] at hi
        cases e : (Txt.split z ".")[i]? with
        | none =>
          rw [e] at hi
          cases hi
        | some y =>
          rw [e] at hi
          exact ⟨y, rfl, (Option.some.inj hi).symm⟩
      refine ⟨rfl, ?_⟩
      walk_at "rd"
      refine ⟨hp y (List.mem_of_getElem? hy), fun H2 s2 => ?_⟩
      refine ⟨_, s2 _ _ h2, ?_, ?_, ?_, ?_⟩
      · rw [List.length_map, List.length_take]
        exact szl (by omega)
      · exact same_at ((same_new np).free hD) (hs.trans s2)
      · rw [upd_ne hDp]
        exact s2 _ _ h1
      · rw [upd_same, List.take_add_one, hy, List.map_append]
        rfl
    · rintro H1 ⟨hs, h1, h2⟩
      rw [List.length_map, List.take_length] at h2
      refine ⟨_, (Txt.split z ".").map (fun c => okName (tl c)), rfl, sq (by rw [h2, List.map_map]; rfl), ?_⟩
      have e2 : ((Txt.split z ".").map fun c => okName (tl c)).all id = (Txt.split z ".").all fun p => okName (tl p) := by
        rw [List.all_map]
        rfl
      rw [e2]
      exact q H1 hs

/-! ### the law's own: draws -/
theorem int_at {ns : List Int} {k : Nat} (h : k < ns.length) : atI (ns.map V.int) (k : Int) = some (V.int ns[k]) := atI_nat (by rw [List.getElem?_map, List.getElem?_eq_getElem h]; rfl)
def spSource (K : PySem.W.Frag) : Sp := fun vs H Q _ => ∃ (a : Addr) (ns : List Int) (k : Nat), vs = [.ref a, .int (k : Int)] ∧ SqL K H a (ns.map V.int) ∧ k ≤ 100 ∧ ∀ p n c, H p = none → Q (.ref p) (upd H p (.lst [.int n, .int c]))
theorem ok_source {f : Addr} {fd : FuncData} (F : Fun K "_law_source" "_law_source" s__law_source f fd) (m_len : mg "len" = none) (m_int : mg "int" = none) : FnOk P w K mg base CX0 1 f fd ["_law_script", "_law_k"] (spSource K) := by
  refine F.ok sc__law_source (fun vs H Q E h => ?_) (fun cdv A outer s H vs Q E hr h => ?_)
  · obtain ⟨a, ns, k, rfl, _⟩ := h
    rfl
  · obtain ⟨a, ns, k, rfl, hS, hk, q⟩ := h
    refine ⟨_, (pss_cons (ps_set (i := 2) sc__law_source.nd rfl (Or.inl rfl) pe_int)
    (pss_cons (ps_if (pt_cmpR op_lt (pv 1) (pe_callB call_len_seq (by rfl) m_len PySem.boot_len (pa_cons (pv 0) pa_nil)) (nomark _))
      (pss_one (ps_set (i := 2) sc__law_source.nd rfl (Or.inl rfl) (pe_callTy (T := "int") call_int1 (by rfl) m_int (by decide +kernel) (pa_cons (pe_ix ix_list (pv 0) (pv 1) (fun _ _ => rfl)) pa_nil))))
      pss_nil)
    (pss_one (ps_ret (pe_lst (pa_cons (pv 2) (pa_cons (pe_op op_add (pe_op op_mul pe_int (pv 1)) (pe_callB call_len_seq (by rfl) m_len PySem.boot_len (pa_cons (pv 0) pa_nil))) pa_nil))))))), ?_⟩
    walk_at "rd"
    refine ⟨_, _, rfl, .inl hS, ?_⟩
    walk_at "rd"
    refine ite2 (fun h0 => ?_) (fun h0 => ?_)
    · have h1 : (k : Int) < ((ns.map V.int).length : Nat) := of_decide_eq_true h0
      rw [List.length_map] at h1
      walk_at "rd"
      refine ⟨_, _, _, _, rfl, rfl, hS, int_at (k := k) (by omega), ?_⟩
      refine .inl ⟨_, rfl, ?_⟩
      walk_at "rd"
      refine ⟨.inr ⟨by omega, by omega⟩, ?_⟩
      walk_at "rd"
      refine ⟨_, _, rfl, .inl hS, ?_⟩
      walk_at "rd"
      exact ⟨sz (by show 2 ≤ 100000; decide), fun p np => q p _ _ np⟩
    · walk_at "rd"
      refine ⟨.inr ⟨by omega, by omega⟩, ?_⟩
      walk_at "rd"
      refine ⟨_, _, rfl, .inl hS, ?_⟩
      walk_at "rd"
      exact ⟨sz (by show 2 ≤ 100000; decide), fun p np => q p _ _ np⟩
theorem modb (x : Int) {k : Int} (h : 0 < k) (h2 : k ≤ 2 ^ 64) : -(2 ^ 64) < x % k ∧ x % k < 2 ^ 64 := by
  have a := Int.emod_nonneg x (show k ≠ 0 by omega)
  have b := Int.emod_lt_of_pos x h
  omega
@[irreducible] def spDraw : Sp := fun vs H Q _ => ∃ (a : Addr) (n c lim : Int), vs = [.ref a, .int lim] ∧ H a = some (.lst [.int n, .int c]) ∧ 0 < lim ∧ lim < 1073741824 ∧ ∀ r n' c', 0 ≤ r → r < lim → Q (.int r) (upd H a (.lst [.int n', .int c']))
theorem ok_draw {f : Addr} {fd : FuncData} (F : Fun K "_law_draw" "_law_draw" s__law_draw f fd) (m_int : mg "int" = none) : FnOk P w K mg base CX0 1 f fd ["_law_source_here", "_law_limit"] spDraw := by
  refine F.ok sc__law_draw (fun vs H Q E h => ?_) (fun cdv A outer s H vs Q E hr h => ?_)
  · unfold spDraw at h
    obtain ⟨a, n, c, lim, rfl, _⟩ := h
    rfl
  · unfold spDraw at h
    obtain ⟨a, n, c, lim, rfl, hA, h0, h1, q⟩ := h
    have hfm : ∀ x : Int, 0 ≤ x.fmod lim ∧ x.fmod lim < lim := fun x => by
      rw [Int.fmod_eq_emod_of_nonneg _ (by omega)]
      exact ⟨Int.emod_nonneg _ (by omega), Int.emod_lt_of_pos _ h0⟩
    refine ⟨_, (pss_cons (ps_set (i := 2) sc__law_draw.nd rfl (Or.inl rfl) (pe_ix ix_list (pv 0) pe_int (fun _ _ => rfl)))
    (pss_cons (ps_if (pt_cmpR op_ge (pv 2) (pe_op op_pow pe_int pe_int) (nomark _))
      (pss_cons (ps_asg (pe_op op_fdivN (pv 2) (pv 1)) (pg_sub (pv 0) pe_int set_list))
    (pss_one (ps_ret (pe_op op_modN (pe_callTy (T := "int") call_int1 (by rfl) m_int (by decide +kernel) (pa_cons (pv 2) pa_nil)) (pv 1)))))
      pss_nil)
    (pss_cons (ps_asg (pe_op op_add (pe_ix ix_list (pv 0) pe_int (fun _ _ => rfl)) pe_int) (pg_sub (pv 0) pe_int set_list))
    (pss_cons (ps_set (i := 3) sc__law_draw.nd rfl (Or.inl rfl) (pe_op op_mod (pe_callTy (T := "int") call_int1 (by rfl) m_int (by decide +kernel) (pa_cons (pe_op op_add (pe_op op_add (pe_op op_mul (pv 2) pe_int) (pe_op op_mul (pe_ix ix_list (pv 0) pe_int (fun _ _ => rfl)) pe_int)) pe_int) pa_nil)) pe_int))
    (pss_cons (ps_set (i := 3) sc__law_draw.nd rfl (Or.inl rfl) (pe_op op_mod (pe_callTy (T := "int") call_int1 (by rfl) m_int (by decide +kernel) (pa_cons (pe_op op_add (pe_op op_add (pe_op op_mul (pv 3) (pv 3)) (pv 2)) (pe_op op_mul (pe_ix ix_list (pv 0) pe_int (fun _ _ => rfl)) pe_int)) pa_nil)) pe_int))
    (pss_cons (ps_set (i := 3) sc__law_draw.nd rfl (Or.inl rfl) (pe_op op_mod (pe_callTy (T := "int") call_int1 (by rfl) m_int (by decide +kernel) (pa_cons (pe_op op_add (pe_op op_add (pe_op op_mul (pv 3) (pv 3)) (pe_op op_fdiv (pv 3) pe_int)) pe_int) pa_nil)) pe_int))
    (pss_one (ps_ret (pe_op op_modN (pe_op op_fdiv (pe_callTy (T := "int") call_int1 (by rfl) m_int (by decide +kernel) (pa_cons (pv 3) pa_nil)) pe_int) (pv 1)))))))))), ?_⟩
    walk_at "rd"
    refine ⟨_, _, _, _, rfl, rfl, sq hA, atI_nat (j := 0) rfl, ?_⟩
    walk_at "rd"
    refine ⟨⟨by decide, by decide, by decide⟩, ?_⟩
    walk_at "rd"
    refine ite2 (fun hb => ?_) (fun hb => ?_)
    · walk_at "rd"
      refine ⟨⟨by omega, by omega⟩, ?_⟩
      walk_at "rd"
      refine ⟨_, _, _, 0, rfl, rfl, hA, rfl, ?_⟩
      walk_at "rd"
      refine .inl ⟨_, rfl, ?_⟩
      walk_at "rd"
      refine ⟨by omega, ?_⟩
      exact q _ _ _ (hfm _).1 (hfm _).2
    · walk_at "rd"
      refine ⟨_, _, _, _, rfl, rfl, sq hA, atI_nat (j := 1) rfl, ?_⟩
      walk_at "rd"
      refine ⟨_, _, _, 1, rfl, rfl, hA, rfl, ?_⟩
      -- the first mixing
      walk_at "rd"
      refine ⟨.inr ⟨by decide, by decide⟩, ?_⟩
      walk_at "rd"
      refine ⟨_, _, _, _, rfl, rfl, sq upd_same, atI_nat (j := 1) rfl, ?_⟩
      walk_at "rd"
      refine ⟨.inr ⟨by decide, by decide⟩, ?_⟩
      walk_at "rd"
      refine .inl ⟨_, rfl, ?_⟩
      walk_at "rd"
      refine ⟨by show (0 : Int) < 2147483647; decide, ?_⟩
      -- the second
      walk_at "rd"
      refine ⟨.inl (modb _ (by decide) (by decide)), ?_⟩
      walk_at "rd"
      refine ⟨_, _, _, _, rfl, rfl, sq upd_same, atI_nat (j := 1) rfl, ?_⟩
      walk_at "rd"
      refine ⟨.inr ⟨by decide, by decide⟩, ?_⟩
      walk_at "rd"
      refine .inl ⟨_, rfl, ?_⟩
      walk_at "rd"
      refine ⟨by show (0 : Int) < 2147483629; decide, ?_⟩
      -- the third
      walk_at "rd"
      refine ⟨.inl (modb _ (by decide) (by decide)), ?_⟩
      walk_at "rd"
      refine ⟨⟨by decide, by decide⟩, ?_⟩
      walk_at "rd"
      refine .inl ⟨_, rfl, ?_⟩
      walk_at "rd"
      refine ⟨by show (0 : Int) < 2147483587; decide, ?_⟩
      -- the answer
      walk_at "rd"
      refine .inl ⟨_, rfl, ?_⟩
      walk_at "rd"
      refine ⟨⟨by decide, by decide⟩, ?_⟩
      walk_at "rd"
      refine ⟨by omega, ?_⟩
      exact q _ _ _ (hfm _).1 (hfm _).2
/-- some other source, or none -/
theorem draw_of {H : Hp} {a : Addr} {lim : Int} {Q : VK} {E : XK} (hA : Src H a) (h0 : 0 < lim ∧ lim < 1073741824) (q : ∀ r H', 0 ≤ r → r < lim → SameBut a H H' → Src H' a → Q (.int r) H') : spDraw [.ref a, .int lim] H Q E := by
  obtain ⟨n, c, hA⟩ := hA
  unfold spDraw
  exact ⟨a, n, c, lim, rfl, hA, h0.1, h0.2, fun r n' c' h1 h2 => q r _ h1 h2 SameBut.upd ⟨n', c', upd_same⟩⟩

theorem but_at {a o : Addr} {H H1 : Hp} {u : HO} (h : H o = none) (s : SameBut a H H1) : SameBut a H (upd H1 o u) := fun b x n e => by
  rw [upd_ne (ne_of_none e h)]
  exact s b x n e
theorem but_same {a : Addr} {H H1 H2 : Hp} (s : SameBut a H H1) (t : Same H1 H2) : SameBut a H H2 := fun b x n e => t b x (s b x n e)
theorem src_same {a : Addr} {H1 H2 : Hp} (s : Src H1 a) (t : Same H1 H2) : Src H2 a := by
  obtain ⟨n, c, h⟩ := s
  exact ⟨n, c, t _ _ h⟩
theorem src_ne {a o : Addr} {H : Hp} (s : Src H a) (h : H o = none) : a ≠ o := by
  obtain ⟨n, c, z⟩ := s
  exact ne_of_none z h
theorem but_free {a o : Addr} {H H1 : Hp} (s : SameBut a H H1) (n : o ≠ a) (h : H1 o = none) : H o = none := by
  cases e : H o with
  | none => rfl
  | some x =>
    rw [s o x n e] at h
    cases h
theorem src_upd {a o : Addr} {H : Hp} {u : HO} (s : Src H a) (n : a ≠ o) : Src (upd H o u) a := by
  obtain ⟨x, c, h⟩ := s
  exact ⟨x, c, by rw [upd_ne n]; exact h⟩
theorem strOk_of {x : Str} (h : ∀ c ∈ tl x, c < 0x110000) : PyData.strOk x = true := by
  unfold PyData.strOk
  rw [Array.all_eq_true']
  intro c hc
  exact decide_eq_true (h c (by simpa using hc))
theorem ok_sign {L : Str} {c : Nat} (h : (tl L).all (fun d => decide (d < 0x110000)) = true) (hc : c ∈ tl L) : ∀ d ∈ tl (⟨#[c]⟩ : Str), d < 0x110000 := fun d hd => by
  have e : d = c := by simpa using hd
  rw [e]
  exact of_decide_eq_true (List.all_eq_true.mp h c hc)
/-! ### ascending names -/
theorem eqv_strs : ∀ (l m : List Str), PyData.eqvAll (l.map PyData.str) (m.map PyData.str) = decide (l = m)
  | [], [] => rfl
  | [], y :: m => rfl
  | x :: l, [] => rfl
  | x :: l, y :: m => by
    show ((x == y) && PyData.eqvAll (l.map PyData.str) (m.map PyData.str)) = _
    rw [eqv_strs l m]
    by_cases h : x = y
    · subst h
      by_cases h2 : l = m
      · subst h2
        simp
      · simp [h2]
    · simp [h]
def ascB (l : List Str) : Bool := decide (l.Pairwise fun x y => x.cps.toList < y.cps.toList)
theorem ascB_iff {l : List Str} : ascB l = true ↔ Asc l := decide_eq_true_iff
def spAsc (K : PySem.W.Frag) : Sp := fun vs H Q _ => ∃ (a : Addr) (ns : List Str), vs = [.ref a] ∧ (SqL K H a (ns.map V.str) ∨ SqT K H a (ns.map V.str)) ∧ ns.length ≤ 1000 ∧ (∀ x ∈ ns, PyData.strOk x = true) ∧ ∀ H', Same H H' → Q (.bl (ascB ns)) H'
theorem ok_is_ascending {f : Addr} {fd : FuncData} (F : Fun K "is_ascending" "is_ascending" s_is_ascending f fd) (m_list : mg "list" = none) (m_set : mg "set" = none) (m_sorted : mg "sorted" = none) : FnOk P w K mg base CX0 1 f fd ["values"] (spAsc K) := by
  refine F.ok sc_is_ascending (fun vs H Q E h => ?_) (fun cdv A outer s H vs Q E hr h => ?_)
  · obtain ⟨a, ns, rfl, _⟩ := h
    rfl
  · obtain ⟨a, ns, rfl, hs, hl, hok, q⟩ := h
    refine ⟨_, (pss_one (ps_ret (pe_cmpR (op_eqD hr.units) (pe_callTy (T := "list") call_list_of (by rfl) m_list (by decide +kernel) (pa_cons (pv 0) pa_nil)) (pe_callB (id := "sorted") (Sx.cr_sortX rfl) (by rfl) m_sorted (by decide +kernel) (pa_cons (pe_callTy (T := "set") (Sx.cr_setX rfl) (by rfl) m_set (by decide +kernel) (pa_cons (pv 0) pa_nil)) pa_nil)) (nomark _)))), ?_⟩
    walk_at "rd"
    refine ⟨_, _, rfl, hs, fun p np => ?_⟩
    have s1 : Same H (upd H p (.lst (ns.map V.str))) := same_new np
    walk_at "rd"
    refine ⟨a, ns, rfl, hs.imp (Same.seq s1) (Bx.Same.tup s1), by omega, fun p2 ys n2 hm nd hlen => ?_⟩
    walk_at "rd"
    have s2 := Same.trans s1 (same_new n2 (o := Sx.SetV P w p2 ys))
    refine ⟨_, ys, rfl, upd_same, by omega, fun zs p3 pm st n3 => ?_⟩
    have s3 := Same.trans s2 (same_new n3 (o := .lst (zs.map V.str)))
    have hp3 := (Same.trans (same_new n2 (o := Sx.SetV P w p2 ys)) (same_new n3 (o := .lst (zs.map V.str)))) p _ upd_same
    have hzm : ∀ x, x ∈ zs ↔ x ∈ ns := fun x => pm.mem_iff.trans (hm x)
    have hza : Asc zs := asc_of st (pm.nodup_iff.mpr nd)
    have l1 : Lay 1 (.list (ns.map PyData.str)) := lay_list (lays_strs hok)
    have l2 : Lay 1 (.list (zs.map PyData.str)) := lay_list (lays_strs fun x hx => hok x ((hzm x).mp hx))
    refine ⟨_, _, .lst (sq hp3) (dp_strs ns), .lst (sq upd_same) (dp_strs zs), shape l1 (by decide), shape l2 (by decide), ?_⟩
    have e : PyData.eqv (.list (ns.map PyData.str)) (.list (zs.map PyData.str)) = ascB ns := by
      show PyData.eqvAll _ _ = _
      rw [eqv_strs]
      by_cases h : Asc ns
      · rw [ascB_iff.mpr h, decide_eq_true (asc_eq h hza fun x => (hzm x).symm)]
      · rw [Bool.eq_false_iff.mpr fun z => h (ascB_iff.mp z), decide_eq_false fun z : ns = zs => h (z ▸ hza)]
    rw [e]
    exact q _ s3
/-! ### are_full_names -/
def fullB (z : Str) : Bool := (Txt.split z ".").all fun p => okName (tl p)
def namesB (ns : List Str) : Bool := ns.all fullB && ascB ns
def smallS (z : Str) : Prop := z.length ≤ 1000 ∧ (∀ p ∈ Txt.split z ".", p.length ≤ 1000) ∧ (Txt.split z ".").length ≤ 1000 ∧ PyData.strOk z = true
def spAre (K : PySem.W.Frag) : Sp := fun vs H Q _ => ∃ (a : Addr) (ns : List Str), vs = [.ref a] ∧ (SqL K H a (ns.map V.str) ∨ SqT K H a (ns.map V.str)) ∧ ns.length ≤ 1000 ∧ (∀ x ∈ ns, smallS x) ∧ ∀ H', Same H H' → Q (.bl (namesB ns)) H'
theorem ok_are_full_names {f : Addr} {fd : FuncData} (F : Fun K "are_full_names" "are_full_names" s_are_full_names f fd) (m_all : mg "all" = none) (C_is_full_name : Cal P w K mg base "is_full_name" 2 ["text"] spFull) (C_is_ascending : Cal P w K mg base "is_ascending" 1 ["values"] (spAsc K)) : FnOk P w K mg base CX0 3 f fd ["names"] (spAre K) := by
  refine F.ok sc_are_full_names (fun vs H Q E h => ?_) (fun cdv A outer s H vs Q E hr h => ?_)
  · obtain ⟨a, ns, rfl, _⟩ := h
    rfl
  · obtain ⟨a, ns, rfl, hs, hl, hok, q⟩ := h
    refine ⟨_, (pss_one (ps_ret (pe_and (pe_callB (id := "all") (cr_all rfl) (by rfl) m_all (by decide +kernel) (pa_cons (pe_lc (own := [("name", 1)]) (tt := tYes) rfl sc_are_full_names.nd (pi_seq (pv 0)) (blkOk_by (N := n_are_full_names) (sc := defScope s_are_full_names) (by decide +kernel)) (fun _ _ _ _ _ => pg_name (i := 1) sc_are_full_names.nd rfl (Or.inl rfl)) (fun _ _ _ _ _ => pts_nil) (fun _ _ _ _ _ => (pe_cal C_is_full_name (hr.mono (by decide)) (pa_cons (pv 1) pa_nil)))) pa_nil)) (pe_one (pe_cal C_is_ascending (hr.mono (by decide)) (pa_cons (pv 0) pa_nil)))))), ?_⟩
    walk_at "rd"
    refine seq_case hs fun J G wk hG => ?_
    intro D hD
    refine lc_it wk (fun i H' => Same H H' ∧ H' D = some (.lst ((ns.take i).map fun x => V.bl (fullB x)))) ⟨same_new hD, upd_same⟩ (fun i H' _ h => hG H' h.1) ?_ ?_
    · rintro i x H1 H2 hi ⟨s1, hd⟩ ⟨rfl, hx⟩
      obtain ⟨n, hn, rfl⟩ := at_map hx
      obtain ⟨z1, z2, z3, _⟩ := hok n (List.mem_of_getElem? hn)
      refine ⟨rfl, ?_⟩
      walk_at "rd"
      refine ⟨z1, z2, z3, fun H3 s3 => ?_⟩
      refine ⟨_, s3 _ _ hd, ?_, same_at hD (Same.trans s1 s3), ?_⟩
      · rw [List.length_map, List.length_take]
        exact szl (by omega)
      · rw [upd_same, List.take_add_one, hn, List.map_append]
        rfl
    · rintro H1 ⟨s1, hd⟩
      rw [List.length_map, List.take_length] at hd
      refine ⟨_, ns.map fullB, rfl, sq (by rw [hd, List.map_map]; rfl), ?_⟩
      refine ⟨_, rfl, ?_⟩
      have e : (ns.map fullB).all id = ns.all fullB := by
        rw [List.all_map]
        rfl
      rw [e]
      refine ite2 (fun h1 => ?_) (fun h1 => ?_)
      · walk_at "rd"
        refine ⟨a, ns, rfl, hs.imp (Same.seq s1) (Bx.Same.tup s1), hl, fun x hx => (hok x hx).2.2.2, fun H2 s2 => ?_⟩
        have e2 : namesB ns = ascB ns := by
          unfold namesB
          rw [h1, Bool.true_and]
        rw [← e2]
        exact q H2 (Same.trans s1 s2)
      · have e2 : namesB ns = false := by
          unfold namesB
          rw [Bool.eq_false_iff.mpr h1, Bool.false_and]
        rw [e2] at q
        exact q H1 s1
end
end K06
namespace K06
local macro_rules | `(tactic| walk_at "rd") => `(tactic| repeat (first | refine ⟨rfl, ?_⟩ | refine ⟨_, rfl, ?_⟩ | refine ⟨_, _, rfl, rfl, ?_⟩ | refine ⟨⟨_, rfl⟩, ?_⟩))
open PySem PySem.Spec PyProof.Rows L2 Bx TL Dx Sup Er NdefX
section
variable {P : Program} {w : World} {K : PySem.W.Frag} {mg : Str → Option Value} {base : Heap}
/-! ### parse_names -/
def spParseNames (K : PySem.W.Frag) (C : Addr) : Sp := fun vs H Q E => ∃ (a : Addr) (ns : List Str) (i : Int), vs = [.ref a, .int i] ∧ (SqL K H a (ns.map V.str) ∨ SqT K H a (ns.map V.str)) ∧ ns.length ≤ 1000 ∧ (∀ x ∈ ns, smallS x) ∧ i.natAbs.log2 < 1920 ∧
  (namesB ns = true → ∀ r H', Same H H' → SqT K H' r (ns.map V.str) → Q (.ref r) H') ∧ (namesB ns = false → ∀ d H', Same H H' → H' d = some (.xd [(("line" : Str), .int i)]) → E (.ref C) (some d) H')
theorem ok_parse_names {f C : Addr} {fd : FuncData} (F : FunD K "parse_names" "parse_names" (defArgs s_parse_names) (defBody s_parse_names) (defScope s_parse_names) [] [(("line" : Str), V.int 1)] f fd) (m_tuple : mg "tuple" = none) (C_are_full_names : Cal P w K mg base "are_full_names" 3 ["names"] (spAre K))
    (E_InvalidText : Err P w K mg base "InvalidText" C "line" "line" okI 1) : FnOk P w K mg base (L2.CX P w) 4 f fd ["words", "line"] (spParseNames K C) := by
  refine F.ok sc_parse_names (fun vs H Q E h => ?_) (fun cdv A outer s H vs Q E hr h => ?_)
  · obtain ⟨a, ns, i, rfl, _⟩ := h
    rfl
  · obtain ⟨a, ns, i, rfl, hs, hl, hok, hi, q1, q2⟩ := h
    refine ⟨_, (pss_cons (ps_if (pt_not (pt_val (pe_cal C_are_full_names (hr.mono (by decide)) (pa_cons (pv 0) pa_nil))))
      (pss_one (ps_raiseE E_InvalidText rfl (takes_of rfl rfl rfl rfl) (hr.mono (by decide)) (pv 1)))
      pss_nil)
    (pss_one (ps_ret (pe_callTy (T := "tuple") call_tuple_of (by rfl) m_tuple (by decide +kernel) (pa_cons (pv 0) pa_nil))))), ?_⟩
    walk_at "rd"
    refine ⟨a, ns, rfl, hs, hl, hok, fun H1 s1 => ?_⟩
    walk_at "rd"
    cases hk : namesB ns with
    | true =>
      walk_at "rd"
      rcases hs with h | h
      · exact ⟨_, _, rfl, .inl ⟨s1.seq h, fun l nl => q1 hk l _ (Same.trans s1 (same_new nl)) (sqt upd_same)⟩⟩
      · exact ⟨_, _, rfl, .inr ⟨Bx.Same.tup s1 h, q1 hk a H1 s1 (Bx.Same.tup s1 h)⟩⟩
    | false =>
      walk_at "rd"
      exact ⟨⟨i, rfl, hi⟩, fun d H3 s3 _ hd => q2 hk d H3 (Same.trans s1 s3) hd⟩
/-! ### the law's try round parse_names -/
end
end K06
namespace K06
open PySem PySem.Spec PyProof.Rows L2 Bx TL Dx Sup Er NdefX
local macro_rules | `(tactic| walk_at "rd") => `(tactic| repeat (first | refine ⟨rfl, ?_⟩ | refine ⟨_, rfl, ?_⟩ | refine ⟨_, _, rfl, rfl, ?_⟩ | refine ⟨⟨_, rfl⟩, ?_⟩))
local macro_rules
  | `(tactic| tm_at $s:str) => do
    let id (x : String) := Lean.mkIdent (Lean.Name.mkSimple x)
    match s.getString.splitOn " " with
    | ["rd"] => `(tactic| walk_at "rd")
    | ["sz"] => `(tactic| first | exact sz (by decide) | exact szl (by decide) | exact sz (by show _ ≤ 100000; decide) | ((first | refine sz ?_ | refine szl ?_); (try simp only [List.length_map, List.length_append, List.length_cons, List.length_nil, List.length_take, List.length_drop]); omega) | fail "sz: no bound")
    | ["gn", p, h] => `(tactic| (generalize hu : upd _ $(id p) _ = $(id ("H" ++ p)); obtain ⟨$(id ("s" ++ p)), $(id h)⟩ := Go.al $(id ("n" ++ p)) hu; clear hu))
    | ["al", p] => `(tactic| (refine ⟨by tm_at "sz", fun $(id p) $(id ("n" ++ p)) => ?_⟩; generalize hu : upd _ $(id p) _ = $(id ("H" ++ p)); obtain ⟨$(id ("s" ++ p)), $(id ("h" ++ p))⟩ := Go.al $(id ("n" ++ p)) hu; clear hu; tm_at "rd"))
    | ["al0", p] => `(tactic| (refine ⟨by tm_at "sz", fun $(id p) $(id ("n" ++ p)) => ?_⟩; generalize hu : upd _ $(id p) _ = $(id ("H" ++ p)); obtain ⟨$(id ("s" ++ p)), $(id ("h" ++ p))⟩ := Go.al $(id ("n" ++ p)) hu; clear hu; tm_at "rd"))
    | ["new", p] => `(tactic| (refine fun $(id p) $(id ("n" ++ p)) => ?_; generalize hu : upd _ $(id p) _ = $(id ("H" ++ p)); obtain ⟨$(id ("s" ++ p)), $(id ("h" ++ p))⟩ := Go.al $(id ("n" ++ p)) hu; clear hu; tm_at "rd"))
    | ["new0", p] => `(tactic| (refine fun $(id p) $(id ("n" ++ p)) => ?_; generalize hu : upd _ $(id p) _ = $(id ("H" ++ p)); obtain ⟨$(id ("s" ++ p)), $(id ("h" ++ p))⟩ := Go.al $(id ("n" ++ p)) hu; clear hu; tm_at "rd"))
    | ["up"] => `(tactic| first
        | assumption | exact sq (by assumption) | exact sqt (by assumption) | exact PlT.sq (by assumption)
        | (refine' Bx.Same.tup (by assumption) ?hh; (case hh => tm_at "up")) | (refine' Same.seq (by assumption) ?hh; (case hh => tm_at "up")) | (refine' Go.get (by assumption) ?hh; (case hh => tm_at "up")) | (refine' dpAll_same (by assumption) ?hh; (case hh => tm_at "up")) | (refine' dp_same (by assumption) ?hh; (case hh => tm_at "up")) | (refine' PlT.same (by assumption) ?hh; (case hh => tm_at "up")) | (refine' Go.srcS (by assumption) ?hh; (case hh => tm_at "up"))
        | (refine' Go.tupB (s := _) (by assumption) (by assumption) ?hh; (case hh => tm_at "up")) | (refine' Go.dkB (s := _) (by assumption) (by assumption) ?hh; (case hh => tm_at "up")) | (refine' Go.insB (s := _) (by assumption) (by assumption) ?hh; (case hh => tm_at "up")) | (refine' Go.pltB (s := _) (by assumption) (by assumption) ?hh; (case hh => tm_at "up"))
        | (refine' Go.getB (by assumption) (by first | assumption | exact Ne.symm (by assumption)) ?hh; (case hh => tm_at "up"))
        | (refine' sq ?hh; (case hh => tm_at "raw")) | (refine' sqt ?hh; (case hh => tm_at "raw")) | (refine' PlT.sq ?hh; (case hh => tm_at "raw")) | fail "up: no fact")
    | ["raw"] => `(tactic| first
        | assumption | (refine' Go.get (by assumption) ?hh; (case hh => tm_at "raw")) | (refine' PlT.same (by assumption) ?hh; (case hh => tm_at "raw")) | (refine' Go.pltB (s := _) (by assumption) (by assumption) ?hh; (case hh => tm_at "raw")) | (refine' Go.getB (by assumption) (by first | assumption | exact Ne.symm (by assumption)) ?hh; (case hh => tm_at "raw")) | fail "raw: no fact")
    | ["sq"] => `(tactic| first | exact .inl (by tm_at "up") | exact .inr (by tm_at "up") | fail "sq: no fact")
    | ["ix", j] => `(tactic| (refine ⟨_, _, _, _, rfl, rfl, by tm_at "up", by exact atI_nat (j := $(Lean.Syntax.mkNumLit j)) rfl, ?_⟩; tm_at "rd"))
    | ["ixh", h] => `(tactic| (refine ⟨_, _, _, _, rfl, rfl, by tm_at "up", by first | exact Go.at_mapV $(id h) | exact Go.at_mapZ $(id h) | exact atI_nat $(id h) | exact Go.at_nat0 $(id h), ?_⟩; tm_at "rd"))
    | ["len"] => `(tactic| (refine ⟨_, _, rfl, by tm_at "sq", ?_⟩; (try rw [List.length_map]); tm_at "rd"))
    | ["tp", p] => `(tactic| (refine ⟨_, _, rfl, .inl ⟨by tm_at "up", fun $(id p) $(id ("n" ++ p)) => ?_⟩⟩; generalize hu : upd _ $(id p) _ = $(id ("H" ++ p)); obtain ⟨$(id ("s" ++ p)), $(id ("h" ++ p))⟩ := Go.al $(id ("n" ++ p)) hu; clear hu; tm_at "rd"))
    | ["tp0", p] => `(tactic| (refine ⟨_, _, rfl, .inl ⟨by tm_at "up", fun $(id p) $(id ("n" ++ p)) => ?_⟩⟩; generalize hu : upd _ $(id p) _ = $(id ("H" ++ p)); obtain ⟨$(id ("s" ++ p)), $(id ("h" ++ p))⟩ := Go.al $(id ("n" ++ p)) hu; clear hu; tm_at "rd"))
    | ["ls", p] => `(tactic| (refine ⟨_, _, rfl, by tm_at "sq", fun $(id p) $(id ("n" ++ p)) => ?_⟩; generalize hu : upd _ $(id p) _ = $(id ("H" ++ p)); obtain ⟨$(id ("s" ++ p)), $(id ("h" ++ p))⟩ := Go.al $(id ("n" ++ p)) hu; clear hu; tm_at "rd"))
    | ["ls0", p] => `(tactic| (refine ⟨_, _, rfl, by tm_at "sq", fun $(id p) $(id ("n" ++ p)) => ?_⟩; generalize hu : upd _ $(id p) _ = $(id ("H" ++ p)); obtain ⟨$(id ("s" ++ p)), $(id ("h" ++ p))⟩ := Go.al $(id ("n" ++ p)) hu; clear hu; tm_at "rd"))
    | ["tf", p] => `(tactic| (refine ⟨_, _, rfl, by tm_at "up", fun $(id p) $(id ("o" ++ p)) $(id ("n" ++ p)) $(id ("d" ++ p)) => ?_⟩; generalize hu : upd _ $(id p) _ = $(id ("H" ++ p)); obtain ⟨$(id ("s" ++ p)), $(id ("h" ++ p))⟩ := Go.alF $(id ("n" ++ p)) $(id ("d" ++ p)) hu; clear hu; tm_at "rd"))
    | ["alF", p] => `(tactic| (refine ⟨by tm_at "sz", fun $(id p) $(id ("o" ++ p)) $(id ("n" ++ p)) $(id ("d" ++ p)) => ?_⟩; generalize hu : upd _ $(id p) _ = $(id ("H" ++ p)); obtain ⟨$(id ("s" ++ p)), $(id ("h" ++ p))⟩ := Go.alF $(id ("n" ++ p)) $(id ("d" ++ p)) hu; clear hu; tm_at "rd"))
    | ["bare", k] => `(tactic| (refine fun $(id k) $(id ("d" ++ k)) $(id ("n" ++ k)) $(id ("nd" ++ k)) $(id ("ne" ++ k)) => ?_; generalize hu : upd (upd _ $(id ("d" ++ k)) _) $(id k) _ = $(id ("H" ++ k)); obtain ⟨$(id ("s" ++ k)), $(id ("h" ++ k))⟩ := Go.bare $(id ("n" ++ k)) $(id ("nd" ++ k)) $(id ("ne" ++ k)) hu; clear hu; walk_at "rd"))
    | ["me"] => `(tactic| (refine ⟨_, _, _, rfl, by tm_at "up", rfl, ?_⟩; walk_at "rd"))
    | ["star"] => `(tactic| ((first | refine ⟨_, _, rfl, .inl (by tm_at "up"), ?_⟩ | refine ⟨_, _, rfl, .inr (by tm_at "up"), ?_⟩ | fail "star"); walk_at "rd"))
    | ["ap0"] => `(tactic| (refine ⟨.inl ⟨rfl, _, by tm_at "up"⟩, ?_⟩; tm_at "rd"))
    | ["ap"] => `(tactic| refine ⟨_, _, _, rfl, rfl, by tm_at "up", by tm_at "sz", ?_⟩)
    | ["un", n] => match n with
      | "2" => `(tactic| (refine ⟨_, _, rfl, by tm_at "up", rfl, _, _, rfl, _, _, rfl, rfl, ?_⟩; tm_at "rd"))
      | _ => `(tactic| (refine ⟨_, _, rfl, by tm_at "up", rfl, _, _, rfl, _, _, rfl, _, _, rfl, rfl, ?_⟩; tm_at "rd"))
    | _ => Lean.Macro.throwUnsupported
def okSmall (n : Int) (z : Str) : Bool := okNum (tl z) && (decide (0 ≤ numOf (tl z)) && decide (numOf (tl z) ≤ n))
def okLet (z : Str) : Bool := (tl z).all fun c => decide (c ∈ [97, 98])
section
variable {P : Program} {w : World} {K : PySem.W.Frag} {mg : Str → Option Value} {base : Heap}
@[irreducible] def spSmall (C : Addr) : Sp := fun vs H Q E => ∃ (z : Str) (n i : Int), vs = [.str z, .int n, .int i] ∧ z.length ≤ 640 ∧ i.natAbs.log2 < 1920 ∧ (okSmall n z = true → ∀ H', Same H H' → Q (.int (numOf (tl z))) H') ∧
  (okSmall n z = false → ∀ d H', Same H H' → H' d = some (.xd [(("line" : Str), .int i)]) → E (.ref C) (some d) H')
theorem ok_small {f C : Addr} {fd : FuncData} (F : Fun K "_parse_small" "_parse_small" s__parse_small f fd) (CN_parse_number : Rc.CalN P w K mg base "parse_number" "line" 1 3 ["text", "line"] (.int 1) (spParseNumber C))
    (E_InvalidText : Err P w K mg base "InvalidText" C "line" "line" okI 1) : FnOk P w K mg base (L2.CX P w) 4 f fd ["text", "highest", "line"] (spSmall C) := by
  refine F.okX sc__parse_small (fun vs H Q E h => ?_) (fun cdv A outer s H vs Q E hr h => ?_)
  · unfold spSmall at h
    obtain ⟨z, n, i, rfl, _⟩ := h
    rfl
  · unfold spSmall at h
    obtain ⟨z, n, i, rfl, hz, hi, q1, q2⟩ := h
    refine ⟨_, (pss_cons (ps_set (i := 3) sc__parse_small.nd rfl (Or.inl rfl) (Rc.pe_calNK CN_parse_number (takes_of rfl rfl rfl rfl) (hr.mono (by decide)) (pa_cons (pv 0) pa_nil) (pk_cons (pv 2) pk_nil)))
    (pss_cons (ps_if (pt_not (pt_chain op_le op_le pe_int (pv 3) (pv 1)))
      (pss_one (ps_raiseE E_InvalidText rfl (takes_of rfl rfl rfl rfl) (hr.mono (by decide)) (pv 2)))
      pss_nil)
    (pss_one (ps_ret (pv 3))))), ?_⟩
    walk_at "rd"
    refine ⟨z, i, rfl, hz, hi, fun hk H1 s1 => ?_, fun hk d H1 s1 hd => ?_⟩
    · walk_at "rd"
      cases hs : okSmall n z with
      | true =>
        have h2 := Bool.and_eq_true_iff.mp (Bool.and_eq_true_iff.mp (show (okNum (tl z) && (decide (0 ≤ numOf (tl z)) && decide (numOf (tl z) ≤ n))) = true from hs)).2
        rw [h2.1]
        walk_at "rd"
        rw [h2.2]
        walk_at "rd"
        exact q1 hs H1 s1
      | false =>
        have hs' : (decide (0 ≤ numOf (tl z)) && decide (numOf (tl z) ≤ n)) = false := by
          have z0 := hs
          unfold okSmall at z0
          rwa [hk, Bool.true_and] at z0
        cases h0 : decide (0 ≤ numOf (tl z)) with
        | true =>
          rw [h0, Bool.true_and] at hs'
          walk_at "rd"
          rw [hs']
          walk_at "rd"
          exact ⟨⟨i, rfl, hi⟩, fun d H3 s3 _ hd => q2 hs d H3 (Same.trans s1 s3) hd⟩
        | false =>
          walk_at "rd"
          exact ⟨⟨i, rfl, hi⟩, fun d H3 s3 _ hd => q2 hs d H3 (Same.trans s1 s3) hd⟩
    · exact q2 (by unfold okSmall; rw [hk]; rfl) d H1 s1 hd
@[irreducible] def spLetters (C : Addr) : Sp := fun vs H Q E => ∃ (z : Str) (i : Int), vs = [.str z, .int i] ∧ z.length ≤ 640 ∧ (∀ d ∈ tl z, d < 0x110000) ∧ i.natAbs.log2 < 1920 ∧ (okLet z = true → ∀ H', Same H H' → Q (.str z) H') ∧
  (okLet z = false → ∀ d H', Same H H' → H' d = some (.xd [(("line" : Str), .int i)]) → E (.ref C) (some d) H')
theorem ok_letters {f C : Addr} {fd : FuncData} (F : Fun K "_parse_letters" "_parse_letters" s__parse_letters f fd) (m_all : mg "all" = none)
    (E_InvalidText : Err P w K mg base "InvalidText" C "line" "line" okI 1) : FnOk P w K mg base (L2.CX P w) 3 f fd ["text", "line"] (spLetters C) := by
  refine F.okX sc__parse_letters (fun vs H Q E h => ?_) (fun cdv A outer s H vs Q E hr h => ?_)
  · unfold spLetters at h
    obtain ⟨z, i, rfl, _⟩ := h
    rfl
  · unfold spLetters at h
    obtain ⟨z, i, rfl, hz, hd, hi, q1, q2⟩ := h
    refine ⟨_, (pss_cons (ps_if (pt_not (pt_val (pe_callB (id := "all") (cr_all rfl) (by rfl) m_all (by decide +kernel) (pa_cons (pe_lc (own := [("letter", 2)]) (tt := tYes) rfl sc__parse_letters.nd (pi_str (pv 0)) (blkOk_by (N := n__parse_letters) (sc := defScope s__parse_letters) (by decide +kernel)) (fun _ _ _ _ _ => pg_name (i := 2) sc__parse_letters.nd rfl (Or.inl rfl)) (fun _ _ _ _ _ => pts_nil) (fun _ _ _ _ _ => (pe_cmpR op_in_sign (pv 2) pe_str (by rfl)))) pa_nil))))
      (pss_one (ps_raiseE E_InvalidText rfl (takes_of rfl rfl rfl rfl) (hr.mono (by decide)) (pv 1)))
      pss_nil)
    (pss_one (ps_ret (pv 0)))), ?_⟩
    have hz2 : z.length ≤ sizeLine := sz (by omega)
    have hlen : (tl z).length = z.length := (len_tl z).symm
    walk_at "rd"
    refine fun D hD => lc_it walk_str (fun i H' => Same H H' ∧ H' D = some (.lst (((tl z).take i).map fun c => V.bl (decide (c ∈ [97, 98]))))) ⟨same_new hD, by rw [upd_same]; rfl⟩ (fun _ _ _ _ => trivial) ?_ ?_
    · rintro i x H1 H2 hi ⟨hs, hd⟩ ⟨rfl, c, hc, rfl⟩
      have hi2 : (tl z)[i]? = some c := by
        rw [← Array.getElem?_toList] at hc
        exact hc
      refine ⟨rfl, ?_⟩
      walk_at "rd"
      refine ⟨_, hd, ?_, ?_, ?_⟩
      · rw [List.length_map, List.length_take]
        exact szl (by omega)
      · exact fun b o eb => by
          rw [upd_ne (ne_of_none eb hD)]
          exact hs b o eb
      · rw [upd_same, List.take_add_one, hi2, List.map_append]
        rw [show (Str.ofString "ab").cps.toList = [97, 98] by decide +kernel]
        rfl
    · rintro H1 ⟨hs, hd⟩
      rw [show z.cps.size = (tl z).length from (Array.length_toList).symm, List.take_length] at hd
      walk_at "rd"
      refine ⟨D, (tl z).map (fun c => decide (c ∈ [97, 98])), rfl, sq (by rw [hd, List.map_map]; rfl), ?_⟩
      have e2 : ((tl z).map fun c => decide (c ∈ [97, 98])).all id = okLet z := by
        rw [List.all_map]
        rfl
      rw [e2]
      cases hk : okLet z with
      | true =>
        walk_at "rd"
        exact q1 hk H1 hs
      | false =>
        walk_at "rd"
        exact ⟨⟨i, rfl, hi⟩, fun d H3 s3 _ hd => q2 hk d H3 (Same.trans hs s3) hd⟩
end
end K06
namespace K06
open PySem PySem.Spec PyProof.Rows L2 Bx TL Dx Sup Er NdefX
local macro_rules | `(tactic| walk_at "rd") => `(tactic| repeat (first | refine ⟨rfl, ?_⟩ | refine ⟨_, rfl, ?_⟩ | refine ⟨_, _, rfl, rfl, ?_⟩ | refine ⟨⟨_, rfl⟩, ?_⟩))
local macro_rules
  | `(tactic| tm_at $s:str) => do
    let id (x : String) := Lean.mkIdent (Lean.Name.mkSimple x)
    match s.getString.splitOn " " with
    | ["rd"] => `(tactic| walk_at "rd")
    | ["sz"] => `(tactic| first | exact sz (by decide) | exact szl (by decide) | exact sz (by show _ ≤ 100000; decide) | ((first | refine sz ?_ | refine szl ?_); (try simp only [List.length_map, List.length_append, List.length_cons, List.length_nil, List.length_take, List.length_drop]); omega) | fail "sz: no bound")
    | ["gn", p, h] => `(tactic| (generalize hu : upd _ $(id p) _ = $(id ("H" ++ p)); obtain ⟨$(id ("s" ++ p)), $(id h)⟩ := Go.al $(id ("n" ++ p)) hu; clear hu))
    | ["al", p] => `(tactic| (refine ⟨by tm_at "sz", fun $(id p) $(id ("n" ++ p)) => ?_⟩; generalize hu : upd _ $(id p) _ = $(id ("H" ++ p)); obtain ⟨$(id ("s" ++ p)), $(id ("h" ++ p))⟩ := Go.al $(id ("n" ++ p)) hu; clear hu; tm_at "rd"))
    | ["al0", p] => `(tactic| (refine ⟨by tm_at "sz", fun $(id p) $(id ("n" ++ p)) => ?_⟩; generalize hu : upd _ $(id p) _ = $(id ("H" ++ p)); obtain ⟨$(id ("s" ++ p)), $(id ("h" ++ p))⟩ := Go.al $(id ("n" ++ p)) hu; clear hu; tm_at "rd"))
    | ["new", p] => `(tactic| (refine fun $(id p) $(id ("n" ++ p)) => ?_; generalize hu : upd _ $(id p) _ = $(id ("H" ++ p)); obtain ⟨$(id ("s" ++ p)), $(id ("h" ++ p))⟩ := Go.al $(id ("n" ++ p)) hu; clear hu; tm_at "rd"))
    | ["new0", p] => `(tactic| (refine fun $(id p) $(id ("n" ++ p)) => ?_; generalize hu : upd _ $(id p) _ = $(id ("H" ++ p)); obtain ⟨$(id ("s" ++ p)), $(id ("h" ++ p))⟩ := Go.al $(id ("n" ++ p)) hu; clear hu; tm_at "rd"))
    | ["up"] => `(tactic| first
        | assumption | exact sq (by assumption) | exact sqt (by assumption) | exact PlT.sq (by assumption)
        | (refine' Bx.Same.tup (by assumption) ?hh; (case hh => tm_at "up")) | (refine' Same.seq (by assumption) ?hh; (case hh => tm_at "up")) | (refine' Go.get (by assumption) ?hh; (case hh => tm_at "up")) | (refine' dpAll_same (by assumption) ?hh; (case hh => tm_at "up")) | (refine' dp_same (by assumption) ?hh; (case hh => tm_at "up")) | (refine' PlT.same (by assumption) ?hh; (case hh => tm_at "up")) | (refine' Go.srcS (by assumption) ?hh; (case hh => tm_at "up"))
        | (refine' Go.tupB (s := _) (by assumption) (by assumption) ?hh; (case hh => tm_at "up")) | (refine' Go.dkB (s := _) (by assumption) (by assumption) ?hh; (case hh => tm_at "up")) | (refine' Go.insB (s := _) (by assumption) (by assumption) ?hh; (case hh => tm_at "up")) | (refine' Go.pltB (s := _) (by assumption) (by assumption) ?hh; (case hh => tm_at "up"))
        | (refine' Go.getB (by assumption) (by first | assumption | exact Ne.symm (by assumption)) ?hh; (case hh => tm_at "up"))
        | (refine' sq ?hh; (case hh => tm_at "raw")) | (refine' sqt ?hh; (case hh => tm_at "raw")) | (refine' PlT.sq ?hh; (case hh => tm_at "raw")) | fail "up: no fact")
    | ["raw"] => `(tactic| first
        | assumption | (refine' Go.get (by assumption) ?hh; (case hh => tm_at "raw")) | (refine' PlT.same (by assumption) ?hh; (case hh => tm_at "raw")) | (refine' Go.pltB (s := _) (by assumption) (by assumption) ?hh; (case hh => tm_at "raw")) | (refine' Go.getB (by assumption) (by first | assumption | exact Ne.symm (by assumption)) ?hh; (case hh => tm_at "raw")) | fail "raw: no fact")
    | ["sq"] => `(tactic| first | exact .inl (by tm_at "up") | exact .inr (by tm_at "up") | fail "sq: no fact")
    | ["ix", j] => `(tactic| (refine ⟨_, _, _, _, rfl, rfl, by tm_at "up", by exact atI_nat (j := $(Lean.Syntax.mkNumLit j)) rfl, ?_⟩; tm_at "rd"))
    | ["ixh", h] => `(tactic| (refine ⟨_, _, _, _, rfl, rfl, by tm_at "up", by first | exact Go.at_mapV $(id h) | exact Go.at_mapZ $(id h) | exact atI_nat $(id h) | exact Go.at_nat0 $(id h), ?_⟩; tm_at "rd"))
    | ["len"] => `(tactic| (refine ⟨_, _, rfl, by tm_at "sq", ?_⟩; (try rw [List.length_map]); tm_at "rd"))
    | ["tp", p] => `(tactic| (refine ⟨_, _, rfl, .inl ⟨by tm_at "up", fun $(id p) $(id ("n" ++ p)) => ?_⟩⟩; generalize hu : upd _ $(id p) _ = $(id ("H" ++ p)); obtain ⟨$(id ("s" ++ p)), $(id ("h" ++ p))⟩ := Go.al $(id ("n" ++ p)) hu; clear hu; tm_at "rd"))
    | ["tp0", p] => `(tactic| (refine ⟨_, _, rfl, .inl ⟨by tm_at "up", fun $(id p) $(id ("n" ++ p)) => ?_⟩⟩; generalize hu : upd _ $(id p) _ = $(id ("H" ++ p)); obtain ⟨$(id ("s" ++ p)), $(id ("h" ++ p))⟩ := Go.al $(id ("n" ++ p)) hu; clear hu; tm_at "rd"))
    | ["ls", p] => `(tactic| (refine ⟨_, _, rfl, by tm_at "sq", fun $(id p) $(id ("n" ++ p)) => ?_⟩; generalize hu : upd _ $(id p) _ = $(id ("H" ++ p)); obtain ⟨$(id ("s" ++ p)), $(id ("h" ++ p))⟩ := Go.al $(id ("n" ++ p)) hu; clear hu; tm_at "rd"))
    | ["ls0", p] => `(tactic| (refine ⟨_, _, rfl, by tm_at "sq", fun $(id p) $(id ("n" ++ p)) => ?_⟩; generalize hu : upd _ $(id p) _ = $(id ("H" ++ p)); obtain ⟨$(id ("s" ++ p)), $(id ("h" ++ p))⟩ := Go.al $(id ("n" ++ p)) hu; clear hu; tm_at "rd"))
    | ["tf", p] => `(tactic| (refine ⟨_, _, rfl, by tm_at "up", fun $(id p) $(id ("o" ++ p)) $(id ("n" ++ p)) $(id ("d" ++ p)) => ?_⟩; generalize hu : upd _ $(id p) _ = $(id ("H" ++ p)); obtain ⟨$(id ("s" ++ p)), $(id ("h" ++ p))⟩ := Go.alF $(id ("n" ++ p)) $(id ("d" ++ p)) hu; clear hu; tm_at "rd"))
    | ["alF", p] => `(tactic| (refine ⟨by tm_at "sz", fun $(id p) $(id ("o" ++ p)) $(id ("n" ++ p)) $(id ("d" ++ p)) => ?_⟩; generalize hu : upd _ $(id p) _ = $(id ("H" ++ p)); obtain ⟨$(id ("s" ++ p)), $(id ("h" ++ p))⟩ := Go.alF $(id ("n" ++ p)) $(id ("d" ++ p)) hu; clear hu; tm_at "rd"))
    | ["bare", k] => `(tactic| (refine fun $(id k) $(id ("d" ++ k)) $(id ("n" ++ k)) $(id ("nd" ++ k)) $(id ("ne" ++ k)) => ?_; generalize hu : upd (upd _ $(id ("d" ++ k)) _) $(id k) _ = $(id ("H" ++ k)); obtain ⟨$(id ("s" ++ k)), $(id ("h" ++ k))⟩ := Go.bare $(id ("n" ++ k)) $(id ("nd" ++ k)) $(id ("ne" ++ k)) hu; clear hu; walk_at "rd"))
    | ["me"] => `(tactic| (refine ⟨_, _, _, rfl, by tm_at "up", rfl, ?_⟩; walk_at "rd"))
    | ["star"] => `(tactic| ((first | refine ⟨_, _, rfl, .inl (by tm_at "up"), ?_⟩ | refine ⟨_, _, rfl, .inr (by tm_at "up"), ?_⟩ | fail "star"); walk_at "rd"))
    | ["ap0"] => `(tactic| (refine ⟨.inl ⟨rfl, _, by tm_at "up"⟩, ?_⟩; tm_at "rd"))
    | ["ap"] => `(tactic| refine ⟨_, _, _, rfl, rfl, by tm_at "up", by tm_at "sz", ?_⟩)
    | ["un", n] => match n with
      | "2" => `(tactic| (refine ⟨_, _, rfl, by tm_at "up", rfl, _, _, rfl, _, _, rfl, rfl, ?_⟩; tm_at "rd"))
      | _ => `(tactic| (refine ⟨_, _, rfl, by tm_at "up", rfl, _, _, rfl, _, _, rfl, _, _, rfl, rfl, ?_⟩; tm_at "rd"))
    | _ => Lean.Macro.throwUnsupported
section
variable {P : Program} {w : World} {K : PySem.W.Frag} {mg : Str → Option Value} {base : Heap}
theorem nn {a : Addr} {H H1 : Hp} (s : Same H H1) (h : H1 a = none) : H a = none := by
  cases e : H a with
  | none => rfl
  | some o =>
    rw [s a o e] at h
    cases h
theorem dec1 {g : Nat} {h : Decidable (V.int (g : Int) = V.int 1)} : @decide (V.int (g : Int) = V.int 1) h = decide (g = 1) :=
  decide_eq_decide.mpr ⟨fun h => by injection h with h; omega, fun h => by rw [h]; rfl⟩
theorem part_has {z : Str} {c : Nat} (h : c ∈ tl z) : ∃ p q : List Nat, tl z = p ++ c :: q ∧ c ∉ p ∧ Txt.partition z ⟨#[c]⟩ = (⟨p.toArray⟩, ⟨#[c]⟩, ⟨q.toArray⟩) := by
  obtain ⟨p, q, e, hp⟩ := List.eq_append_cons_of_mem h
  refine ⟨p, q, e, hp, ?_⟩
  have e1 : z = ⟨(p ++ ([c] ++ q)).toArray⟩ := TL.ext_tl (by rw [e]; rfl)
  rw [e1]
  exact SX.partition_some (a := p ++ ([c] ++ q)) (b := [c]) (List.cons_ne_nil _ _) (SX.par_head q hp)
theorem part_len {z : Str} {c : Nat} : (Txt.partition z ⟨#[c]⟩).1.length ≤ z.length ∧ (c ∈ tl z → (Txt.partition z ⟨#[c]⟩).2.2.length ≤ z.length) := by
  have hl := len_tl z
  constructor
  · by_cases h : c ∈ tl z
    · obtain ⟨p, q, e, _, e2⟩ := part_has h
      rw [e2, hl, e, List.length_append]
      show p.length ≤ _
      omega
    · have e1 : z = ⟨(tl z).toArray⟩ := TL.ext_tl rfl
      have e2 : Txt.partition z ⟨#[c]⟩ = (⟨(tl z).toArray⟩, ⟨#[]⟩, ⟨#[]⟩) := by
        conv => lhs; rw [e1]
        exact SX.partition_none (a := tl z) (b := [c]) (List.cons_ne_nil _ _) (SX.par_head_none h)
      rw [e2, ← e1]
      exact Nat.le_refl _
  · intro h
    obtain ⟨p, q, e, _, e2⟩ := part_has h
    rw [e2, hl, e, List.length_append, List.length_cons]
    show q.length ≤ _
    omega
/-- what stands before and behind the first slash -/
def okFrac (z : Str) : Bool :=
  if 47 ∈ tl z then okNum (tl (Txt.partition z (Str.ofString "/")).1) && okNum (tl (Txt.partition z (Str.ofString "/")).2.2) &&
    !(decide (numOf (tl (Txt.partition z (Str.ofString "/")).2.2) < 2) || decide (Nat.gcd (numOf (tl (Txt.partition z (Str.ofString "/")).1)).natAbs (numOf (tl (Txt.partition z (Str.ofString "/")).2.2)).natAbs ≠ 1))
  else okNum (tl z)
def fracOf (z : Str) : Int × Int :=
  if 47 ∈ tl z then (numOf (tl (Txt.partition z (Str.ofString "/")).1), numOf (tl (Txt.partition z (Str.ofString "/")).2.2)) else (numOf (tl z), 1)
@[irreducible] def spFrac (C : Addr) : Sp := fun vs H Q E => ∃ (z : Str) (i : Int), vs = [.str z, .int i] ∧ z.length ≤ 640 ∧ i.natAbs.log2 < 1920 ∧ (okFrac z = true → ∀ p H', Same H H' → H p = none → H' p = some (.tup [.int (fracOf z).1, .int (fracOf z).2]) → Q (.ref p) H') ∧
  (okFrac z = false → ∀ d H', Same H H' → H' d = some (.xd [(("line" : Str), .int i)]) → E (.ref C) (some d) H')
theorem ok_frac {f C : Addr} {fd : FuncData} (F : Fun K "_parse_fraction" "_parse_fraction" s__parse_fraction f fd) (m_gcd : mg "gcd" = some (.builtin "math.gcd")) (CN_parse_number : Rc.CalN P w K mg base "parse_number" "line" 1 3 ["text", "line"] (.int 1) (spParseNumber C))
    (E_InvalidText : Err P w K mg base "InvalidText" C "line" "line" okI 1) : FnOk P w K mg base (L2.CX P w) 4 f fd ["text", "line"] (spFrac C) := by
  refine F.okX sc__parse_fraction (fun vs H Q E h => ?_) (fun cdv A outer s H vs Q E hr h => ?_)
  · unfold spFrac at h
    obtain ⟨z, i, rfl, _⟩ := h
    rfl
  · unfold spFrac at h
    obtain ⟨z, i, rfl, hz, hi, q1, q2⟩ := h
    refine ⟨_, (pss_cons (ps_if (pt_cmpR op_notIn_sign pe_str (pv 0) (by rfl))
      (pss_one (ps_ret (pe_tup (pa_cons (Rc.pe_calNK CN_parse_number (takes_of rfl rfl rfl rfl) (hr.mono (by decide)) (pa_cons (pv 0) pa_nil) (pk_cons (pv 1) pk_nil)) (pa_cons pe_int pa_nil)))))
      pss_nil)
    (pss_cons (ps_asg (pe_partition (pv 0) pe_str) (pg_tup rfl (pgs_cons (pg_name (i := 2) sc__parse_fraction.nd rfl (Or.inl rfl)) (pgs_cons (pg_name (i := 3) sc__parse_fraction.nd rfl (Or.inl rfl)) (pgs_cons (pg_name (i := 4) sc__parse_fraction.nd rfl (Or.inl rfl)) pgs_nil)))))
    (pss_cons (ps_par (i := 5) (j := 6) rfl sc__parse_fraction.nd rfl rfl (by decide) rfl rfl (pa_cons (Rc.pe_calNK CN_parse_number (takes_of rfl rfl rfl rfl) (hr.mono (by decide)) (pa_cons (pv 2) pa_nil) (pk_cons (pv 1) pk_nil)) (pa_cons (Rc.pe_calNK CN_parse_number (takes_of rfl rfl rfl rfl) (hr.mono (by decide)) (pa_cons (pv 4) pa_nil) (pk_cons (pv 1) pk_nil)) pa_nil)) (by rfl))
    (pss_cons (ps_if (PW.pt (pw_or (pt_cmpR op_lt (pv 6) pe_int (nomark _)) (pw_or1 (pt_cmpR op_ne (pe_callBfun cr_gcd (by rfl) m_gcd (pa_cons (pv 5) (pa_cons (pv 6) pa_nil))) pe_int (nomark _)))))
      (pss_one (ps_raiseE E_InvalidText rfl (takes_of rfl rfl rfl rfl) (hr.mono (by decide)) (pv 1)))
      pss_nil)
    (pss_one (ps_ret (pe_tup (pa_cons (pv 5) (pa_cons (pv 6) pa_nil))))))))), ?_⟩
    walk_at "rd"
    rw [show (decide ((UInt8.ofNat '/'.val.toNat).toNat ∈ z.cps.toList)) = decide (47 ∈ tl z) by rfl]
    by_cases h47 : 47 ∈ tl z
    · rw [decide_eq_true h47]
      have l1 : (Txt.partition z (Str.ofString "/")).1.length ≤ 640 := Nat.le_trans (part_len (z := z) (c := 47)).1 hz
      have l2 : (Txt.partition z (Str.ofString "/")).2.2.length ≤ 640 := Nat.le_trans ((part_len (z := z) (c := 47)).2 h47) hz
      have eo : okFrac z = (okNum (tl (Txt.partition z (Str.ofString "/")).1) && okNum (tl (Txt.partition z (Str.ofString "/")).2.2) &&
        !(decide (numOf (tl (Txt.partition z (Str.ofString "/")).2.2) < 2) || decide (Nat.gcd (numOf (tl (Txt.partition z (Str.ofString "/")).1)).natAbs (numOf (tl (Txt.partition z (Str.ofString "/")).2.2)).natAbs ≠ 1))) := if_pos h47
      have ef : fracOf z = (numOf (tl (Txt.partition z (Str.ofString "/")).1), numOf (tl (Txt.partition z (Str.ofString "/")).2.2)) := if_pos h47
      walk_at "rd"
      refine ⟨sz (by omega), ?_⟩
      generalize Txt.partition z (Str.ofString "/") = pr at l1 l2 eo ef ⊢
      obtain ⟨lf, md, rg⟩ := pr
      tm_at "new t"
      tm_at "un 3"
      refine ⟨lf, i, rfl, l1, hi, fun hk H1 s1 => ?_, fun hk d H1 s1 hd => ?_⟩
      · walk_at "rd"
        refine ⟨rg, i, rfl, l2, hi, fun hk2 H2 s2 => ?_, fun hk2 d H2 s2 hd => ?_⟩
        · have eo2 : okFrac z = !(decide (numOf (tl rg) < 2) || decide (Nat.gcd (numOf (tl lf)).natAbs (numOf (tl rg)).natAbs ≠ 1)) := by
            rw [eo]
            show (okNum (tl lf) && okNum (tl rg) && _) = _
            rw [hk, hk2]
            rfl
          have ef2 : fracOf z = (numOf (tl lf), numOf (tl rg)) := ef
          have s3 := Same.trans (Same.trans st s1) s2
          clear eo ef
          walk_at "rd"
          refine ⟨_, _, rfl, ?_⟩
          walk_at "rd"
          rcases Bool.eq_false_or_eq_true (decide (numOf (tl rg) < 2)) with h2 | h2
          · rw [h2]
            walk_at "rd"
            exact ⟨⟨i, rfl, hi⟩, fun d H3 s4 _ hd => q2 (by rw [eo2, h2]; rfl) d H3 (Same.trans s3 s4) hd⟩
          · rw [h2]
            rw [h2, Bool.false_or] at eo2
            walk_at "rd"
            rw [dec1]
            by_cases g1 : Nat.gcd (numOf (tl lf)).natAbs (numOf (tl rg)).natAbs = 1
            · rw [decide_eq_true g1]
              walk_at "rd"
              tm_at "al u"
              exact q1 (by rw [eo2]; simp [g1]) u Hu (Same.trans s3 su) (nn s3 nu) (by rw [ef2]; exact hu)
            · rw [decide_eq_false g1]
              walk_at "rd"
              exact ⟨⟨i, rfl, hi⟩, fun d H3 s4 _ hd => q2 (by rw [eo2]; simp [g1]) d H3 (Same.trans s3 s4) hd⟩
        · exact q2 (by rw [eo]; simp only [hk2, Bool.and_false, Bool.false_and]) d H2 (Same.trans (Same.trans st s1) s2) hd
      · exact q2 (by rw [eo]; simp only [hk, Bool.and_false, Bool.false_and]) d H1 (Same.trans st s1) hd
    · rw [decide_eq_false h47]
      have eo : okFrac z = okNum (tl z) := if_neg h47
      have ef : fracOf z = (numOf (tl z), 1) := if_neg h47
      walk_at "rd"
      refine ⟨z, i, rfl, hz, hi, fun hk H1 s1 => ?_, fun hk d H1 s1 hd => ?_⟩
      · walk_at "rd"
        tm_at "al t"
        exact q1 (by rw [eo]; exact hk) t Ht (Same.trans s1 st) (nn s1 nt) (by rw [ef]; exact ht)
      · exact q2 (by rw [eo]; exact hk) d H1 s1 hd
end
end K06
namespace K06
open PySem PySem.Spec PyProof.Rows L2 Bx TL Dx Sup Er NdefX
open Px (pe_calE)
local macro_rules | `(tactic| walk_at "rd") => `(tactic| repeat (first | refine ⟨rfl, ?_⟩ | refine ⟨_, rfl, ?_⟩ | refine ⟨_, _, rfl, rfl, ?_⟩ | refine ⟨⟨_, rfl⟩, ?_⟩))
local macro_rules
  | `(tactic| tm_at $s:str) => do
    let id (x : String) := Lean.mkIdent (Lean.Name.mkSimple x)
    match s.getString.splitOn " " with
    | ["rd"] => `(tactic| walk_at "rd")
    | ["sz"] => `(tactic| first | exact sz (by decide) | exact szl (by decide) | exact sz (by show _ ≤ 100000; decide) | ((first | refine sz ?_ | refine szl ?_); (try simp only [List.length_map, List.length_append, List.length_cons, List.length_nil, List.length_take, List.length_drop]); omega) | fail "sz: no bound")
    | ["gn", p, h] => `(tactic| (generalize hu : upd _ $(id p) _ = $(id ("H" ++ p)); obtain ⟨$(id ("s" ++ p)), $(id h)⟩ := Go.al $(id ("n" ++ p)) hu; clear hu))
    | ["al", p] => `(tactic| (refine ⟨by tm_at "sz", fun $(id p) $(id ("n" ++ p)) => ?_⟩; generalize hu : upd _ $(id p) _ = $(id ("H" ++ p)); obtain ⟨$(id ("s" ++ p)), $(id ("h" ++ p))⟩ := Go.al $(id ("n" ++ p)) hu; clear hu; tm_at "rd"))
    | ["al0", p] => `(tactic| (refine ⟨by tm_at "sz", fun $(id p) $(id ("n" ++ p)) => ?_⟩; generalize hu : upd _ $(id p) _ = $(id ("H" ++ p)); obtain ⟨$(id ("s" ++ p)), $(id ("h" ++ p))⟩ := Go.al $(id ("n" ++ p)) hu; clear hu; tm_at "rd"))
    | ["new", p] => `(tactic| (refine fun $(id p) $(id ("n" ++ p)) => ?_; generalize hu : upd _ $(id p) _ = $(id ("H" ++ p)); obtain ⟨$(id ("s" ++ p)), $(id ("h" ++ p))⟩ := Go.al $(id ("n" ++ p)) hu; clear hu; tm_at "rd"))
    | ["new0", p] => `(tactic| (refine fun $(id p) $(id ("n" ++ p)) => ?_; generalize hu : upd _ $(id p) _ = $(id ("H" ++ p)); obtain ⟨$(id ("s" ++ p)), $(id ("h" ++ p))⟩ := Go.al $(id ("n" ++ p)) hu; clear hu; tm_at "rd"))
    | ["up"] => `(tactic| first
        | assumption | exact sq (by assumption) | exact sqt (by assumption) | exact PlT.sq (by assumption)
        | (refine' Bx.Same.tup (by assumption) ?hh; (case hh => tm_at "up")) | (refine' Same.seq (by assumption) ?hh; (case hh => tm_at "up")) | (refine' Go.get (by assumption) ?hh; (case hh => tm_at "up")) | (refine' dpAll_same (by assumption) ?hh; (case hh => tm_at "up")) | (refine' dp_same (by assumption) ?hh; (case hh => tm_at "up")) | (refine' PlT.same (by assumption) ?hh; (case hh => tm_at "up")) | (refine' Go.srcS (by assumption) ?hh; (case hh => tm_at "up"))
        | (refine' Go.tupB (s := _) (by assumption) (by assumption) ?hh; (case hh => tm_at "up")) | (refine' Go.dkB (s := _) (by assumption) (by assumption) ?hh; (case hh => tm_at "up")) | (refine' Go.insB (s := _) (by assumption) (by assumption) ?hh; (case hh => tm_at "up")) | (refine' Go.pltB (s := _) (by assumption) (by assumption) ?hh; (case hh => tm_at "up"))
        | (refine' Go.getB (by assumption) (by first | assumption | exact Ne.symm (by assumption)) ?hh; (case hh => tm_at "up"))
        | (refine' sq ?hh; (case hh => tm_at "raw")) | (refine' sqt ?hh; (case hh => tm_at "raw")) | (refine' PlT.sq ?hh; (case hh => tm_at "raw")) | fail "up: no fact")
    | ["raw"] => `(tactic| first
        | assumption | (refine' Go.get (by assumption) ?hh; (case hh => tm_at "raw")) | (refine' PlT.same (by assumption) ?hh; (case hh => tm_at "raw")) | (refine' Go.pltB (s := _) (by assumption) (by assumption) ?hh; (case hh => tm_at "raw")) | (refine' Go.getB (by assumption) (by first | assumption | exact Ne.symm (by assumption)) ?hh; (case hh => tm_at "raw")) | fail "raw: no fact")
    | ["sq"] => `(tactic| first | exact .inl (by tm_at "up") | exact .inr (by tm_at "up") | fail "sq: no fact")
    | ["ix", j] => `(tactic| (refine ⟨_, _, _, _, rfl, rfl, by tm_at "up", by exact atI_nat (j := $(Lean.Syntax.mkNumLit j)) rfl, ?_⟩; tm_at "rd"))
    | ["ixh", h] => `(tactic| (refine ⟨_, _, _, _, rfl, rfl, by tm_at "up", by first | exact Go.at_mapV $(id h) | exact Go.at_mapZ $(id h) | exact atI_nat $(id h) | exact Go.at_nat0 $(id h), ?_⟩; tm_at "rd"))
    | ["len"] => `(tactic| (refine ⟨_, _, rfl, by tm_at "sq", ?_⟩; (try rw [List.length_map]); tm_at "rd"))
    | ["tp", p] => `(tactic| (refine ⟨_, _, rfl, .inl ⟨by tm_at "up", fun $(id p) $(id ("n" ++ p)) => ?_⟩⟩; generalize hu : upd _ $(id p) _ = $(id ("H" ++ p)); obtain ⟨$(id ("s" ++ p)), $(id ("h" ++ p))⟩ := Go.al $(id ("n" ++ p)) hu; clear hu; tm_at "rd"))
    | ["tp0", p] => `(tactic| (refine ⟨_, _, rfl, .inl ⟨by tm_at "up", fun $(id p) $(id ("n" ++ p)) => ?_⟩⟩; generalize hu : upd _ $(id p) _ = $(id ("H" ++ p)); obtain ⟨$(id ("s" ++ p)), $(id ("h" ++ p))⟩ := Go.al $(id ("n" ++ p)) hu; clear hu; tm_at "rd"))
    | ["ls", p] => `(tactic| (refine ⟨_, _, rfl, by tm_at "sq", fun $(id p) $(id ("n" ++ p)) => ?_⟩; generalize hu : upd _ $(id p) _ = $(id ("H" ++ p)); obtain ⟨$(id ("s" ++ p)), $(id ("h" ++ p))⟩ := Go.al $(id ("n" ++ p)) hu; clear hu; tm_at "rd"))
    | ["ls0", p] => `(tactic| (refine ⟨_, _, rfl, by tm_at "sq", fun $(id p) $(id ("n" ++ p)) => ?_⟩; generalize hu : upd _ $(id p) _ = $(id ("H" ++ p)); obtain ⟨$(id ("s" ++ p)), $(id ("h" ++ p))⟩ := Go.al $(id ("n" ++ p)) hu; clear hu; tm_at "rd"))
    | ["tf", p] => `(tactic| (refine ⟨_, _, rfl, by tm_at "up", fun $(id p) $(id ("o" ++ p)) $(id ("n" ++ p)) $(id ("d" ++ p)) => ?_⟩; generalize hu : upd _ $(id p) _ = $(id ("H" ++ p)); obtain ⟨$(id ("s" ++ p)), $(id ("h" ++ p))⟩ := Go.alF $(id ("n" ++ p)) $(id ("d" ++ p)) hu; clear hu; tm_at "rd"))
    | ["alF", p] => `(tactic| (refine ⟨by tm_at "sz", fun $(id p) $(id ("o" ++ p)) $(id ("n" ++ p)) $(id ("d" ++ p)) => ?_⟩; generalize hu : upd _ $(id p) _ = $(id ("H" ++ p)); obtain ⟨$(id ("s" ++ p)), $(id ("h" ++ p))⟩ := Go.alF $(id ("n" ++ p)) $(id ("d" ++ p)) hu; clear hu; tm_at "rd"))
    | ["bare", k] => `(tactic| (refine fun $(id k) $(id ("d" ++ k)) $(id ("n" ++ k)) $(id ("nd" ++ k)) $(id ("ne" ++ k)) => ?_; generalize hu : upd (upd _ $(id ("d" ++ k)) _) $(id k) _ = $(id ("H" ++ k)); obtain ⟨$(id ("s" ++ k)), $(id ("h" ++ k))⟩ := Go.bare $(id ("n" ++ k)) $(id ("nd" ++ k)) $(id ("ne" ++ k)) hu; clear hu; walk_at "rd"))
    | ["me"] => `(tactic| (refine ⟨_, _, _, rfl, by tm_at "up", rfl, ?_⟩; walk_at "rd"))
    | ["star"] => `(tactic| ((first | refine ⟨_, _, rfl, .inl (by tm_at "up"), ?_⟩ | refine ⟨_, _, rfl, .inr (by tm_at "up"), ?_⟩ | fail "star"); walk_at "rd"))
    | ["ap0"] => `(tactic| (refine ⟨.inl ⟨rfl, _, by tm_at "up"⟩, ?_⟩; tm_at "rd"))
    | ["ap"] => `(tactic| refine ⟨_, _, _, rfl, rfl, by tm_at "up", by tm_at "sz", ?_⟩)
    | ["un", n] => match n with
      | "2" => `(tactic| (refine ⟨_, _, rfl, by tm_at "up", rfl, _, _, rfl, _, _, rfl, rfl, ?_⟩; tm_at "rd"))
      | _ => `(tactic| (refine ⟨_, _, rfl, by tm_at "up", rfl, _, _, rfl, _, _, rfl, _, _, rfl, rfl, ?_⟩; tm_at "rd"))
    | _ => Lean.Macro.throwUnsupported
/-! ### parse_value -/
/-- a value of an assignment -/
inductive Va
  | num (i : Int)
  | frac (a b : Int)
  | let (z : Str)
def VaAt (H : Hp) (v : V) : Va → Prop
  | .num i => v = .int i
  | .frac a b => ∃ p, v = .ref p ∧ H p = some (.tup [.int a, .int b])
  | .let z => v = .str z
theorem VaAt.same {H H' : Hp} {v : V} {a : Va} (h : VaAt H v a) (s : Same H H') : VaAt H' v a := by
  cases a with
  | num i => exact h
  | frac a b =>
    obtain ⟨p, e, h⟩ := h
    exact ⟨p, e, s p _ h⟩
  | «let» z => exact h
def okVal (w z : Str) : Bool :=
  if w = Str.ofString "bits" then okSmall 1 z else if w = Str.ofString "rows" then okSmall 2 z else if w = Str.ofString "lines" then okFrac z else if w = Str.ofString "words" then okLet z else okNum (tl z)
def valOf (w z : Str) : Va :=
  if w = Str.ofString "lines" then .frac (fracOf z).1 (fracOf z).2 else if w = Str.ofString "words" then .let z else .num (numOf (tl z))
section
variable {P : Program} {w : World} {K : PySem.W.Frag} {mg : Str → Option Value} {base : Heap}
@[irreducible] def spValue (C : Addr) : Sp := fun vs H Q E => ∃ (x z : Str) (i : Int), vs = [.str x, .str z, .int i] ∧ z.length ≤ 640 ∧ (∀ d ∈ tl z, d < 0x110000) ∧ i.natAbs.log2 < 1920 ∧ (okVal x z = true → ∀ v H', Same H H' → VaAt H' v (valOf x z) → Q v H') ∧
  (okVal x z = false → ∀ d H', Same H H' → H' d = some (.xd [(("line" : Str), .int i)]) → E (.ref C) (some d) H')
theorem ok_value {f C : Addr} {fd : FuncData} (F : FunD K "parse_value" "parse_value" (defArgs s_parse_value) (defBody s_parse_value) (defScope s_parse_value) [] [(("line" : Str), V.int 1)] f fd) (C__parse_small : Px.CalE P w K mg base "_parse_small" 4 ["text", "highest", "line"] (spSmall C))
    (C__parse_fraction : Px.CalE P w K mg base "_parse_fraction" 4 ["text", "line"] (spFrac C)) (C__parse_letters : Px.CalE P w K mg base "_parse_letters" 3 ["text", "line"] (spLetters C)) (CN_parse_number : Rc.CalN P w K mg base "parse_number" "line" 1 3 ["text", "line"] (.int 1) (spParseNumber C)) : FnOk P w K mg base (L2.CX P w) 5 f fd ["word", "text", "line"] (spValue C) := by
  refine F.ok sc_parse_value (fun vs H Q E h => ?_) (fun cdv A outer s H vs Q E hr h => ?_)
  · unfold spValue at h
    obtain ⟨x, z, i, rfl, _⟩ := h
    rfl
  · unfold spValue at h
    obtain ⟨x, z, i, rfl, hz, hd, hi, q1, q2⟩ := h
    refine ⟨_, (pss_one (Mc.ps_match (pv 0) (Mc.pm_str (pss_one (ps_ret (pe_calE C__parse_small (takes_of rfl rfl rfl rfl) (hr.mono (by decide)) (pa_cons (pv 1) (pa_cons pe_int (pa_cons (pv 2) pa_nil)))))) (Mc.pm_str (pss_one (ps_ret (pe_calE C__parse_small (takes_of rfl rfl rfl rfl) (hr.mono (by decide)) (pa_cons (pv 1) (pa_cons pe_int (pa_cons (pv 2) pa_nil)))))) (Mc.pm_str (pss_one (ps_ret (pe_calE C__parse_fraction (takes_of rfl rfl rfl rfl) (hr.mono (by decide)) (pa_cons (pv 1) (pa_cons (pv 2) pa_nil))))) (Mc.pm_str (pss_one (ps_ret (pe_calE C__parse_letters (takes_of rfl rfl rfl rfl) (hr.mono (by decide)) (pa_cons (pv 1) (pa_cons (pv 2) pa_nil))))) (Mc.pm_any (pss_one (ps_ret (Rc.pe_calNK CN_parse_number (takes_of rfl rfl rfl rfl) (hr.mono (by decide)) (pa_cons (pv 1) pa_nil) (pk_cons (pv 2) pk_nil))))))))))), ?_⟩
    refine ⟨_, rfl, x, rfl, ?_⟩
    have cs : ∀ {a : Str} {D : Ends} {σ : L2.St} {tb : TS} {tr : Str → TS}, (x = a → tb D σ H) → (x ≠ a → tr x D σ H) → Mc.mStr a tb tr x D σ H := fun {a D σ tb tr} h1 h2 => by
      unfold Mc.mStr
      by_cases e : x = a
      · rw [if_pos e]
        exact h1 e
      · rw [if_neg e]
        exact h2 e
    unfold okVal valOf at q1
    unfold okVal at q2
    refine cs (fun e => ?_) (fun e => ?_)
    · subst e
      walk_at "rd"
      unfold spSmall
      refine ⟨z, 1, i, rfl, hz, hi, fun hk H1 s1 => ?_, fun hk d H1 s1 hd => ?_⟩
      · exact q1 hk _ H1 s1 rfl
      · exact q2 hk d H1 s1 hd
    · rw [if_neg e] at q1 q2
      refine cs (fun e2 => ?_) (fun e2 => ?_)
      · subst e2
        walk_at "rd"
        unfold spSmall
        refine ⟨z, 2, i, rfl, hz, hi, fun hk H1 s1 => ?_, fun hk d H1 s1 hd => ?_⟩
        · exact q1 hk _ H1 s1 rfl
        · exact q2 hk d H1 s1 hd
      · rw [if_neg e2] at q1 q2
        refine cs (fun e3 => ?_) (fun e3 => ?_)
        · subst e3
          walk_at "rd"
          unfold spFrac
          refine ⟨z, i, rfl, hz, hi, fun hk p H1 s1 _ hp => ?_, fun hk d H1 s1 hd => ?_⟩
          · exact q1 hk _ H1 s1 ⟨p, rfl, hp⟩
          · exact q2 hk d H1 s1 hd
        · rw [if_neg e3] at q1 q2
          rw [if_neg e3] at q1
          refine cs (fun e4 => ?_) (fun e4 => ?_)
          · subst e4
            walk_at "rd"
            unfold spLetters
            refine ⟨z, i, rfl, hz, hd, hi, fun hk H1 s1 => ?_, fun hk d H1 s1 hd => ?_⟩
            · exact q1 hk _ H1 s1 rfl
            · exact q2 hk d H1 s1 hd
          · rw [if_neg e4] at q1 q2
            rw [if_neg e4] at q1
            walk_at "rd"
            refine ⟨z, i, rfl, hz, hi, fun hk H1 s1 => ?_, fun hk d H1 s1 hd => ?_⟩
            · exact q1 hk _ H1 s1 rfl
            · exact q2 hk d H1 s1 hd
end
end K06
namespace K06
open PySem PySem.Spec PyProof.Rows L2 Bx TL Dx Sup Er NdefX
open Px (pe_calE)
local macro_rules | `(tactic| walk_at "rd") => `(tactic| repeat (first | refine ⟨rfl, ?_⟩ | refine ⟨_, rfl, ?_⟩ | refine ⟨_, _, rfl, rfl, ?_⟩ | refine ⟨⟨_, rfl⟩, ?_⟩))
local macro_rules
  | `(tactic| tm_at $s:str) => do
    let id (x : String) := Lean.mkIdent (Lean.Name.mkSimple x)
    match s.getString.splitOn " " with
    | ["rd"] => `(tactic| walk_at "rd")
    | ["sz"] => `(tactic| first | exact sz (by decide) | exact szl (by decide) | exact sz (by show _ ≤ 100000; decide) | ((first | refine sz ?_ | refine szl ?_); (try simp only [List.length_map, List.length_append, List.length_cons, List.length_nil, List.length_take, List.length_drop]); omega) | fail "sz: no bound")
    | ["gn", p, h] => `(tactic| (generalize hu : upd _ $(id p) _ = $(id ("H" ++ p)); obtain ⟨$(id ("s" ++ p)), $(id h)⟩ := Go.al $(id ("n" ++ p)) hu; clear hu))
    | ["al", p] => `(tactic| (refine ⟨by tm_at "sz", fun $(id p) $(id ("n" ++ p)) => ?_⟩; generalize hu : upd _ $(id p) _ = $(id ("H" ++ p)); obtain ⟨$(id ("s" ++ p)), $(id ("h" ++ p))⟩ := Go.al $(id ("n" ++ p)) hu; clear hu; tm_at "rd"))
    | ["al0", p] => `(tactic| (refine ⟨by tm_at "sz", fun $(id p) $(id ("n" ++ p)) => ?_⟩; generalize hu : upd _ $(id p) _ = $(id ("H" ++ p)); obtain ⟨$(id ("s" ++ p)), $(id ("h" ++ p))⟩ := Go.al $(id ("n" ++ p)) hu; clear hu; tm_at "rd"))
    | ["new", p] => `(tactic| (refine fun $(id p) $(id ("n" ++ p)) => ?_; generalize hu : upd _ $(id p) _ = $(id ("H" ++ p)); obtain ⟨$(id ("s" ++ p)), $(id ("h" ++ p))⟩ := Go.al $(id ("n" ++ p)) hu; clear hu; tm_at "rd"))
    | ["new0", p] => `(tactic| (refine fun $(id p) $(id ("n" ++ p)) => ?_; generalize hu : upd _ $(id p) _ = $(id ("H" ++ p)); obtain ⟨$(id ("s" ++ p)), $(id ("h" ++ p))⟩ := Go.al $(id ("n" ++ p)) hu; clear hu; tm_at "rd"))
    | ["up"] => `(tactic| first
        | assumption | exact sq (by assumption) | exact sqt (by assumption) | exact PlT.sq (by assumption)
        | (refine' Bx.Same.tup (by assumption) ?hh; (case hh => tm_at "up")) | (refine' Same.seq (by assumption) ?hh; (case hh => tm_at "up")) | (refine' Go.get (by assumption) ?hh; (case hh => tm_at "up")) | (refine' dpAll_same (by assumption) ?hh; (case hh => tm_at "up")) | (refine' dp_same (by assumption) ?hh; (case hh => tm_at "up")) | (refine' PlT.same (by assumption) ?hh; (case hh => tm_at "up")) | (refine' Go.srcS (by assumption) ?hh; (case hh => tm_at "up"))
        | (refine' Go.tupB (s := _) (by assumption) (by assumption) ?hh; (case hh => tm_at "up")) | (refine' Go.dkB (s := _) (by assumption) (by assumption) ?hh; (case hh => tm_at "up")) | (refine' Go.insB (s := _) (by assumption) (by assumption) ?hh; (case hh => tm_at "up")) | (refine' Go.pltB (s := _) (by assumption) (by assumption) ?hh; (case hh => tm_at "up"))
        | (refine' Go.getB (by assumption) (by first | assumption | exact Ne.symm (by assumption)) ?hh; (case hh => tm_at "up"))
        | (refine' sq ?hh; (case hh => tm_at "raw")) | (refine' sqt ?hh; (case hh => tm_at "raw")) | (refine' PlT.sq ?hh; (case hh => tm_at "raw")) | fail "up: no fact")
    | ["raw"] => `(tactic| first
        | assumption | (refine' Go.get (by assumption) ?hh; (case hh => tm_at "raw")) | (refine' PlT.same (by assumption) ?hh; (case hh => tm_at "raw")) | (refine' Go.pltB (s := _) (by assumption) (by assumption) ?hh; (case hh => tm_at "raw")) | (refine' Go.getB (by assumption) (by first | assumption | exact Ne.symm (by assumption)) ?hh; (case hh => tm_at "raw")) | fail "raw: no fact")
    | ["sq"] => `(tactic| first | exact .inl (by tm_at "up") | exact .inr (by tm_at "up") | fail "sq: no fact")
    | ["ix", j] => `(tactic| (refine ⟨_, _, _, _, rfl, rfl, by tm_at "up", by exact atI_nat (j := $(Lean.Syntax.mkNumLit j)) rfl, ?_⟩; tm_at "rd"))
    | ["ixh", h] => `(tactic| (refine ⟨_, _, _, _, rfl, rfl, by tm_at "up", by first | exact Go.at_mapV $(id h) | exact Go.at_mapZ $(id h) | exact atI_nat $(id h) | exact Go.at_nat0 $(id h), ?_⟩; tm_at "rd"))
    | ["len"] => `(tactic| (refine ⟨_, _, rfl, by tm_at "sq", ?_⟩; (try rw [List.length_map]); tm_at "rd"))
    | ["tp", p] => `(tactic| (refine ⟨_, _, rfl, .inl ⟨by tm_at "up", fun $(id p) $(id ("n" ++ p)) => ?_⟩⟩; generalize hu : upd _ $(id p) _ = $(id ("H" ++ p)); obtain ⟨$(id ("s" ++ p)), $(id ("h" ++ p))⟩ := Go.al $(id ("n" ++ p)) hu; clear hu; tm_at "rd"))
    | ["tp0", p] => `(tactic| (refine ⟨_, _, rfl, .inl ⟨by tm_at "up", fun $(id p) $(id ("n" ++ p)) => ?_⟩⟩; generalize hu : upd _ $(id p) _ = $(id ("H" ++ p)); obtain ⟨$(id ("s" ++ p)), $(id ("h" ++ p))⟩ := Go.al $(id ("n" ++ p)) hu; clear hu; tm_at "rd"))
    | ["ls", p] => `(tactic| (refine ⟨_, _, rfl, by tm_at "sq", fun $(id p) $(id ("n" ++ p)) => ?_⟩; generalize hu : upd _ $(id p) _ = $(id ("H" ++ p)); obtain ⟨$(id ("s" ++ p)), $(id ("h" ++ p))⟩ := Go.al $(id ("n" ++ p)) hu; clear hu; tm_at "rd"))
    | ["ls0", p] => `(tactic| (refine ⟨_, _, rfl, by tm_at "sq", fun $(id p) $(id ("n" ++ p)) => ?_⟩; generalize hu : upd _ $(id p) _ = $(id ("H" ++ p)); obtain ⟨$(id ("s" ++ p)), $(id ("h" ++ p))⟩ := Go.al $(id ("n" ++ p)) hu; clear hu; tm_at "rd"))
    | ["tf", p] => `(tactic| (refine ⟨_, _, rfl, by tm_at "up", fun $(id p) $(id ("o" ++ p)) $(id ("n" ++ p)) $(id ("d" ++ p)) => ?_⟩; generalize hu : upd _ $(id p) _ = $(id ("H" ++ p)); obtain ⟨$(id ("s" ++ p)), $(id ("h" ++ p))⟩ := Go.alF $(id ("n" ++ p)) $(id ("d" ++ p)) hu; clear hu; tm_at "rd"))
    | ["alF", p] => `(tactic| (refine ⟨by tm_at "sz", fun $(id p) $(id ("o" ++ p)) $(id ("n" ++ p)) $(id ("d" ++ p)) => ?_⟩; generalize hu : upd _ $(id p) _ = $(id ("H" ++ p)); obtain ⟨$(id ("s" ++ p)), $(id ("h" ++ p))⟩ := Go.alF $(id ("n" ++ p)) $(id ("d" ++ p)) hu; clear hu; tm_at "rd"))
    | ["bare", k] => `(tactic| (refine fun $(id k) $(id ("d" ++ k)) $(id ("n" ++ k)) $(id ("nd" ++ k)) $(id ("ne" ++ k)) => ?_; generalize hu : upd (upd _ $(id ("d" ++ k)) _) $(id k) _ = $(id ("H" ++ k)); obtain ⟨$(id ("s" ++ k)), $(id ("h" ++ k))⟩ := Go.bare $(id ("n" ++ k)) $(id ("nd" ++ k)) $(id ("ne" ++ k)) hu; clear hu; walk_at "rd"))
    | ["me"] => `(tactic| (refine ⟨_, _, _, rfl, by tm_at "up", rfl, ?_⟩; walk_at "rd"))
    | ["star"] => `(tactic| ((first | refine ⟨_, _, rfl, .inl (by tm_at "up"), ?_⟩ | refine ⟨_, _, rfl, .inr (by tm_at "up"), ?_⟩ | fail "star"); walk_at "rd"))
    | ["ap0"] => `(tactic| (refine ⟨.inl ⟨rfl, _, by tm_at "up"⟩, ?_⟩; tm_at "rd"))
    | ["ap"] => `(tactic| refine ⟨_, _, _, rfl, rfl, by tm_at "up", by tm_at "sz", ?_⟩)
    | ["un", n] => match n with
      | "2" => `(tactic| (refine ⟨_, _, rfl, by tm_at "up", rfl, _, _, rfl, _, _, rfl, rfl, ?_⟩; tm_at "rd"))
      | _ => `(tactic| (refine ⟨_, _, rfl, by tm_at "up", rfl, _, _, rfl, _, _, rfl, _, _, rfl, rfl, ?_⟩; tm_at "rd"))
    | _ => Lean.Macro.throwUnsupported
/-! ### format_value, _format_entry -/
theorem call_strV {X : Cx} : CallR X (.type "str") (fun xs H Q => (∃ i : Int, xs = [.int i] ∧ i.natAbs.log2 < 1920 ∧ Q (.str (toString i)) H) ∨ ∃ a : Str, xs = [.str a] ∧ Q (.str a) H) := by
  intro pins s σ H xs us Q I r h
  rcases h with h | h
  · exact call_str_int pins s σ H xs us Q I r h
  · exact SkE.call_str_str pins s σ H xs us Q I r h
/-- the text of a value -/
def txtV : Va → Str
  | .num i => Str.ofString (toString i)
  | .frac a b => if b = 1 then Str.ofString (toString a) else Str.empty ++ Str.ofString (toString a) ++ Str.ofString "/" ++ Str.ofString (toString b)
  | .let z => z
/-- a value that this word has, no greater than the laws draw -/
def OkVa (x : Str) : Va → Prop
  | .num i => x ≠ Str.ofString "lines" ∧ i.natAbs.log2 < 1920
  | .frac a b => x = Str.ofString "lines" ∧ a.natAbs.log2 < 1920 ∧ b.natAbs.log2 < 1920
  | .let z => x ≠ Str.ofString "lines" ∧ z.length ≤ 3000
theorem txtV_len {x : Str} {a : Va} (h : OkVa x a) : (txtV a).length ≤ 5000 := by
  cases a with
  | num i =>
    have := toI_len h.2
    show (Str.ofString (toString i)).length ≤ 5000
    omega
  | frac a b =>
    have h1 := toI_len h.2.1
    have h2 := toI_len h.2.2
    show (if b = 1 then Str.ofString (toString a) else _).length ≤ 5000
    split
    · omega
    · rw [app_len, app_len, app_len, show Str.empty.length = 0 from rfl, show (Str.ofString "/").length = 1 by decide +kernel]
      omega
  | «let» z =>
    have := h.2
    show z.length ≤ 5000
    omega
section
variable {P : Program} {w : World} {K : PySem.W.Frag} {mg : Str → Option Value} {base : Heap}
@[irreducible] def spFormat : Sp := fun vs H Q _ => ∃ (x : Str) (v : V) (a : Va), vs = [.str x, v] ∧ VaAt H v a ∧ OkVa x a ∧ ∀ H', Same H H' → Q (.str (txtV a)) H'
theorem ok_format {f : Addr} {fd : FuncData} (F : Fun K "format_value" "format_value" s_format_value f fd) (m_str : mg "str" = none) : FnOk P w K mg base CX0 1 f fd ["word", "value"] spFormat := by
  refine F.ok sc_format_value (fun vs H Q E h => ?_) (fun cdv A outer s H vs Q E hr h => ?_)
  · unfold spFormat at h
    obtain ⟨x, v, a, rfl, _⟩ := h
    rfl
  · unfold spFormat at h
    obtain ⟨x, v, a, rfl, ha, ho, q⟩ := h
    refine ⟨_, (pss_cons (ps_if (pt_cmpR op_eq (pv 0) pe_str (nomark _))
      (pss_cons (ps_asg (pv 1) (pg_tup rfl (pgs_cons (pg_name (i := 2) sc_format_value.nd rfl (Or.inl rfl)) (pgs_cons (pg_name (i := 3) sc_format_value.nd rfl (Or.inl rfl)) pgs_nil))))
    (pss_one (ps_ret (pe_ifExp (pt_cmpR op_eq (pv 3) pe_int (nomark _)) (pe_callTy (T := "str") call_strV (by rfl) m_str (by decide +kernel) (pa_cons (pv 2) pa_nil)) (pe_joined (.cons (pe_fmt (pv 2)) (.cons pe_str (.cons (pe_fmt (pv 3)) .nil))))))))
      pss_nil)
    (pss_one (ps_ret (pe_callTy (T := "str") call_strV (by rfl) m_str (by decide +kernel) (pa_cons (pv 1) pa_nil))))), ?_⟩
    walk_at "rd"
    by_cases ex : x = Str.ofString "lines"
    · rw [decide_eq_true (show V.str x = V.str (Str.ofString "lines") by rw [ex])]
      cases a with
      | num i => exact absurd ex ho.1
      | «let» z => exact absurd ex ho.1
      | frac i j =>
        obtain ⟨p, rfl, hp⟩ := ha
        obtain ⟨_, h1, h2⟩ := ho
        walk_at "rd"
        tm_at "un 2"
        have q2 := q H (Same.refl H)
        have e : txtV (.frac i j) = if j = 1 then Str.ofString (toString i) else Str.empty ++ Str.ofString (toString i) ++ Str.ofString "/" ++ Str.ofString (toString j) := rfl
        rw [e] at q2
        by_cases e1 : j = 1
        · rw [decide_eq_true (show V.int j = V.int 1 by rw [e1])]
          rw [if_pos e1] at q2
          walk_at "rd"
          exact .inl ⟨i, rfl, h1, q2⟩
        · rw [decide_eq_false (show ¬ V.int j = V.int 1 from fun h => e1 (V.int.inj h))]
          rw [if_neg e1] at q2
          have t1 := toI_len h1
          have t2 := toI_len h2
          have la : (Str.empty ++ Str.ofString (toString i)).length ≤ 1921 := by
            rw [app_len, show Str.empty.length = 0 from rfl]
            omega
          have lb : (Str.empty ++ Str.ofString (toString i) ++ Str.ofString "/").length ≤ 1922 := by
            rw [app_len, show (Str.ofString "/").length = 1 by decide +kernel]
            omega
          walk_at "rd"
          refine .inr ⟨i, rfl, h1, ?_⟩
          refine ⟨_, rfl, sz (Nat.le_trans la (by decide)), ?_⟩
          refine ⟨_, rfl, sz (Nat.le_trans lb (by decide)), ?_⟩
          refine ⟨_, rfl, .inr ⟨j, rfl, h2, ?_⟩⟩
          refine ⟨_, rfl, sz ?_, q2⟩
          rw [app_len]
          omega
    · rw [decide_eq_false (show ¬ V.str x = V.str (Str.ofString "lines") from fun h => ex (V.str.inj h))]
      walk_at "rd"
      cases a with
      | num i =>
        obtain rfl := ha
        exact .inl ⟨i, rfl, ho.2, q H (Same.refl H)⟩
      | «let» z =>
        obtain rfl := ha
        exact .inr ⟨z, rfl, q H (Same.refl H)⟩
      | frac i j => exact absurd ho.1 ex
end
end K06
namespace K06
open PySem PySem.Spec PyProof.Rows L2 Bx TL Dx Sup Er NdefX
open Px (pe_calE)
local macro_rules | `(tactic| walk_at "rd") => `(tactic| repeat (first | refine ⟨rfl, ?_⟩ | refine ⟨_, rfl, ?_⟩ | refine ⟨_, _, rfl, rfl, ?_⟩ | refine ⟨⟨_, rfl⟩, ?_⟩))
local macro_rules
  | `(tactic| tm_at $s:str) => do
    let id (x : String) := Lean.mkIdent (Lean.Name.mkSimple x)
    match s.getString.splitOn " " with
    | ["rd"] => `(tactic| walk_at "rd")
    | ["sz"] => `(tactic| first | exact sz (by decide) | exact szl (by decide) | exact sz (by show _ ≤ 100000; decide) | ((first | refine sz ?_ | refine szl ?_); (try simp only [List.length_map, List.length_append, List.length_cons, List.length_nil, List.length_take, List.length_drop]); omega) | fail "sz: no bound")
    | ["gn", p, h] => `(tactic| (generalize hu : upd _ $(id p) _ = $(id ("H" ++ p)); obtain ⟨$(id ("s" ++ p)), $(id h)⟩ := Go.al $(id ("n" ++ p)) hu; clear hu))
    | ["al", p] => `(tactic| (refine ⟨by tm_at "sz", fun $(id p) $(id ("n" ++ p)) => ?_⟩; generalize hu : upd _ $(id p) _ = $(id ("H" ++ p)); obtain ⟨$(id ("s" ++ p)), $(id ("h" ++ p))⟩ := Go.al $(id ("n" ++ p)) hu; clear hu; tm_at "rd"))
    | ["al0", p] => `(tactic| (refine ⟨by tm_at "sz", fun $(id p) $(id ("n" ++ p)) => ?_⟩; generalize hu : upd _ $(id p) _ = $(id ("H" ++ p)); obtain ⟨$(id ("s" ++ p)), $(id ("h" ++ p))⟩ := Go.al $(id ("n" ++ p)) hu; clear hu; tm_at "rd"))
    | ["new", p] => `(tactic| (refine fun $(id p) $(id ("n" ++ p)) => ?_; generalize hu : upd _ $(id p) _ = $(id ("H" ++ p)); obtain ⟨$(id ("s" ++ p)), $(id ("h" ++ p))⟩ := Go.al $(id ("n" ++ p)) hu; clear hu; tm_at "rd"))
    | ["new0", p] => `(tactic| (refine fun $(id p) $(id ("n" ++ p)) => ?_; generalize hu : upd _ $(id p) _ = $(id ("H" ++ p)); obtain ⟨$(id ("s" ++ p)), $(id ("h" ++ p))⟩ := Go.al $(id ("n" ++ p)) hu; clear hu; tm_at "rd"))
    | ["up"] => `(tactic| first
        | assumption | exact sq (by assumption) | exact sqt (by assumption) | exact PlT.sq (by assumption)
        | (refine' Bx.Same.tup (by assumption) ?hh; (case hh => tm_at "up")) | (refine' Same.seq (by assumption) ?hh; (case hh => tm_at "up")) | (refine' Go.get (by assumption) ?hh; (case hh => tm_at "up")) | (refine' dpAll_same (by assumption) ?hh; (case hh => tm_at "up")) | (refine' dp_same (by assumption) ?hh; (case hh => tm_at "up")) | (refine' PlT.same (by assumption) ?hh; (case hh => tm_at "up")) | (refine' Go.srcS (by assumption) ?hh; (case hh => tm_at "up"))
        | (refine' Go.tupB (s := _) (by assumption) (by assumption) ?hh; (case hh => tm_at "up")) | (refine' Go.dkB (s := _) (by assumption) (by assumption) ?hh; (case hh => tm_at "up")) | (refine' Go.insB (s := _) (by assumption) (by assumption) ?hh; (case hh => tm_at "up")) | (refine' Go.pltB (s := _) (by assumption) (by assumption) ?hh; (case hh => tm_at "up"))
        | (refine' Go.getB (by assumption) (by first | assumption | exact Ne.symm (by assumption)) ?hh; (case hh => tm_at "up"))
        | (refine' sq ?hh; (case hh => tm_at "raw")) | (refine' sqt ?hh; (case hh => tm_at "raw")) | (refine' PlT.sq ?hh; (case hh => tm_at "raw")) | fail "up: no fact")
    | ["raw"] => `(tactic| first
        | assumption | (refine' Go.get (by assumption) ?hh; (case hh => tm_at "raw")) | (refine' PlT.same (by assumption) ?hh; (case hh => tm_at "raw")) | (refine' Go.pltB (s := _) (by assumption) (by assumption) ?hh; (case hh => tm_at "raw")) | (refine' Go.getB (by assumption) (by first | assumption | exact Ne.symm (by assumption)) ?hh; (case hh => tm_at "raw")) | fail "raw: no fact")
    | ["sq"] => `(tactic| first | exact .inl (by tm_at "up") | exact .inr (by tm_at "up") | fail "sq: no fact")
    | ["ix", j] => `(tactic| (refine ⟨_, _, _, _, rfl, rfl, by tm_at "up", by exact atI_nat (j := $(Lean.Syntax.mkNumLit j)) rfl, ?_⟩; tm_at "rd"))
    | ["ixh", h] => `(tactic| (refine ⟨_, _, _, _, rfl, rfl, by tm_at "up", by first | exact Go.at_mapV $(id h) | exact Go.at_mapZ $(id h) | exact atI_nat $(id h) | exact Go.at_nat0 $(id h), ?_⟩; tm_at "rd"))
    | ["len"] => `(tactic| (refine ⟨_, _, rfl, by tm_at "sq", ?_⟩; (try rw [List.length_map]); tm_at "rd"))
    | ["tp", p] => `(tactic| (refine ⟨_, _, rfl, .inl ⟨by tm_at "up", fun $(id p) $(id ("n" ++ p)) => ?_⟩⟩; generalize hu : upd _ $(id p) _ = $(id ("H" ++ p)); obtain ⟨$(id ("s" ++ p)), $(id ("h" ++ p))⟩ := Go.al $(id ("n" ++ p)) hu; clear hu; tm_at "rd"))
    | ["tp0", p] => `(tactic| (refine ⟨_, _, rfl, .inl ⟨by tm_at "up", fun $(id p) $(id ("n" ++ p)) => ?_⟩⟩; generalize hu : upd _ $(id p) _ = $(id ("H" ++ p)); obtain ⟨$(id ("s" ++ p)), $(id ("h" ++ p))⟩ := Go.al $(id ("n" ++ p)) hu; clear hu; tm_at "rd"))
    | ["ls", p] => `(tactic| (refine ⟨_, _, rfl, by tm_at "sq", fun $(id p) $(id ("n" ++ p)) => ?_⟩; generalize hu : upd _ $(id p) _ = $(id ("H" ++ p)); obtain ⟨$(id ("s" ++ p)), $(id ("h" ++ p))⟩ := Go.al $(id ("n" ++ p)) hu; clear hu; tm_at "rd"))
    | ["ls0", p] => `(tactic| (refine ⟨_, _, rfl, by tm_at "sq", fun $(id p) $(id ("n" ++ p)) => ?_⟩; generalize hu : upd _ $(id p) _ = $(id ("H" ++ p)); obtain ⟨$(id ("s" ++ p)), $(id ("h" ++ p))⟩ := Go.al $(id ("n" ++ p)) hu; clear hu; tm_at "rd"))
    | ["tf", p] => `(tactic| (refine ⟨_, _, rfl, by tm_at "up", fun $(id p) $(id ("o" ++ p)) $(id ("n" ++ p)) $(id ("d" ++ p)) => ?_⟩; generalize hu : upd _ $(id p) _ = $(id ("H" ++ p)); obtain ⟨$(id ("s" ++ p)), $(id ("h" ++ p))⟩ := Go.alF $(id ("n" ++ p)) $(id ("d" ++ p)) hu; clear hu; tm_at "rd"))
    | ["alF", p] => `(tactic| (refine ⟨by tm_at "sz", fun $(id p) $(id ("o" ++ p)) $(id ("n" ++ p)) $(id ("d" ++ p)) => ?_⟩; generalize hu : upd _ $(id p) _ = $(id ("H" ++ p)); obtain ⟨$(id ("s" ++ p)), $(id ("h" ++ p))⟩ := Go.alF $(id ("n" ++ p)) $(id ("d" ++ p)) hu; clear hu; tm_at "rd"))
    | ["bare", k] => `(tactic| (refine fun $(id k) $(id ("d" ++ k)) $(id ("n" ++ k)) $(id ("nd" ++ k)) $(id ("ne" ++ k)) => ?_; generalize hu : upd (upd _ $(id ("d" ++ k)) _) $(id k) _ = $(id ("H" ++ k)); obtain ⟨$(id ("s" ++ k)), $(id ("h" ++ k))⟩ := Go.bare $(id ("n" ++ k)) $(id ("nd" ++ k)) $(id ("ne" ++ k)) hu; clear hu; walk_at "rd"))
    | ["me"] => `(tactic| (refine ⟨_, _, _, rfl, by tm_at "up", rfl, ?_⟩; walk_at "rd"))
    | ["star"] => `(tactic| ((first | refine ⟨_, _, rfl, .inl (by tm_at "up"), ?_⟩ | refine ⟨_, _, rfl, .inr (by tm_at "up"), ?_⟩ | fail "star"); walk_at "rd"))
    | ["ap0"] => `(tactic| (refine ⟨.inl ⟨rfl, _, by tm_at "up"⟩, ?_⟩; tm_at "rd"))
    | ["ap"] => `(tactic| refine ⟨_, _, _, rfl, rfl, by tm_at "up", by tm_at "sz", ?_⟩)
    | ["un", n] => match n with
      | "2" => `(tactic| (refine ⟨_, _, rfl, by tm_at "up", rfl, _, _, rfl, _, _, rfl, rfl, ?_⟩; tm_at "rd"))
      | _ => `(tactic| (refine ⟨_, _, rfl, by tm_at "up", rfl, _, _, rfl, _, _, rfl, _, _, rfl, rfl, ?_⟩; tm_at "rd"))
    | _ => Lean.Macro.throwUnsupported
/-! ### _format_entry -/
def entV (nm : Str) (a : Va) : Str := Str.empty ++ nm ++ Str.ofString "=" ++ txtV a
theorem entV_nil {a : Va} : entV (Str.ofString "") a = Str.empty ++ Str.ofString "=" ++ txtV a := by
  unfold entV
  rw [show Str.empty ++ Str.ofString "" = Str.empty by rfl]
section
variable {P : Program} {w : World} {K : PySem.W.Frag} {mg : Str → Option Value} {base : Heap}
@[irreducible] def spEntry : Sp := fun vs H Q _ => ∃ (x nm : Str) (v : V) (a : Va), vs = [.str x, .str nm, v] ∧ VaAt H v a ∧ OkVa x a ∧ nm.length ≤ 3000 ∧ (nm = Str.ofString "" → x ≠ Str.ofString "lines") ∧ ∀ H', Same H H' → Q (.str (entV nm a)) H'
theorem ok_entry {f : Addr} {fd : FuncData} (F : Fun K "_format_entry" "_format_entry" s__format_entry f fd) (C_format_value : Cal P w K mg base "format_value" 1 ["word", "value"] spFormat) : FnOk P w K mg base CX0 2 f fd ["word", "name", "value"] spEntry := by
  refine F.ok sc__format_entry (fun vs H Q E h => ?_) (fun cdv A outer s H vs Q E hr h => ?_)
  · unfold spEntry at h
    obtain ⟨x, nm, v, a, rfl, _⟩ := h
    rfl
  · unfold spEntry at h
    obtain ⟨x, nm, v, a, rfl, ha, ho, hn, hx, q⟩ := h
    have lt := txtV_len ho
    refine ⟨_, (pss_one (ps_ret (pe_ifExp (pt_cmpR op_eq (pv 1) pe_str (nomark _)) (pe_joined (.cons pe_str (.cons (pe_fmt (pv 2)) .nil))) (pe_joined (.cons (pe_fmt (pv 1)) (.cons pe_str (.cons (pe_fmt (pe_cal C_format_value (hr.mono (by decide)) (pa_cons (pv 0) (pa_cons (pv 2) pa_nil)))) .nil))))))), ?_⟩
    walk_at "rd"
    by_cases en : nm = Str.ofString ""
    · rw [decide_eq_true (show V.str nm = V.str (Str.ofString "") by rw [en])]
      walk_at "rd"
      refine ⟨sz (by decide +kernel), ?_⟩
      have q2 := q H (Same.refl H)
      rw [en, entV_nil] at q2
      have l2 : (Str.empty ++ Str.ofString "=" ++ txtV a).length ≤ 6000 := by
        rw [app_len, show (Str.empty ++ Str.ofString "=").length = 1 by decide +kernel]
        omega
      cases a with
      | num i =>
        obtain rfl := ha
        exact ⟨_, rfl, .inr ⟨i, rfl, ho.2, _, rfl, sz (Nat.le_trans l2 (by decide)), q2⟩⟩
      | «let» z =>
        obtain rfl := ha
        exact ⟨_, rfl, .inl ⟨z, rfl, sz (by have := ho.2; omega), _, rfl, sz (Nat.le_trans l2 (by decide)), q2⟩⟩
      | frac i j => exact absurd ho.1 (hx en)
    · rw [decide_eq_false (show ¬ V.str nm = V.str (Str.ofString "") from fun h => en (V.str.inj h))]
      walk_at "rd"
      have la : (Str.empty ++ nm).length ≤ 3000 := by
        rw [app_len, show Str.empty.length = 0 from rfl]
        omega
      have lb : (Str.empty ++ nm ++ Str.ofString "=").length ≤ 3001 := by
        rw [app_len, show (Str.ofString "=").length = 1 by decide +kernel]
        omega
      refine .inl ⟨nm, rfl, sz (by omega), _, rfl, sz (Nat.le_trans la (by decide)), ?_⟩
      refine ⟨_, rfl, sz (Nat.le_trans lb (by decide)), ?_⟩
      walk_at "rd"
      unfold spFormat
      refine ⟨x, v, a, rfl, ha, ho, fun H1 s1 => ?_⟩
      refine .inl ⟨_, rfl, sz (by omega), _, rfl, sz ?_, q H1 s1⟩
      rw [app_len]
      omega
end
end K06
/-! zip(t, l), t a tuple and l a list: a loop or comprehension over it. -/
namespace Zm
open PySem PySem.Spec PyProof.Rows L2 Bx
/-- the tuple at a and the list at b, turn by turn, in new pairs -/
def ItM (K : PySem.W.Frag) (a b : Addr) : It :=
  ⟨fun i H => ∃ (xs ys : List V) (x y : V), SqT K H a xs ∧ SqL K H b ys ∧ xs[i]? = some x ∧ ys[i]? = some y,
    fun i H v H' => ∃ T x y, v = .ref T ∧ H T = none ∧ H' = upd H T (.tup [x, y]) ∧ (∀ xs, SqT K H a xs → xs[i]? = some x) ∧ ∀ ys, SqL K H b ys → ys[i]? = some y,
    fun i H => ∃ xs ys : List V, SqT K H a xs ∧ SqL K H b ys ∧ i = min xs.length ys.length⟩
theorem sep {a b z TI TO i1 i2 : Addr} (D : ZipApart z TI TO i1 i2 a b) : ZipSep2 z TI TO i1 i2 [i1, a] [i2, b] := by
  have n2 : ∀ {c p q : Addr}, c ≠ p → c ≠ q → c ∉ [p, q] := fun h1 h2 h => by
    rcases List.mem_cons.mp h with e | e
    · exact h1 e
    · exact h2 (List.mem_singleton.mp e)
  exact ⟨D.TIz, D.TOz, D.TITO, D.TIi1, by simp, n2 D.i1z.symm D.l1z.symm, n2 D.TOi1 D.l1TO.symm, D.TIi2, by simp, n2 D.i2z.symm D.l2z.symm, n2 D.TOi2 D.l2TO.symm, n2 D.i12 D.l2i1.symm, n2 D.i12.symm D.l1i2.symm⟩
theorem five {c z TI TO i1 i2 : Addr} (h : c ∈ [z, TI, TO, i1, i2]) : c = z ∨ c = TI ∨ c = TO ∨ c = i1 ∨ c = i2 := by simpa using h
theorem turnM {P : Program} {w : World} {K : PySem.W.Frag} {elts : List Expr} {kk : Nat} {tpos : Pos} {a b z TI TO i1 i2 : Addr} (D : ZipApart z TI TO i1 i2 a b) :
    Turn P w K (.Tuple elts kk tpos) (ItM K a b) [z, TI, TO, i1, i2] z (fun i h => IsZip h z TI TO .none ∧ IsPair h TI (.ref i1) (.ref i2) ∧ (∃ x y, IsPair h TO x y) ∧ h.IsTupleIter i1 a i ∧ h.IsListIter i2 b i) where
  mem := by simp
  obj := fun i h st c hc => by
    obtain ⟨e0, e1, ⟨x, y, e2⟩, ⟨o1, e3, _, d1⟩, ⟨o2, e4, _, d2⟩⟩ := st
    rcases five hc with rfl | rfl | rfl | rfl | rfl
    · exact ⟨_, e0, fun v q => nomatch q⟩
    · exact ⟨_, e1, fun v q => nomatch q⟩
    · exact ⟨_, e2, fun v q => nomatch q⟩
    · exact ⟨o1, e3, fun v q => by rw [d1] at q; cases q⟩
    · exact ⟨o2, e4, fun v q => by rw [d2] at q; cases q⟩
  keep := fun i h h' st k => by
    obtain ⟨e0, e1, ⟨x, y, e2⟩, e3, e4⟩ := st
    exact ⟨k z (by simp) _ e0, k TI (by simp) _ e1, ⟨x, y, k TO (by simp) _ e2⟩, e3.at fun o q => k i1 (by simp) o q, e4.at fun o q => k i2 (by simp) o q⟩
  item := by
    intro X hP hw hK hc i pins s σ H E I hf st hg
    subst hP hw hK
    obtain ⟨e0, e1, ⟨x0, y0, e2⟩, e3, e4⟩ := st
    obtain ⟨xs, ys, x, y, hqx, hqy, hx, hy⟩ := hg
    obtain ⟨its, rv, p, _⟩ := I.tuple hqx
    obtain ⟨its2, rv2, p2, _⟩ := I.list hqy
    obtain ⟨u, hu, ru⟩ := rv.get hx
    obtain ⟨u2, hu2, ru2⟩ := rv2.get hy
    have zl : z < s.heap.objs.size := Heap.lt_size e0
    have hh : X.A.handled = none := I.ok.hd hc
    have D1 := Draws.tuple (prog := X.prog) (w := X.w) (A := X.A.in1) (show X.A.in1.handled = none from hh) i1 a D.l1i1 its.toArray
    have D2 := Draws.list (prog := X.prog) (w := X.w) (A := X.A.in1) (show X.A.in1.handled = none from hh) i2 b D.l2i2 its2.toArray
    have k1 : i < its.toArray.size := by have := (List.getElem?_eq_some_iff.mp hu).1; simpa using this
    have k2 : i < its2.toArray.size := by have := (List.getElem?_eq_some_iff.mp hu2).1; simpa using this
    refine wpAny_pyNext_zipD2_item (sep D) D1 D2 e0 e1 e2 ⟨e3, p⟩ ⟨e4, p2.isList⟩ k1 k2 fun x1 x2 h' tk g1 g2 z' TO' st1 st2 hT hsz hk => ?_
    obtain rfl : x1 = u := Option.some.inj (g1.symm.trans (by simpa using hu))
    obtain rfl : x2 = u2 := Option.some.inj (g2.symm.trans (by simpa using hu2))
    refine ⟨_, rfl, wpAny_letOwnedTupleGo_zip (s := { s with heap := h', toks := tk }) z' fun h'' z'' sb => ?_⟩
    have hT2 : h''.get? s.heap.objs.size = some { cls := .type "tuple", data := .seq #[x1, x2] } := (sb.2 _ (Nat.ne_of_gt zl)).trans hT
    have new : ObjOk X.prog X.w (upd H s.heap.objs.size (.tup [x, y])) h'' s.heap.objs.size (.tup [x, y]) :=
      ⟨by show 2 ≤ sizeLine; decide, [x1, x2], .cons ru (.cons ru2 .nil), ⟨_, hT2, rfl, _, rfl⟩⟩
    have I1 : Inv X pins σ (upd H s.heap.objs.size (.tup [x, y])) { s with heap := h'', toks := tk } :=
      I.turnedNew (t' := tk) (ch := [z, TI, TO, i1, i2]) (fun c o hb q => (sb.2 c (fun q' => hb (by simp [q']))).trans (hk c o (fun q' => hb (by simp [q'])) (fun q' => hb (by simp [q'])) (fun q' => hb (by simp [q'])) (fun q' => hb (by simp [q'])) q)) hf (Nat.le_refl _) new
    refine ⟨.ref s.heap.objs.size, _, I1, rfl, ⟨_, x, y, rfl, I.hok.fresh (Nat.le_refl _), rfl, fun l hl => by rw [I.tuple_inj hl hqx]; exact hx, fun l hl => by rw [I.list_inj hl hqy]; exact hy⟩, ⟨z'', ?_, ⟨x1, x2, ?_⟩, ?_, ?_⟩, fun c hcm => ?_⟩
    · exact (sb.2 _ D.TIz).trans (hk _ _ D.TIz D.TITO D.TIi1 D.TIi2 e1)
    · exact (sb.2 _ D.TOz).trans TO'
    · exact st1.1.at fun o q => (sb.2 _ D.i1z).trans q
    · exact st2.1.at fun o q => (sb.2 _ D.i2z).trans q
    · have hlt : c < s.heap.objs.size := by
        rcases five hcm with q | q | q | q | q
        · rw [q]; exact zl
        · rw [q]; exact Heap.lt_size e1
        · rw [q]; exact Heap.lt_size e2
        · rw [q]; obtain ⟨_, e, _⟩ := e3; exact Heap.lt_size e
        · rw [q]; obtain ⟨_, e, _⟩ := e4; exact Heap.lt_size e
      rw [upd_ne (Nat.ne_of_lt hlt)]
      exact (hf c hcm).1
  done := by
    intro X hP hw hK hc i pins s σ H E I hf st hg
    subst hP hw hK
    obtain ⟨e0, e1, ⟨x0, y0, e2⟩, e3, e4⟩ := st
    obtain ⟨xs, ys, hqx, hqy, hend⟩ := hg
    obtain ⟨its, rv, p, _⟩ := I.tuple hqx
    obtain ⟨its2, rv2, p2, _⟩ := I.list hqy
    have l1 := rv.length
    have l2 := rv2.length
    have hh : X.A.handled = none := I.ok.hd hc
    have D1 := Draws.tuple (prog := X.prog) (w := X.w) (A := X.A.in1) (show X.A.in1.handled = none from hh) i1 a D.l1i1 its.toArray
    have D2 := Draws.list (prog := X.prog) (w := X.w) (A := X.A.in1) (show X.A.in1.handled = none from hh) i2 b D.l2i2 its2.toArray
    have k1 : its.toArray.size = xs.length := by simp; omega
    have k2 : its2.toArray.size = ys.length := by simp; omega
    exact wpAny_pyNext_zipD2_end (sep D) D1 D2 e0 e1 e2 ⟨e3, p⟩ ⟨e4, p2.isList⟩ (by omega) (by omega) (by omega) fun h' tk hk => ⟨rfl, I.turnedL (t' := tk) (ch := [z, TI, TO, i1, i2]) (fun c o hb q =>
      hk c o (fun q' => hb (by simp [q'])) (fun q' => hb (by simp [q'])) (fun q' => hb (by simp [q'])) (fun q' => hb (by simp [q'])) q) hf⟩
  self := fun A i s Q E st h => wpAny_pyIter_zip st.1 h
def iZipM (K : PySem.W.Frag) (ta : TA) : TI := fun σ H R => ta σ H fun vs H1 => ∃ a b xs ys, vs = [.ref a, .ref b] ∧ SqT K H1 a xs ∧ SqL K H1 b ys ∧ R (ItM K a b) H1
theorem pi_zipM {X : Cx} {e e2 : Expr} {ta : TA} {p pos tpos : Pos} {elts : List Expr} {kk : Nat} (hg : Gl X "zip") (hm : X.mg "zip" = none) (ha : PA X [e, e2] ta)
    (hs : starEach [e, e2] X.env = (false, eval e X.env) :: starEach [e2] X.env := by rfl) (hpl : (backTo pos (starEach [e2] X.env)).any (·.1) = false := by rfl) :
    PI X (.Tuple elts kk tpos) (.Call (.Name "zip" p) [e, e2] [] pos) (iZipM X.K ta) := by
  refine ⟨fun pins s σ H R I h => ?_⟩
  refine Call_ (ld_blt I hg hm PyProof.Rows.boot_zip (PyProof.Rows.callWith_type1 (thn (ha.run pos pins s σ H _ I h) fun us s1 ⟨vs, H1, I1, r1, q1⟩ => ?_) hs hpl))
  obtain ⟨a, b, xs, ys, rfl, hqx, hqy, q⟩ := q1
  obtain ⟨u, v, rfl, r2, r3⟩ : ∃ u v, us = [u, v] ∧ RelV (.ref a) u ∧ RelV (.ref b) v := by
    cases r1 with
    | cons r rr =>
      cases rr with
      | cons r' rr =>
        cases rr
        exact ⟨_, _, rfl, r, r'⟩
  cases r2
  cases r3
  obtain ⟨its, rv, p1, _⟩ := I1.tuple hqx
  obtain ⟨its2, rv2, p2, _⟩ := I1.list hqy
  obtain ⟨o1, ho1, _⟩ := id p1
  refine zip_begins2 (begins_tuple a its.toArray) (begins_list b its2.toArray) p1 p2.isList fun h' hz hTI hTO g1 g2 hsz hk => wpAny_pyIter_zip hz ?_
  have I2 : Inv X pins σ H1 { s1 with heap := h' } := I1.kept (t' := s1.toks) hk
  refine ⟨s1.heap.objs.size + 4, [s1.heap.objs.size + 4, s1.heap.objs.size + 2, s1.heap.objs.size + 3, s1.heap.objs.size, s1.heap.objs.size + 1], _, _, H1, rfl, I2, turnM (PySem.W.ktu_apart s1.heap.objs.size a b (Heap.lt_size ho1) p2.lt), ⟨hz, hTI, ⟨_, _, hTO⟩, ⟨_, g1, rfl, rfl⟩, ⟨_, g2, rfl, rfl⟩⟩, fun c hcm => ?_, q⟩
  have hle : s1.heap.objs.size ≤ c := by
    rcases five hcm with z | z | z | z | z <;> rw [z] <;> omega
  exact I1.fpOk hle (I1.hok.fresh hle)
theorem walk_zipM {K : PySem.W.Frag} {a b : Addr} {xs ys : List V} {n : Nat} (hn : n = min xs.length ys.length) : Walk (ItM K a b) n (fun H => SqT K H a xs ∧ SqL K H b ys) (YPair (fun i => xs[i]?) (fun i => ys[i]?)) := by
  subst hn
  refine ⟨fun i _ hi q => ?_, fun _ q => ⟨xs, ys, q.1, q.2, rfl⟩, fun i H v H' _ q y => ?_⟩
  · have h1 : i < xs.length := by omega
    have h2 : i < ys.length := by omega
    exact ⟨xs, ys, xs[i], ys[i], q.1, q.2, by simp [h1], by simp [h2]⟩
  · obtain ⟨T, x, z, g1, g2, g3, g4, g5⟩ := y
    exact ⟨T, x, z, g1, g2, g3, g4 xs q.1, g5 ys q.2⟩
end Zm
/-! A dict comprehension over any walk. -/
namespace Dw
open PySem PySem.Spec PyProof.Rows L2
section
variable {J : It} {n : Nat} {G : Hp → Prop} {Y : Nat → Hp → V → Hp → Prop}
/-- Pv by the turn and the heap, the new dict at D within -/
theorem dc_walk (w : Walk J n G Y) {g : TG} {tt : TT} {tk tv : TE} {vs : List Nat} {σ : L2.St} {H1 : Hp} {D : Addr} {Qd : Hp → Prop} (Pv : Nat → Hp → Prop) (z0 : Pv 0 (upd H1 D (.dK []))) (zG : ∀ i H, i ≤ n → Pv i H → G H)
    (zs : ∀ i x H H', i < n → Pv i H → Y i H x H' → g x (wipe σ vs) H' fun σ2 H2 => wipe σ2 vs = wipe σ vs ∧ tt σ2 H2 fun b H3 =>
      if b = true then tk σ2 H3 fun y H4 => tv σ2 H4 fun z H5 => ∃ kvs k, y = kV k ∧ H5 D = some (.dK kvs) ∧ kvs.length < sizeLine ∧ Pv (i + 1) (upd H5 D (.dK (putK kvs k z))) else Pv (i + 1) H3) (zd : ∀ H, Pv n H → Qd H) :
    ∃ W : Nat → Nat → Hp → Prop, (∃ m, W 0 m (upd H1 D (.dK []))) ∧ ∀ i m H, W i m H →
      (J.stop i H ∧ Qd H) ∨ (J.go i H ∧ ∃ Nx : Hp → Prop, (∀ H', Nx H' → ∃ m', m' < m ∧ W (i + 1) m' H') ∧ ∀ x H', J.yld i H x H' → g x (wipe σ vs) H' fun σ2 H2 => wipe σ2 vs = wipe σ vs ∧ tt σ2 H2 fun b H3 =>
        if b = true then tk σ2 H3 fun y H4 => tv σ2 H4 fun z H5 => ∃ kvs k, y = kV k ∧ H5 D = some (.dK kvs) ∧ kvs.length < sizeLine ∧ Nx (upd H5 D (.dK (putK kvs k z))) else Nx H3) := by
  refine ⟨fun i m H => i ≤ n ∧ m = n - i ∧ Pv i H, ⟨n, Nat.zero_le n, rfl, z0⟩, fun i m H ⟨hi, hm, p⟩ => ?_⟩
  rcases Nat.lt_or_ge i n with h | h
  · exact .inr ⟨w.goes i H h (zG i H hi p), Pv (i + 1), fun H' p' => ⟨n - (i + 1), by omega, h, rfl, p'⟩, fun x H' y => zs i x H H' h p (w.yields i H x H' h (zG i H hi p) y)⟩
  · obtain rfl : i = n := Nat.le_antisymm hi h
    exact .inl ⟨w.stops H (zG i H hi p), zd H p⟩
end
end Dw
namespace K06
open PySem PySem.Spec PyProof.Rows L2 Bx TL Dx Sup Er NdefX
open Px (pe_calE)
local macro_rules | `(tactic| walk_at "rd") => `(tactic| repeat (first | refine ⟨rfl, ?_⟩ | refine ⟨_, rfl, ?_⟩ | refine ⟨_, _, rfl, rfl, ?_⟩ | refine ⟨⟨_, rfl⟩, ?_⟩))
local macro_rules
  | `(tactic| tm_at $s:str) => do
    let id (x : String) := Lean.mkIdent (Lean.Name.mkSimple x)
    match s.getString.splitOn " " with
    | ["rd"] => `(tactic| walk_at "rd")
    | ["sz"] => `(tactic| first | exact sz (by decide) | exact szl (by decide) | exact sz (by show _ ≤ 100000; decide) | ((first | refine sz ?_ | refine szl ?_); (try simp only [List.length_map, List.length_append, List.length_cons, List.length_nil, List.length_take, List.length_drop]); omega) | fail "sz: no bound")
    | ["gn", p, h] => `(tactic| (generalize hu : upd _ $(id p) _ = $(id ("H" ++ p)); obtain ⟨$(id ("s" ++ p)), $(id h)⟩ := Go.al $(id ("n" ++ p)) hu; clear hu))
    | ["al", p] => `(tactic| (refine ⟨by tm_at "sz", fun $(id p) $(id ("n" ++ p)) => ?_⟩; generalize hu : upd _ $(id p) _ = $(id ("H" ++ p)); obtain ⟨$(id ("s" ++ p)), $(id ("h" ++ p))⟩ := Go.al $(id ("n" ++ p)) hu; clear hu; tm_at "rd"))
    | ["al0", p] => `(tactic| (refine ⟨by tm_at "sz", fun $(id p) $(id ("n" ++ p)) => ?_⟩; generalize hu : upd _ $(id p) _ = $(id ("H" ++ p)); obtain ⟨$(id ("s" ++ p)), $(id ("h" ++ p))⟩ := Go.al $(id ("n" ++ p)) hu; clear hu; tm_at "rd"))
    | ["new", p] => `(tactic| (refine fun $(id p) $(id ("n" ++ p)) => ?_; generalize hu : upd _ $(id p) _ = $(id ("H" ++ p)); obtain ⟨$(id ("s" ++ p)), $(id ("h" ++ p))⟩ := Go.al $(id ("n" ++ p)) hu; clear hu; tm_at "rd"))
    | ["new0", p] => `(tactic| (refine fun $(id p) $(id ("n" ++ p)) => ?_; generalize hu : upd _ $(id p) _ = $(id ("H" ++ p)); obtain ⟨$(id ("s" ++ p)), $(id ("h" ++ p))⟩ := Go.al $(id ("n" ++ p)) hu; clear hu; tm_at "rd"))
    | ["up"] => `(tactic| first
        | assumption | exact sq (by assumption) | exact sqt (by assumption) | exact PlT.sq (by assumption)
        | (refine' Bx.Same.tup (by assumption) ?hh; (case hh => tm_at "up")) | (refine' Same.seq (by assumption) ?hh; (case hh => tm_at "up")) | (refine' Go.get (by assumption) ?hh; (case hh => tm_at "up")) | (refine' dpAll_same (by assumption) ?hh; (case hh => tm_at "up")) | (refine' dp_same (by assumption) ?hh; (case hh => tm_at "up")) | (refine' PlT.same (by assumption) ?hh; (case hh => tm_at "up")) | (refine' Go.srcS (by assumption) ?hh; (case hh => tm_at "up"))
        | (refine' Go.tupB (s := _) (by assumption) (by assumption) ?hh; (case hh => tm_at "up")) | (refine' Go.dkB (s := _) (by assumption) (by assumption) ?hh; (case hh => tm_at "up")) | (refine' Go.insB (s := _) (by assumption) (by assumption) ?hh; (case hh => tm_at "up")) | (refine' Go.pltB (s := _) (by assumption) (by assumption) ?hh; (case hh => tm_at "up"))
        | (refine' Go.getB (by assumption) (by first | assumption | exact Ne.symm (by assumption)) ?hh; (case hh => tm_at "up"))
        | (refine' sq ?hh; (case hh => tm_at "raw")) | (refine' sqt ?hh; (case hh => tm_at "raw")) | (refine' PlT.sq ?hh; (case hh => tm_at "raw")) | fail "up: no fact")
    | ["raw"] => `(tactic| first
        | assumption | (refine' Go.get (by assumption) ?hh; (case hh => tm_at "raw")) | (refine' PlT.same (by assumption) ?hh; (case hh => tm_at "raw")) | (refine' Go.pltB (s := _) (by assumption) (by assumption) ?hh; (case hh => tm_at "raw")) | (refine' Go.getB (by assumption) (by first | assumption | exact Ne.symm (by assumption)) ?hh; (case hh => tm_at "raw")) | fail "raw: no fact")
    | ["sq"] => `(tactic| first | exact .inl (by tm_at "up") | exact .inr (by tm_at "up") | fail "sq: no fact")
    | ["ix", j] => `(tactic| (refine ⟨_, _, _, _, rfl, rfl, by tm_at "up", by exact atI_nat (j := $(Lean.Syntax.mkNumLit j)) rfl, ?_⟩; tm_at "rd"))
    | ["ixh", h] => `(tactic| (refine ⟨_, _, _, _, rfl, rfl, by tm_at "up", by first | exact Go.at_mapV $(id h) | exact Go.at_mapZ $(id h) | exact atI_nat $(id h) | exact Go.at_nat0 $(id h), ?_⟩; tm_at "rd"))
    | ["len"] => `(tactic| (refine ⟨_, _, rfl, by tm_at "sq", ?_⟩; (try rw [List.length_map]); tm_at "rd"))
    | ["tp", p] => `(tactic| (refine ⟨_, _, rfl, .inl ⟨by tm_at "up", fun $(id p) $(id ("n" ++ p)) => ?_⟩⟩; generalize hu : upd _ $(id p) _ = $(id ("H" ++ p)); obtain ⟨$(id ("s" ++ p)), $(id ("h" ++ p))⟩ := Go.al $(id ("n" ++ p)) hu; clear hu; tm_at "rd"))
    | ["tp0", p] => `(tactic| (refine ⟨_, _, rfl, .inl ⟨by tm_at "up", fun $(id p) $(id ("n" ++ p)) => ?_⟩⟩; generalize hu : upd _ $(id p) _ = $(id ("H" ++ p)); obtain ⟨$(id ("s" ++ p)), $(id ("h" ++ p))⟩ := Go.al $(id ("n" ++ p)) hu; clear hu; tm_at "rd"))
    | ["ls", p] => `(tactic| (refine ⟨_, _, rfl, by tm_at "sq", fun $(id p) $(id ("n" ++ p)) => ?_⟩; generalize hu : upd _ $(id p) _ = $(id ("H" ++ p)); obtain ⟨$(id ("s" ++ p)), $(id ("h" ++ p))⟩ := Go.al $(id ("n" ++ p)) hu; clear hu; tm_at "rd"))
    | ["ls0", p] => `(tactic| (refine ⟨_, _, rfl, by tm_at "sq", fun $(id p) $(id ("n" ++ p)) => ?_⟩; generalize hu : upd _ $(id p) _ = $(id ("H" ++ p)); obtain ⟨$(id ("s" ++ p)), $(id ("h" ++ p))⟩ := Go.al $(id ("n" ++ p)) hu; clear hu; tm_at "rd"))
    | ["tf", p] => `(tactic| (refine ⟨_, _, rfl, by tm_at "up", fun $(id p) $(id ("o" ++ p)) $(id ("n" ++ p)) $(id ("d" ++ p)) => ?_⟩; generalize hu : upd _ $(id p) _ = $(id ("H" ++ p)); obtain ⟨$(id ("s" ++ p)), $(id ("h" ++ p))⟩ := Go.alF $(id ("n" ++ p)) $(id ("d" ++ p)) hu; clear hu; tm_at "rd"))
    | ["alF", p] => `(tactic| (refine ⟨by tm_at "sz", fun $(id p) $(id ("o" ++ p)) $(id ("n" ++ p)) $(id ("d" ++ p)) => ?_⟩; generalize hu : upd _ $(id p) _ = $(id ("H" ++ p)); obtain ⟨$(id ("s" ++ p)), $(id ("h" ++ p))⟩ := Go.alF $(id ("n" ++ p)) $(id ("d" ++ p)) hu; clear hu; tm_at "rd"))
    | ["bare", k] => `(tactic| (refine fun $(id k) $(id ("d" ++ k)) $(id ("n" ++ k)) $(id ("nd" ++ k)) $(id ("ne" ++ k)) => ?_; generalize hu : upd (upd _ $(id ("d" ++ k)) _) $(id k) _ = $(id ("H" ++ k)); obtain ⟨$(id ("s" ++ k)), $(id ("h" ++ k))⟩ := Go.bare $(id ("n" ++ k)) $(id ("nd" ++ k)) $(id ("ne" ++ k)) hu; clear hu; walk_at "rd"))
    | ["me"] => `(tactic| (refine ⟨_, _, _, rfl, by tm_at "up", rfl, ?_⟩; walk_at "rd"))
    | ["star"] => `(tactic| ((first | refine ⟨_, _, rfl, .inl (by tm_at "up"), ?_⟩ | refine ⟨_, _, rfl, .inr (by tm_at "up"), ?_⟩ | fail "star"); walk_at "rd"))
    | ["ap0"] => `(tactic| (refine ⟨.inl ⟨rfl, _, by tm_at "up"⟩, ?_⟩; tm_at "rd"))
    | ["ap"] => `(tactic| refine ⟨_, _, _, rfl, rfl, by tm_at "up", by tm_at "sz", ?_⟩)
    | ["un", n] => match n with
      | "2" => `(tactic| (refine ⟨_, _, rfl, by tm_at "up", rfl, _, _, rfl, _, _, rfl, rfl, ?_⟩; tm_at "rd"))
      | _ => `(tactic| (refine ⟨_, _, rfl, by tm_at "up", rfl, _, _, rfl, _, _, rfl, _, _, rfl, rfl, ?_⟩; tm_at "rd"))
    | _ => Lean.Macro.throwUnsupported
/-! ### _parse_entries -/
def lft (t : Str) : Str := (Txt.partition t (Str.ofString "=")).1
def rgt (t : Str) : Str := (Txt.partition t (Str.ofString "=")).2.2
def hasEq (t : Str) : Bool := decide (61 ∈ tl t)
theorem part_none {z : Str} {c : Nat} (h : c ∉ tl z) : Txt.partition z ⟨#[c]⟩ = (z, ⟨#[]⟩, ⟨#[]⟩) := by
  have e1 : z = ⟨(tl z).toArray⟩ := TL.ext_tl rfl
  have e2 : Txt.partition z ⟨#[c]⟩ = (⟨(tl z).toArray⟩, ⟨#[]⟩, ⟨#[]⟩) := by
    conv => lhs; rw [e1]
    exact SX.partition_none (a := tl z) (b := [c]) (List.cons_ne_nil _ _) (SX.par_head_none h)
  rw [e2, ← e1]
theorem lft_mem {t : Str} {d : Nat} (h : d ∈ tl (lft t)) : d ∈ tl t := by
  by_cases h1 : 61 ∈ tl t
  · obtain ⟨p, q, e, _, e2⟩ := part_has h1
    have e3 : lft t = ⟨p.toArray⟩ := congrArg (·.1) e2
    rw [e3] at h
    rw [e]
    exact List.mem_append_left _ (by simpa using h)
  · have e3 : lft t = t := congrArg (·.1) (part_none h1)
    rwa [e3] at h
theorem rgt_mem {t : Str} {d : Nat} (h : d ∈ tl (rgt t)) : d ∈ tl t := by
  by_cases h1 : 61 ∈ tl t
  · obtain ⟨p, q, e, _, e2⟩ := part_has h1
    have e3 : rgt t = ⟨q.toArray⟩ := congrArg (·.2.2) e2
    rw [e3] at h
    rw [e]
    exact List.mem_append_right _ (List.mem_cons_of_mem _ (by simpa using h))
  · have e3 : rgt t = ⟨#[]⟩ := congrArg (·.2.2) (part_none h1)
    rw [e3] at h
    cases h
theorem lft_len {t : Str} : (lft t).length ≤ t.length := (part_len (z := t) (c := 61)).1
theorem rgt_len {t : Str} (h : hasEq t = true) : (rgt t).length ≤ t.length := (part_len (z := t) (c := 61)).2 (of_decide_eq_true h)
theorem spl1_len {c0 : Nat} : ∀ (l acc p : List Nat), p ∈ TL.spl [c0] 0 acc l → p.length ≤ acc.length + l.length
  | [], acc, p, h => by
    rw [TL.spl_nil] at h
    rw [List.mem_singleton.mp h]
    omega
  | c :: r, acc, p, h => by
    cases e : TL.pre [c0] (c :: r) with
    | true =>
      rw [TL.spl_hit e] at h
      rcases List.mem_cons.mp h with rfl | h
      · omega
      · have := spl1_len r [] p h
        rw [List.length_nil] at this
        rw [List.length_cons]
        omega
    | false =>
      rw [TL.spl_miss e] at h
      have := spl1_len r (acc ++ [c]) p h
      rw [List.length_append] at this
      rw [List.length_cons]
      simp only [List.length_cons, List.length_nil] at this
      omega
theorem small_any {z : Str} (h : z.length ≤ 640) (hd : ∀ d ∈ tl z, d < 0x110000) : smallS z := by
  refine ⟨by omega, fun p hp => ?_, by have := PyProof.Rows.split_le z "."; omega, strOk_of hd⟩
  have e : Txt.split z "." = (TL.spl [46] 0 [] (tl z)).map SX.S := by
    have e1 : z = SX.S (tl z) := TL.ext_tl rfl
    conv => lhs; rw [e1]
    exact SX.split_S (a := tl z) (b := [46]) (List.cons_ne_nil _ _) (by decide)
  rw [e] at hp
  obtain ⟨q, hq, rfl⟩ := List.mem_map.mp hp
  have h1 := spl1_len _ _ _ hq
  rw [SX.S_len]
  have h2 := len_tl z
  rw [List.length_nil] at h1
  omega
def entK (ts : List Str) (us : List V) : List (Key × V) := (ts.map fun t => (Sum.inr (lft t) : Key)).zip us
theorem VaAt.updD {H : Hp} {R : Addr} {kvs : List (Key × V)} {o : HO} {v : V} {a : Va} (h : VaAt H v a) (hR : H R = some (.dK kvs)) : VaAt (upd H R o) v a := by
  cases a with
  | num i => exact h
  | «let» z => exact h
  | frac i j =>
    obtain ⟨p, e, h⟩ := h
    refine ⟨p, e, ?_⟩
    rw [upd_ne (fun e => by rw [e, hR] at h; cases h)]
    exact h
theorem all2_imp {α : Type} {A B : V → α → Prop} {us : List V} {as : List α} (h : Go.All2 A us as) (k : ∀ v a, A v a → B v a) : Go.All2 B us as := by
  induction h with
  | nil => exact .nil
  | cons h _ ih => exact .cons (k _ _ h) ih
theorem all2_snoc {α : Type} {A : V → α → Prop} {us : List V} {as : List α} {v : V} {a : α} (h : Go.All2 A us as) (k : A v a) : Go.All2 A (us ++ [v]) (as ++ [a]) := by
  induction h with
  | nil => exact .cons k .nil
  | cons h _ ih => exact .cons h ih
theorem entK_put {ts : List Str} {us : List V} {t : Str} {v : V} (hl : us.length = ts.length) (hn : lft t ∉ ts.map lft) : putK (entK ts us) (Sum.inr (lft t)) v = entK (ts ++ [t]) (us ++ [v]) := by
  unfold putK
  rw [if_neg]
  · unfold entK
    rw [List.map_append, List.zip_append (by rw [List.length_map, hl])]
    rfl
  · rw [List.any_eq_true]
    rintro ⟨kv, hk, e⟩
    obtain ⟨t2, h2, e2⟩ := List.mem_map.mp (List.of_mem_zip hk).1
    refine hn (List.mem_map.mpr ⟨t2, h2, ?_⟩)
    exact Sum.inr.inj (e2.trans (of_decide_eq_true e))
def okEnts (x : Str) (ts : List Str) : Bool := ts.all hasEq && (namesB (ts.map lft) && ts.all fun t => okVal x (rgt t))
section
variable {P : Program} {w : World} {K : PySem.W.Frag} {mg : Str → Option Value} {base : Heap}
@[irreducible] def spEntries (C : Addr) : Sp := fun vs H Q E => ∃ (x : Str) (a : Addr) (ts : List Str) (i : Int), vs = [.str x, .ref a, .int i] ∧ H a = some (.lst (ts.map V.str)) ∧ ts.length ≤ 1000 ∧ (∀ t ∈ ts, t.length ≤ 640 ∧ ∀ d ∈ tl t, d < 0x110000) ∧ i.natAbs.log2 < 1920 ∧
  (okEnts x ts = true → ∀ p us H', Same H H' → H p = none → H' p = some (.dK (entK ts us)) → Go.All2 (VaAt H') us (ts.map fun t => valOf x (rgt t)) → Q (.ref p) H') ∧
  (okEnts x ts = false → ∀ d H', Same H H' → H' d = some (.xd [(("line" : Str), .int i)]) → E (.ref C) (some d) H')
theorem ok_entries {f C : Addr} {fd : FuncData} (F : Fun K "_parse_entries" "_parse_entries" s__parse_entries f fd) (m_all : mg "all" = none) (m_zip : mg "zip" = none) (CN_parse_names : Rc.CalN P w K mg base "parse_names" "line" 1 4 ["words", "line"] (.int 1) (spParseNames K C)) (CN_parse_value : Rc.CalN P w K mg base "parse_value" "line" 2 5 ["word", "text", "line"] (.int 1) (spValue C))
    (E_InvalidText : Err P w K mg base "InvalidText" C "line" "line" okI 1) : FnOk P w K mg base (L2.CX P w) 6 f fd ["word", "tokens", "line"] (spEntries C) := by
  refine F.okX sc__parse_entries (fun vs H Q E h => ?_) (fun cdv A outer s H vs Q E hr h => ?_)
  · unfold spEntries at h
    obtain ⟨x, a, ts, i, rfl, _⟩ := h
    rfl
  · unfold spEntries at h
    obtain ⟨x, a, ts, i, rfl, ha, hl, ht, hi, q1, q2⟩ := h
    refine ⟨_, (pss_cons (ps_if (pt_not (pt_val (pe_callB (id := "all") (cr_all rfl) (by rfl) m_all (by decide +kernel) (pa_cons (pe_lc (own := [("token", 5)]) (tt := tYes) rfl sc__parse_entries.nd (pi_list (pv 1)) (blkOk_by (N := n__parse_entries) (sc := defScope s__parse_entries) (by decide +kernel)) (fun _ _ _ _ _ => pg_name (i := 5) sc__parse_entries.nd rfl (Or.inl rfl)) (fun _ _ _ _ _ => pts_nil) (fun _ _ _ _ _ => (pe_cmpR op_in_sign pe_str (pv 5) (by rfl)))) pa_nil))))
      (pss_one (ps_raiseE E_InvalidText rfl (takes_of rfl rfl rfl rfl) (hr.mono (by decide)) (pv 2)))
      pss_nil)
    (pss_cons (ps_set (i := 3) sc__parse_entries.nd rfl (Or.inl rfl) (Rc.pe_calNK CN_parse_names (takes_of rfl rfl rfl rfl) (hr.mono (by decide)) (pa_cons (pe_lc (own := [("token", 5)]) (tt := tYes) rfl sc__parse_entries.nd (pi_list (pv 1)) (blkOk_by (N := n__parse_entries) (sc := defScope s__parse_entries) (by decide +kernel)) (fun _ _ _ _ _ => pg_name (i := 5) sc__parse_entries.nd rfl (Or.inl rfl)) (fun _ _ _ _ _ => pts_nil) (fun _ _ _ _ _ => (pe_ix (ix_tupK (K := K) rfl) (pe_partition (pv 5) pe_str) pe_int (fun _ _ => rfl)))) pa_nil) (pk_cons (pv 2) pk_nil)))
    (pss_cons (ps_setLc (i := 4) (own := [("token", 5)]) (tt := tYes) rfl sc__parse_entries.nd rfl rfl (sw_true rfl rfl rfl (by decide +kernel)) (pi_list (pv 1)) (blkOk_by (N := n__parse_entries) (sc := defScope s__parse_entries) (by decide +kernel)) (fun _ _ _ _ _ => pg_name (i := 5) sc__parse_entries.nd rfl (Or.inl rfl)) (fun _ _ _ _ _ => pts_nil) (fun _ _ _ _ _ => (pe_ix (ix_tupK (K := K) rfl) (pe_partition (pv 5) pe_str) pe_int (fun _ _ => rfl))))
    (pss_one (ps_ret (Rc.pe_dcX (own := [("name", 6), ("text", 7)]) (tt := tYes) rfl rfl (takes_of rfl rfl rfl rfl) rfl sc__parse_entries.nd (Zm.pi_zipM (by rfl) m_zip (pa_cons (pv 3) (pa_cons (pv 4) pa_nil))) (blkOk_by (N := n__parse_entries) (sc := defScope s__parse_entries) (by decide +kernel)) (fun _ _ _ _ _ => pg_tupK (K := K) (n := 2) rfl rfl (pgs_cons (pg_name (i := 6) sc__parse_entries.nd rfl (Or.inl rfl)) (pgs_cons (pg_name (i := 7) sc__parse_entries.nd rfl (Or.inl rfl)) pgs_nil))) (fun _ _ _ _ _ => pts_nil) (fun _ _ _ _ _ => (pv 6)) (fun _ _ _ _ _ _ _ px => (Rc.pe_calNBK CN_parse_value px (hr.mono (by decide)) (pa_cons (pv 0) (pa_cons (pv 7) pa_nil)) (pk_cons (pv 2) pk_nil))))))))), ?_⟩
    walk_at "rd"
    have sa : SqL K H a (ts.map V.str) := sq ha
    refine ⟨⟨_, sa⟩, fun D hD => ?_⟩
    refine lc_it walk_list (fun i H' => Same H H' ∧ H' D = some (.lst ((ts.take i).map fun t => V.bl (hasEq t)))) ⟨same_new hD, by rw [upd_same]; rfl⟩ (fun _ _ _ p => Same.seq p.1 sa) ?_ ?_
    · rintro j y H1 H2 hj ⟨hs, hd⟩ ⟨rfl, hy⟩
      rw [List.length_map] at hj
      obtain ⟨t, ht1, rfl⟩ : ∃ t, ts[j]? = some t ∧ y = .str t := by
        rw [List.getElem?_map] at hy
        cases e : ts[j]? with
        | none => rw [e] at hy; cases hy
        | some t => rw [e] at hy; exact ⟨t, rfl, (Option.some.inj hy).symm⟩
      refine ⟨rfl, ?_⟩
      walk_at "rd"
      refine ⟨_, hd, ?_, ?_, ?_⟩
      · rw [List.length_map, List.length_take]
        exact szl (by omega)
      · exact fun b o eb => by
          rw [upd_ne (ne_of_none eb hD)]
          exact hs b o eb
      · rw [upd_same, List.take_add_one, ht1, List.map_append]
        rfl
    · rintro H1 ⟨hs, hd⟩
      rw [List.length_map, List.take_length] at hd
      walk_at "rd"
      refine ⟨D, ts.map hasEq, rfl, sq (by rw [hd, List.map_map]; rfl), ?_⟩
      have e2 : (ts.map hasEq).all id = ts.all hasEq := by
        rw [List.all_map]
        rfl
      rw [e2]
      rcases Bool.eq_false_or_eq_true (ts.all hasEq) with hk | hk
      · rw [hk]
        walk_at "rd"
        have s1 := hs
        refine ⟨⟨_, Same.seq s1 sa⟩, fun N nN => ?_⟩
        refine lc_it walk_list (fun i H' => Same H1 H' ∧ H' N = some (.lst ((ts.take i).map fun t => V.str (lft t)))) ⟨same_new nN, by rw [upd_same]; rfl⟩ (fun _ _ _ p => Same.seq p.1 (Same.seq s1 sa)) ?_ ?_
        · rintro j y H2 H3 hj ⟨hs2, hd2⟩ ⟨rfl, hy⟩
          rw [List.length_map] at hj
          obtain ⟨t, ht1, rfl⟩ : ∃ t, ts[j]? = some t ∧ y = .str t := by
            rw [List.getElem?_map] at hy
            cases e : ts[j]? with
            | none => rw [e] at hy; cases hy
            | some t => rw [e] at hy; exact ⟨t, rfl, (Option.some.inj hy).symm⟩
          have htl := (ht t (List.mem_of_getElem? ht1)).1
          refine ⟨rfl, ?_⟩
          walk_at "rd"
          refine ⟨sz (by omega), ?_⟩
          tm_at "new p"
          tm_at "ix 0"
          refine ⟨_, sp _ _ hd2, ?_, ?_, ?_⟩
          · rw [List.length_map, List.length_take]
            exact szl (by omega)
          · exact fun b o eb => by
              rw [upd_ne (ne_of_none eb nN)]
              exact sp b o (hs2 b o eb)
          · rw [upd_same, List.take_add_one, ht1, List.map_append]
            rfl
        · rintro H2 ⟨hs2, hd2⟩
          rw [List.length_map, List.take_length] at hd2
          walk_at "rd"
          refine ⟨N, ts.map lft, i, rfl, .inl (sq (by rw [hd2, List.map_map]; rfl)), by rw [List.length_map]; exact hl, ?_, hi, fun hk2 r H3 s3 hr3 => ?_, fun hk2 d H3 s3 hd3 => ?_⟩
          · intro y hy
            obtain ⟨t, h1, rfl⟩ := List.mem_map.mp hy
            exact small_any (Nat.le_trans lft_len (ht t h1).1) fun d hd => (ht t h1).2 d (lft_mem hd)
          · walk_at "rd"
            have s2 := Same.trans (Same.trans s1 hs2) s3
            refine ⟨⟨_, Same.seq s2 sa⟩, fun T nT => ?_⟩
            refine lc_it walk_list (fun i H' => Same H3 H' ∧ H' T = some (.lst ((ts.take i).map fun t => V.str (rgt t)))) ⟨same_new nT, by rw [upd_same]; rfl⟩ (fun _ _ _ p => Same.seq p.1 (Same.seq s2 sa)) ?_ ?_
            · rintro j y H4 H5 hj ⟨hs4, hd4⟩ ⟨rfl, hy⟩
              rw [List.length_map] at hj
              obtain ⟨t, ht1, rfl⟩ : ∃ t, ts[j]? = some t ∧ y = .str t := by
                rw [List.getElem?_map] at hy
                cases e : ts[j]? with
                | none => rw [e] at hy; cases hy
                | some t => rw [e] at hy; exact ⟨t, rfl, (Option.some.inj hy).symm⟩
              have htl := (ht t (List.mem_of_getElem? ht1)).1
              refine ⟨rfl, ?_⟩
              walk_at "rd"
              refine ⟨sz (by omega), ?_⟩
              tm_at "new p"
              tm_at "ix 2"
              refine ⟨_, sp _ _ hd4, ?_, ?_, ?_⟩
              · rw [List.length_map, List.length_take]
                exact szl (by omega)
              · exact fun b o eb => by
                  rw [upd_ne (ne_of_none eb nT)]
                  exact sp b o (hs4 b o eb)
              · rw [upd_same, List.take_add_one, ht1, List.map_append]
                rfl
            · rintro H4 ⟨hs4, hd4⟩
              rw [List.length_map, List.take_length] at hd4
              walk_at "rd"
              have s4 := Same.trans s2 hs4
              have sr : SqT K H4 r ((ts.map lft).map V.str) := Same.tup hs4 hr3
              have st : SqL K H4 T (ts.map fun t => V.str (rgt t)) := sq hd4
              refine ⟨r, T, _, _, rfl, sr, st, fun R nR => ?_⟩
              have nd : (ts.map lft).Nodup := asc_nodup (ascB_iff.mp (Bool.and_eq_true_iff.mp (show (_ && ascB _) = true from hk2)).2)
              refine Dw.dc_walk (n := ts.length) (Zm.walk_zipM (xs := (ts.map lft).map V.str) (ys := ts.map fun t => V.str (rgt t)) (by simp only [List.length_map]; omega))
                (fun i H' => Same H4 H' ∧ (∀ t ∈ ts.take i, okVal x (rgt t) = true) ∧ ∃ us, H' R = some (.dK (entK (ts.take i) us)) ∧ Go.All2 (VaAt H') us ((ts.take i).map fun t => valOf x (rgt t)))
                (by refine ⟨same_new nR, ?_, [], ?_, ?_⟩
                    · intro t h
                      rw [List.take_zero] at h
                      cases h
                    · rw [upd_same]
                      rfl
                    · exact .nil) (fun _ _ _ p => ⟨Same.tup p.1 sr, Same.seq p.1 st⟩) ?_ ?_
              · rintro j y H5 H6 hj ⟨hs5, hok, us, hR, hus⟩ ⟨U, y1, y2, rfl, nU, rfl, hy1, hy2⟩
                obtain ⟨t, ht1⟩ : ∃ t, ts[j]? = some t := ⟨ts[j], List.getElem?_eq_getElem hj⟩
                obtain rfl : y1 = .str (lft t) := by
                  dsimp only at hy1
                  rw [List.getElem?_map, List.getElem?_map, ht1] at hy1
                  exact (Option.some.inj hy1).symm
                obtain rfl : y2 = .str (rgt t) := by
                  dsimp only at hy2
                  rw [List.getElem?_map, ht1] at hy2
                  exact (Option.some.inj hy2).symm
                have tm := List.mem_of_getElem? ht1
                have tq : hasEq t = true := List.all_eq_true.mp hk t tm
                generalize hu : upd H5 U _ = H6
                obtain ⟨s6, h6⟩ := Go.al nU hu
                clear hu
                tm_at "un 2"
                unfold spValue
                refine ⟨x, rgt t, i, rfl, Nat.le_trans (rgt_len tq) (ht t tm).1, fun d hd => (ht t tm).2 d (rgt_mem hd), hi, fun hv v H7 s7 hva => ?_, fun hv d H7 s7 hd7 => ?_⟩
                · have h57 := Same.trans s6 s7
                  have ul := hus.len
                  rw [List.length_map] at ul
                  have tk : ts.take (j + 1) = ts.take j ++ [t] := by rw [List.take_add_one, ht1]; rfl
                  have hR7 := h57 R _ hR
                  refine ⟨_, Sum.inr (lft t), rfl, hR7, ?_, ?_, ?_, us ++ [v], ?_, ?_⟩
                  · unfold entK
                    rw [List.length_zip, List.length_map, List.length_take]
                    exact szl (by omega)
                  · exact fun b o eb => by
                      rw [upd_ne (ne_of_none eb nR)]
                      exact h57 b o (hs5 b o eb)
                  · intro u hu
                    rw [tk] at hu
                    rcases List.mem_append.mp hu with h | h
                    · exact hok u h
                    · rw [List.mem_singleton.mp h]
                      exact hv
                  · rw [upd_same, tk, entK_put ul ?_]
                    intro h
                    have h2 := nd.sublist ((List.take_sublist (j + 1) ts).map lft)
                    rw [tk, List.map_append] at h2
                    exact (List.nodup_append.mp h2).2.2 _ h _ (List.mem_singleton.mpr rfl) rfl
                  · rw [tk, List.map_append]
                    exact all2_snoc (all2_imp hus fun v a h => (h.same h57).updD hR7) (hva.updD hR7)
                · refine q2 ?_ d H7 (Same.trans (Same.trans (Same.trans s4 hs5) s6) s7) hd7
                  unfold okEnts
                  rw [hk, hk2, Bool.true_and, Bool.true_and]
                  cases e : ts.all fun t => okVal x (rgt t) with
                  | false => rfl
                  | true =>
                    have := List.all_eq_true.mp e t tm
                    rw [hv] at this
                    cases this
              · rintro H5 ⟨hs5, hok, us, hR, hus⟩
                rw [List.take_length] at hok hR hus
                refine q1 ?_ R us H5 (Same.trans s4 hs5) (nn s4 nR) hR hus
                unfold okEnts
                rw [hk, hk2, Bool.true_and, Bool.true_and]
                exact List.all_eq_true.mpr hok
          · exact q2 (by unfold okEnts; rw [hk, hk2]; rfl) d H3 (Same.trans (Same.trans s1 hs2) s3) hd3
      · rw [hk]
        walk_at "rd"
        exact ⟨⟨i, rfl, hi⟩, fun d H3 s3 _ hd => q2 (by unfold okEnts; rw [hk]; rfl) d H3 (Same.trans hs s3) hd⟩
end
end K06
namespace K06
open PySem PySem.Spec PyProof.Rows L2 Bx TL Dx Sup Er NdefX
/-! ### numbers as texts -/
abbrev numT (i : Int) : List Nat := tl (Str.ofString (toString i))
theorem numT_nat (n : Nat) : numT (n : Int) = numL n := tl_num n
theorem numT_neg (m : Nat) : numT (Int.negSucc m) = 45 :: numL (m + 1) := by
  show tl (Str.ofString ("-" ++ Nat.repr (m + 1))) = _
  rw [tl_ofString, String.toList_append, List.map_append, Nat.toList_repr]
  rfl
theorem numL_lead (n : Nat) (h : n ≠ 0) : ∃ c r, numL n = c :: r ∧ c ≠ 48 := by
  induction n using Nat.strongRecOn with
  | _ n ih =>
    by_cases h10 : n < 10
    · exact ⟨48 + n, [], numL_lt h10, by omega⟩
    · obtain ⟨c, r, e, hc⟩ := ih (n / 10) (by omega) (by omega)
      exact ⟨c, r ++ [48 + n % 10], by rw [numL_step (by omega), e]; rfl, hc⟩
theorem mem_digs {c : Nat} (h1 : 48 ≤ c) (h2 : c ≤ 57) : c ∈ digs := by
  have : c = 48 ∨ c = 49 ∨ c = 50 ∨ c = 51 ∨ c = 52 ∨ c = 53 ∨ c = 54 ∨ c = 55 ∨ c = 56 ∨ c = 57 := by omega
  rcases this with rfl | rfl | rfl | rfl | rfl | rfl | rfl | rfl | rfl | rfl <;> decide
theorem digs_mem {c : Nat} (h : c ∈ digs) : 48 ≤ c ∧ c ≤ 57 := by
  simp only [digs, List.mem_cons, List.not_mem_nil, or_false] at h
  omega
theorem numL_all (n : Nat) : (numL n).all (fun d => decide (d ∈ digs)) = true :=
  List.all_eq_true.mpr fun c hc => decide_eq_true (mem_digs (numL_digits n c hc).1 (numL_digits n c hc).2)
theorem okDig_num {n : Nat} (h : n ≠ 0) : okDig (numL n) = true := by
  obtain ⟨c, r, e, hc⟩ := numL_lead n h
  have ha := numL_all n
  rw [e] at ha ⊢
  show (!decide (c = 48) && _) = true
  rw [decide_eq_false hc, ha]
  rfl
theorem bare_num (n : Nat) : bare (numL n) = numL n := by
  cases e : numL n with
  | nil => rfl
  | cons c r =>
    have := numL_digits n c (by rw [e]; exact List.mem_cons_self)
    show (if c = 45 then r else c :: r) = c :: r
    rw [if_neg (by omega)]
theorem numT_ok (i : Int) : okNum (numT i) = true ∧ numOf (numT i) = i := by
  cases i with
  | ofNat n =>
    show okNum (numT (n : Int)) = true ∧ numOf (numT (n : Int)) = (n : Int)
    rw [numT_nat]
    by_cases h : n = 0
    · subst h
      exact ⟨by decide +kernel, by decide +kernel⟩
    · constructor
      · unfold okNum
        rw [bare_num, okDig_num h, Bool.or_true]
      · obtain ⟨c, r, e, hc⟩ := numL_lead n h
        have h2 := numL_digits n c (by rw [e]; exact List.mem_cons_self)
        have hv := numL_val n
        rw [e] at hv ⊢
        show (if c = 45 then _ else ((NumText.digitsVal (c :: r) : Nat) : Int)) = _
        rw [if_neg (by omega), hv]
  | negSucc m =>
    rw [numT_neg]
    constructor
    · unfold okNum
      rw [show bare (45 :: numL (m + 1)) = numL (m + 1) from rfl, okDig_num (by omega), Bool.or_true]
    · rw [show numOf (45 :: numL (m + 1)) = -((NumText.digitsVal (numL (m + 1)) : Nat) : Int) from rfl, numL_val]
      rfl
theorem numT_ne (i : Int) : numT i ≠ [] := by
  cases i with
  | ofNat n =>
    show numT (n : Int) ≠ []
    rw [numT_nat]
    exact numL_ne n
  | negSucc m =>
    rw [numT_neg]
    exact List.cons_ne_nil _ _
theorem okNum_mem {l : List Nat} (h : okNum l = true) : ∀ c ∈ l, c = 45 ∨ (48 ≤ c ∧ c ≤ 57) := by
  intro c hc
  unfold okNum at h
  rcases Bool.or_eq_true_iff.mp h with h | h
  · rw [of_decide_eq_true h, List.mem_singleton] at hc
    omega
  · cases l with
    | nil => cases hc
    | cons d r =>
      have all : ∀ {l : List Nat}, okDig l = true → ∀ c ∈ l, 48 ≤ c ∧ c ≤ 57 := fun {l} h c hc => by
        cases l with
        | nil => cases hc
        | cons e r =>
          have h2 := (Bool.and_eq_true_iff.mp (show (!decide (e = 48) && (e :: r).all fun d => decide (d ∈ digs)) = true from h)).2
          exact digs_mem (of_decide_eq_true (List.all_eq_true.mp h2 c hc))
      by_cases hd : d = 45
      · have h2 : okDig r = true := by
          have : okDig (if d = 45 then r else d :: r) = true := h
          rwa [if_pos hd] at this
        rcases List.mem_cons.mp hc with rfl | hc
        · exact .inl hd
        · exact .inr (all h2 c hc)
      · have h2 : okDig (d :: r) = true := by
          have : okDig (if d = 45 then r else d :: r) = true := h
          rwa [if_neg hd] at this
        exact .inr (all h2 c hc)
theorem numT_mem {i : Int} {c : Nat} (h : c ∈ numT i) : c = 45 ∨ (48 ≤ c ∧ c ≤ 57) := okNum_mem (numT_ok i).1 c h
theorem numT_no {i : Int} {c : Nat} (h : c ≠ 45 ∧ (c < 48 ∨ 57 < c)) : c ∉ numT i := fun hc => by
  have := numT_mem hc
  omega
theorem okNum_no {l : List Nat} {c : Nat} (hc : c ∈ l) (h : c ≠ 45 ∧ (c < 48 ∨ 57 < c)) : okNum l = false := by
  cases e : okNum l with
  | false => rfl
  | true =>
    have := okNum_mem e c hc
    omega
theorem okNum_zero {l : List Nat} (h : l ≠ []) : okNum (48 :: l) = false := by
  unfold okNum
  rw [decide_eq_false (fun e => h (List.cons.inj e).2)]
  show (false || okDig (if 48 = 45 then l else 48 :: l)) = false
  rw [if_neg (by decide)]
  rfl
theorem okNum_plus {l : List Nat} : okNum (43 :: l) = false := okNum_no (List.mem_cons_self) (by decide)
/-! ### fractions as texts -/
theorem part_at {z : Str} {c : Nat} {p q : List Nat} (h : tl z = p ++ c :: q) (hp : c ∉ p) : Txt.partition z ⟨#[c]⟩ = (⟨p.toArray⟩, ⟨#[c]⟩, ⟨q.toArray⟩) := by
  have e1 : z = ⟨(p ++ ([c] ++ q)).toArray⟩ := TL.ext_tl (by rw [h]; rfl)
  rw [e1]
  exact SX.partition_some (a := p ++ ([c] ++ q)) (b := [c]) (List.cons_ne_nil _ _) (SX.par_head q hp)
theorem frac_at {z : Str} {p q : List Nat} (h : tl z = p ++ 47 :: q) (hp : 47 ∉ p) :
    okFrac z = (okNum p && okNum q && !(decide (numOf q < 2) || decide (Nat.gcd (numOf p).natAbs (numOf q).natAbs ≠ 1))) ∧ fracOf z = (numOf p, numOf q) := by
  have e : Txt.partition z (Str.ofString "/") = (⟨p.toArray⟩, Str.ofString "/", ⟨q.toArray⟩) := part_at h hp
  have m : 47 ∈ tl z := by rw [h]; exact List.mem_append_right _ List.mem_cons_self
  unfold okFrac fracOf
  rw [if_pos m, if_pos m, e]
  exact ⟨rfl, rfl⟩
theorem frac_no {z : Str} (h : 47 ∉ tl z) : okFrac z = okNum (tl z) ∧ fracOf z = (numOf (tl z), 1) := by
  unfold okFrac fracOf
  rw [if_neg h, if_neg h]
  exact ⟨rfl, rfl⟩
theorem tl_frac {a b : Int} (h : b ≠ 1) : tl (txtV (.frac a b)) = numT a ++ 47 :: numT b := by
  show tl (if b = 1 then _ else Str.empty ++ Str.ofString (toString a) ++ Str.ofString "/" ++ Str.ofString (toString b)) = _
  rw [if_neg h, tl_append, tl_append, tl_append]
  show (([] : List Nat) ++ numT a ++ [47]) ++ numT b = _
  rw [List.nil_append, List.append_assoc]
  rfl
theorem tl_whole {a : Int} : txtV (.frac a 1) = Str.ofString (toString a) := by
  unfold txtV
  exact if_pos rfl
theorem frac_ok {a b : Int} (hb : 1 ≤ b) (hg : Nat.gcd a.natAbs b.natAbs = 1) : okFrac (txtV (.frac a b)) = true ∧ fracOf (txtV (.frac a b)) = (a, b) := by
  by_cases h : b = 1
  · subst h
    rw [tl_whole]
    obtain ⟨e1, e2⟩ := frac_no (z := Str.ofString (toString a)) (numT_no (by decide))
    obtain ⟨f1, f2⟩ := numT_ok a
    rw [e1, e2, f1, f2]
    exact ⟨rfl, rfl⟩
  · obtain ⟨e1, e2⟩ := frac_at (tl_frac (a := a) h) (numT_no (by decide))
    rw [e1, e2, (numT_ok a).1, (numT_ok a).2, (numT_ok b).1, (numT_ok b).2, decide_eq_false (by omega : ¬ b < 2), decide_eq_false (p := Nat.gcd a.natAbs b.natAbs ≠ 1) (fun h => h hg)]
    exact ⟨rfl, rfl⟩
/-! ### tokens -/
def toks (z : Str) : List Str := if z = Str.ofString "" then [] else Txt.split z (Str.ofString " ")
def joinT (ts : List Str) : Str := Txt.join (Str.ofString " ") ts
theorem joinL_nil : ∀ {l : List (List Nat)}, joinL [32] l = [] → l = [] ∨ l = [[]]
  | [], _ => .inl rfl
  | [p], h => .inr (by rw [show p = [] from h])
  | p :: q :: r, h => by
    have : p ++ ([32] ++ joinL [32] (q :: r)) = [] := h
    rw [List.append_eq_nil_iff] at this
    cases this.2
theorem tl_joinT (ts : List Str) : tl (joinT ts) = joinL [32] (ts.map tl) := by
  unfold joinT
  rw [join_eq, tl_join]
  rfl
theorem toks_join {ts : List Str} (h : ∀ t ∈ ts, 32 ∉ tl t) (h2 : ts ≠ [Str.ofString ""]) : toks (joinT ts) = ts := by
  unfold toks
  by_cases e : ts = []
  · subst e
    exact if_pos (by decide +kernel)
  · rw [if_neg]
    · exact split_join (s := 32) (S := []) rfl (by decide +kernel) e h
    · intro e2
      have e3 := congrArg tl e2
      rw [tl_joinT] at e3
      rcases joinL_nil e3 with h | h
      · exact e (List.map_eq_nil_iff.mp h)
      · refine h2 ?_
        cases ts with
        | nil => exact absurd rfl e
        | cons t r =>
          cases r with
          | cons _ _ =>
            have := congrArg List.length h
            simp at this
          | nil =>
            have : tl t = [] := (List.cons.inj h).1
            rw [show t = Str.ofString "" from TL.ext_tl this]
theorem toks_pre {ts : List Str} (h : ∀ t ∈ ts, 32 ∉ tl t) : toks (Str.ofString " " ++ joinT ts) = Str.ofString "" :: (if ts = [] then [Str.ofString ""] else ts) := by
  have e : Str.ofString " " ++ joinT ts = joinT (Str.ofString "" :: (if ts = [] then [Str.ofString ""] else ts)) := by
    refine TL.ext_tl ?_
    rw [tl_append, tl_joinT, tl_joinT]
    cases ts with
    | nil => rfl
    | cons t r => rfl
  rw [e, toks_join]
  · intro t ht
    rcases List.mem_cons.mp ht with rfl | ht
    · decide +kernel
    · split at ht
      · rw [List.mem_singleton.mp ht]
        decide +kernel
      · exact h t ht
  · intro e
    have := (List.cons.inj e).2
    split at this
    · cases this
    · contradiction
theorem joinL_snoc : ∀ {l : List (List Nat)}, l ≠ [] → joinL [32] (l ++ [[]]) = joinL [32] l ++ [32]
  | [], h => absurd rfl h
  | [p], _ => rfl
  | p :: q :: r, _ => by
    show p ++ ([32] ++ joinL [32] (q :: r ++ [[]])) = p ++ ([32] ++ joinL [32] (q :: r)) ++ [32]
    rw [joinL_snoc (List.cons_ne_nil q r), List.append_assoc, List.append_assoc]
theorem toks_suf {ts : List Str} (h : ∀ t ∈ ts, 32 ∉ tl t) : toks (joinT ts ++ Str.ofString " ") = (if ts = [] then [Str.ofString ""] else ts) ++ [Str.ofString ""] := by
  have e : joinT ts ++ Str.ofString " " = joinT ((if ts = [] then [Str.ofString ""] else ts) ++ [Str.ofString ""]) := by
    refine TL.ext_tl ?_
    rw [tl_append, tl_joinT, tl_joinT]
    by_cases he : ts = []
    · subst he
      rfl
    · rw [if_neg he, List.map_append]
      exact (joinL_snoc (fun e => he (List.map_eq_nil_iff.mp e))).symm
  rw [e, toks_join]
  · intro t ht
    rcases List.mem_append.mp ht with ht | ht
    · split at ht
      · rw [List.mem_singleton.mp ht]
        decide +kernel
      · exact h t ht
    · rw [List.mem_singleton.mp ht]
      decide +kernel
  · intro e
    have := congrArg List.length e
    rw [List.length_append] at this
    split at this
    · cases this
    · rename_i h1
      cases ts with
      | nil => exact h1 rfl
      | cons _ _ => simp at this
end K06
/-! {k: v, **d} where d does not have k -/
namespace Dq
open PySem PySem.Spec PyProof.Rows L2 Bx TL
def tPD (tk tv te : TE) : TE := fun σ H Q => ∀ p, H p = none → tPairs [(tk, tv)] σ (upd H p (.dK [])) fun ps H1 => ∃ k z, ps = [(kV k, z)] ∧ H1 p = some (.dK []) ∧
  te σ (upd H1 p (.dK [(k, z)])) fun x H2 => ∃ a kvs, x = .ref a ∧ H2 a = some (.dK kvs) ∧ a ≠ p ∧ H2 p = some (.dK [(k, z)]) ∧ kvs.length + 1 ≤ sizeLine ∧ k ∉ kvs.map (·.1) ∧ Q (.ref p) (upd H2 p (.dK ((k, z) :: kvs)))
theorem pe_pd {X : Cx} {e k v : Expr} {te tk tv : TE} {pos : Pos} (hk : PE X k tk) (hv : PE X v tv) (he : PE X e te) : PE X (.Dict [some k, none] [v, e] pos) (tPD tk tv te) := by
  refine ⟨fun pins s σ H Q I q => ?_⟩
  rw [arm_eval_Dict]
  refine wpAny_bind (wpAny_standAt ?_)
  show wpAny _ _ (dictDisplay [(some (eval k X.env), do let x ← eval v X.env; standAt pos; pure x), (none, do let x ← eval e X.env; standAt pos; pure x)]) _ _ _
  unfold dictDisplay
  simp only [List.forIn_cons, List.forIn_nil, List.isEmpty_nil, List.isEmpty_cons, if_true, pure_bind, List.nil_append, List.length_cons, List.length_nil, Nat.reduceAdd, Nat.reduceBEq, Bool.false_eq_true, if_false, reduceIte]
  have hp0 := I.hok.fresh (Nat.le_refl s.heap.objs.size)
  have I1 := I.laid (a := s.heap.objs.size) (o := .dK []) (h' := s.heap.push { cls := .type "dict", data := .dict #[] }) (t' := s.toks) (fun _ _ z => Heap.get?_push_of_some _ z) (Nat.le_refl _) (dk_empty s.heap I.big)
  show wpAny _ _ ((((subDict (pairTrees [some k] [v] X.env pos) >>= _) >>= _) >>= _) >>= _) _ _ _
  refine wpAny_bind (wpAny_bind (wpAny_bind (wpAny_bind (wpAny_subDict (knd := mixKind X.prog X.w) (by show 1 ≤ 15; decide) (thn ((pps_cons (pos := pos) hk hv pps_nil).run pins _ σ _ _ I1 (q _ hp0)) fun ws s1 ⟨ps, H1, I2, rel, kk, z, eps, ep, q1⟩ => ?_)))))
  subst eps
  obtain ⟨rs, cr, rk⟩ := carries_of (P := X.prog) (w := X.w) (kvs := [(kk, z)]) rel
  obtain ⟨z0, hd0, vs0, r0, dd0⟩ := dk_of I2.hok ep
  cases r0
  refine ⟨rs, cr, dd0, fun h1 m1 sb1 => ?_⟩
  have n1 : (rs.map (·.1)).Nodup := by
    have ek := rk.keys
    rw [← ek]
    exact List.nodup_cons.mpr ⟨List.not_mem_nil, List.nodup_nil⟩
  rw [PySem.merged_nil_of_nodup _ n1] at m1
  have hp1 : ∃ z, h1.get? s.heap.objs.size = some z := let ⟨z, _, _, hq, _⟩ := m1; ⟨z, hq⟩
  have I3 : L2.Inv X pins σ (upd H1 s.heap.objs.size (.dK [(kk, z)])) { s1 with heap := h1, toks := s1.toks + ws.length } := d_write I2 (by rw [ep]; exact True.intro) sb1 hp1 (dk_new (by rw [sizeLine_eq]; show 1 ≤ 16777216; decide) hd0 rk m1)
  refine wpAny_pure ?_
  dsimp only
  refine wpAny_bind (wpAny_holding (wpAny_bind (thn (he.run pins _ σ _ _ I3 q1) fun u s2 ⟨x, H2, I4, r2, a, kvs, ex, ea, nap, ep2, hz, nk, q2⟩ => ?_)))
  refine wpAny_bind (wpAny_standAt (wpAny_pure ?_))
  subst ex
  obtain rfl : u = Value.ref a := r2
  obtain ⟨z3, hd3, vs3, r3, dd3⟩ := dk_of I4.hok ep2
  obtain ⟨za, hda, vsa, ra, dda⟩ := dk_of I4.hok ea
  have nda : (vsa.map (·.1)).Nodup := by
    obtain ⟨_, _, _, _, _, _, _, _, hn⟩ := dda
    exact hn
  have len : kvs.length = vsa.length := ra.length
  obtain ⟨rv, rs3, rzv⟩ : ∃ rv, vs3 = [(kk, rv)] ∧ RelV z rv := by
    cases r3 with
    | cons h t =>
      cases t
      obtain ⟨h1, h2⟩ := h
      exact ⟨_, congrArg (fun z => [z]) (Prod.ext h1.symm rfl), h2⟩
  subst rs3
  have nk2 : kk ∉ vsa.map (·.1) := by
    rw [← ra.keys]
    exact nk
  have nd : (([(kk, rv)] ++ vsa).map (·.1)).Nodup := by
    show (kk :: vsa.map (·.1)).Nodup
    exact List.nodup_cons.mpr ⟨nk2, nda⟩
  refine wpAny_bind (wpAny_onRaise (wpAny_tryCatch (wpAny_onRaise (wpAny_holding (Dd.merge_map (Ne.symm nap) hda dd3 dda (fun h3 m3 sb3 => ?_) ?_)))))
  · rw [PySem.merged_append_of_fresh _ _ nd] at m3
    have hp4 : ∃ z, h3.get? s.heap.objs.size = some z := let ⟨z, _, _, hq, _⟩ := m3; ⟨z, hq⟩
    refine wpAny_pure (wpAny_pure ?_)
    refine wpAny_bind (wpAny_pure ?_)
    refine wpAny_pure ⟨.ref s.heap.objs.size, _, d_write (t' := s2.toks) I4 (by rw [ep2]; exact True.intro) sb3 hp4 (dk_new ?_ hd3 (.cons ⟨rfl, rzv⟩ ra) m3), rfl, q2⟩
    show kvs.length + 1 ≤ sizeLine
    exact hz
  · show 1 + vsa.length ≤ sizeLine
    omega
end Dq
namespace K06
open PySem PySem.Spec PyProof.Rows L2 Bx TL Dx Sup Er NdefX
open Px (pe_calE)
local macro_rules | `(tactic| walk_at "rd") => `(tactic| repeat (first | refine ⟨rfl, ?_⟩ | refine ⟨_, rfl, ?_⟩ | refine ⟨_, _, rfl, rfl, ?_⟩ | refine ⟨⟨_, rfl⟩, ?_⟩))
local macro_rules
  | `(tactic| tm_at $s:str) => do
    let id (x : String) := Lean.mkIdent (Lean.Name.mkSimple x)
    match s.getString.splitOn " " with
    | ["rd"] => `(tactic| walk_at "rd")
    | ["sz"] => `(tactic| first | exact sz (by decide) | exact szl (by decide) | exact sz (by show _ ≤ 100000; decide) | ((first | refine sz ?_ | refine szl ?_); (try simp only [List.length_map, List.length_append, List.length_cons, List.length_nil, List.length_take, List.length_drop]); omega) | fail "sz: no bound")
    | ["gn", p, h] => `(tactic| (generalize hu : upd _ $(id p) _ = $(id ("H" ++ p)); obtain ⟨$(id ("s" ++ p)), $(id h)⟩ := Go.al $(id ("n" ++ p)) hu; clear hu))
    | ["al", p] => `(tactic| (refine ⟨by tm_at "sz", fun $(id p) $(id ("n" ++ p)) => ?_⟩; generalize hu : upd _ $(id p) _ = $(id ("H" ++ p)); obtain ⟨$(id ("s" ++ p)), $(id ("h" ++ p))⟩ := Go.al $(id ("n" ++ p)) hu; clear hu; tm_at "rd"))
    | ["al0", p] => `(tactic| (refine ⟨by tm_at "sz", fun $(id p) $(id ("n" ++ p)) => ?_⟩; generalize hu : upd _ $(id p) _ = $(id ("H" ++ p)); obtain ⟨$(id ("s" ++ p)), $(id ("h" ++ p))⟩ := Go.al $(id ("n" ++ p)) hu; clear hu; tm_at "rd"))
    | ["new", p] => `(tactic| (refine fun $(id p) $(id ("n" ++ p)) => ?_; generalize hu : upd _ $(id p) _ = $(id ("H" ++ p)); obtain ⟨$(id ("s" ++ p)), $(id ("h" ++ p))⟩ := Go.al $(id ("n" ++ p)) hu; clear hu; tm_at "rd"))
    | ["new0", p] => `(tactic| (refine fun $(id p) $(id ("n" ++ p)) => ?_; generalize hu : upd _ $(id p) _ = $(id ("H" ++ p)); obtain ⟨$(id ("s" ++ p)), $(id ("h" ++ p))⟩ := Go.al $(id ("n" ++ p)) hu; clear hu; tm_at "rd"))
    | ["up"] => `(tactic| first
        | assumption | exact sq (by assumption) | exact sqt (by assumption) | exact PlT.sq (by assumption)
        | (refine' Bx.Same.tup (by assumption) ?hh; (case hh => tm_at "up")) | (refine' Same.seq (by assumption) ?hh; (case hh => tm_at "up")) | (refine' Go.get (by assumption) ?hh; (case hh => tm_at "up")) | (refine' dpAll_same (by assumption) ?hh; (case hh => tm_at "up")) | (refine' dp_same (by assumption) ?hh; (case hh => tm_at "up")) | (refine' PlT.same (by assumption) ?hh; (case hh => tm_at "up")) | (refine' Go.srcS (by assumption) ?hh; (case hh => tm_at "up"))
        | (refine' Go.tupB (s := _) (by assumption) (by assumption) ?hh; (case hh => tm_at "up")) | (refine' Go.dkB (s := _) (by assumption) (by assumption) ?hh; (case hh => tm_at "up")) | (refine' Go.insB (s := _) (by assumption) (by assumption) ?hh; (case hh => tm_at "up")) | (refine' Go.pltB (s := _) (by assumption) (by assumption) ?hh; (case hh => tm_at "up"))
        | (refine' Go.getB (by assumption) (by first | assumption | exact Ne.symm (by assumption)) ?hh; (case hh => tm_at "up"))
        | (refine' sq ?hh; (case hh => tm_at "raw")) | (refine' sqt ?hh; (case hh => tm_at "raw")) | (refine' PlT.sq ?hh; (case hh => tm_at "raw")) | fail "up: no fact")
    | ["raw"] => `(tactic| first
        | assumption | (refine' Go.get (by assumption) ?hh; (case hh => tm_at "raw")) | (refine' PlT.same (by assumption) ?hh; (case hh => tm_at "raw")) | (refine' Go.pltB (s := _) (by assumption) (by assumption) ?hh; (case hh => tm_at "raw")) | (refine' Go.getB (by assumption) (by first | assumption | exact Ne.symm (by assumption)) ?hh; (case hh => tm_at "raw")) | fail "raw: no fact")
    | ["sq"] => `(tactic| first | exact .inl (by tm_at "up") | exact .inr (by tm_at "up") | fail "sq: no fact")
    | ["ix", j] => `(tactic| (refine ⟨_, _, _, _, rfl, rfl, by tm_at "up", by exact atI_nat (j := $(Lean.Syntax.mkNumLit j)) rfl, ?_⟩; tm_at "rd"))
    | ["ixh", h] => `(tactic| (refine ⟨_, _, _, _, rfl, rfl, by tm_at "up", by first | exact Go.at_mapV $(id h) | exact Go.at_mapZ $(id h) | exact atI_nat $(id h) | exact Go.at_nat0 $(id h), ?_⟩; tm_at "rd"))
    | ["len"] => `(tactic| (refine ⟨_, _, rfl, by tm_at "sq", ?_⟩; (try rw [List.length_map]); tm_at "rd"))
    | ["tp", p] => `(tactic| (refine ⟨_, _, rfl, .inl ⟨by tm_at "up", fun $(id p) $(id ("n" ++ p)) => ?_⟩⟩; generalize hu : upd _ $(id p) _ = $(id ("H" ++ p)); obtain ⟨$(id ("s" ++ p)), $(id ("h" ++ p))⟩ := Go.al $(id ("n" ++ p)) hu; clear hu; tm_at "rd"))
    | ["tp0", p] => `(tactic| (refine ⟨_, _, rfl, .inl ⟨by tm_at "up", fun $(id p) $(id ("n" ++ p)) => ?_⟩⟩; generalize hu : upd _ $(id p) _ = $(id ("H" ++ p)); obtain ⟨$(id ("s" ++ p)), $(id ("h" ++ p))⟩ := Go.al $(id ("n" ++ p)) hu; clear hu; tm_at "rd"))
    | ["ls", p] => `(tactic| (refine ⟨_, _, rfl, by tm_at "sq", fun $(id p) $(id ("n" ++ p)) => ?_⟩; generalize hu : upd _ $(id p) _ = $(id ("H" ++ p)); obtain ⟨$(id ("s" ++ p)), $(id ("h" ++ p))⟩ := Go.al $(id ("n" ++ p)) hu; clear hu; tm_at "rd"))
    | ["ls0", p] => `(tactic| (refine ⟨_, _, rfl, by tm_at "sq", fun $(id p) $(id ("n" ++ p)) => ?_⟩; generalize hu : upd _ $(id p) _ = $(id ("H" ++ p)); obtain ⟨$(id ("s" ++ p)), $(id ("h" ++ p))⟩ := Go.al $(id ("n" ++ p)) hu; clear hu; tm_at "rd"))
    | ["tf", p] => `(tactic| (refine ⟨_, _, rfl, by tm_at "up", fun $(id p) $(id ("o" ++ p)) $(id ("n" ++ p)) $(id ("d" ++ p)) => ?_⟩; generalize hu : upd _ $(id p) _ = $(id ("H" ++ p)); obtain ⟨$(id ("s" ++ p)), $(id ("h" ++ p))⟩ := Go.alF $(id ("n" ++ p)) $(id ("d" ++ p)) hu; clear hu; tm_at "rd"))
    | ["alF", p] => `(tactic| (refine ⟨by tm_at "sz", fun $(id p) $(id ("o" ++ p)) $(id ("n" ++ p)) $(id ("d" ++ p)) => ?_⟩; generalize hu : upd _ $(id p) _ = $(id ("H" ++ p)); obtain ⟨$(id ("s" ++ p)), $(id ("h" ++ p))⟩ := Go.alF $(id ("n" ++ p)) $(id ("d" ++ p)) hu; clear hu; tm_at "rd"))
    | ["bare", k] => `(tactic| (refine fun $(id k) $(id ("d" ++ k)) $(id ("n" ++ k)) $(id ("nd" ++ k)) $(id ("ne" ++ k)) => ?_; generalize hu : upd (upd _ $(id ("d" ++ k)) _) $(id k) _ = $(id ("H" ++ k)); obtain ⟨$(id ("s" ++ k)), $(id ("h" ++ k))⟩ := Go.bare $(id ("n" ++ k)) $(id ("nd" ++ k)) $(id ("ne" ++ k)) hu; clear hu; walk_at "rd"))
    | ["me"] => `(tactic| (refine ⟨_, _, _, rfl, by tm_at "up", rfl, ?_⟩; walk_at "rd"))
    | ["star"] => `(tactic| ((first | refine ⟨_, _, rfl, .inl (by tm_at "up"), ?_⟩ | refine ⟨_, _, rfl, .inr (by tm_at "up"), ?_⟩ | fail "star"); walk_at "rd"))
    | ["ap0"] => `(tactic| (refine ⟨.inl ⟨rfl, _, by tm_at "up"⟩, ?_⟩; tm_at "rd"))
    | ["ap"] => `(tactic| refine ⟨_, _, _, rfl, rfl, by tm_at "up", by tm_at "sz", ?_⟩)
    | ["un", n] => match n with
      | "2" => `(tactic| (refine ⟨_, _, rfl, by tm_at "up", rfl, _, _, rfl, _, _, rfl, rfl, ?_⟩; tm_at "rd"))
      | _ => `(tactic| (refine ⟨_, _, rfl, by tm_at "up", rfl, _, _, rfl, _, _, rfl, _, _, rfl, rfl, ?_⟩; tm_at "rd"))
    | _ => Lean.Macro.throwUnsupported
/-! ### assignments as data; format_assignment -/
abbrev Asg := List (Str × Va)
def asK (ns : List Str) (us : List V) : List (Key × V) := (ns.map fun n => (Sum.inr n : Key)).zip us
def DA (H : Hp) (a : Addr) (l : Asg) : Prop := ∃ us, H a = some (.dK (asK (l.map (·.1)) us)) ∧ Go.All2 (VaAt H) us (l.map (·.2))
theorem DA.same {H H' : Hp} {a : Addr} {l : Asg} (h : DA H a l) (s : Same H H') : DA H' a l := by
  obtain ⟨us, h1, h2⟩ := h
  exact ⟨us, s _ _ h1, all2_imp h2 fun _ _ h => h.same s⟩
theorem asK_keys {ns : List Str} {us : List V} (h : us.length = ns.length) : (asK ns us).map (·.1) = ns.map Sum.inr := by
  unfold asK
  rw [List.map_fst_zip]
  rw [List.length_map]
  omega
theorem asK_get : ∀ {l : Asg} {us : List V} {H : Hp} {z : Str} {v : Va}, (l.map (·.1)).Nodup → Go.All2 (VaAt H) us (l.map (·.2)) → (z, v) ∈ l → ∃ u, valV (asK (l.map (·.1)) us) (.inr z) = some u ∧ VaAt H u v
  | [], _, _, _, _, _, _, h => by cases h
  | (n, x) :: r, us, H, z, v, nd, h, hm => by
    cases h with
    | cons h1 h2 =>
      rename_i u us2
      have nd2 := List.nodup_cons.mp (show (n :: r.map (·.1)).Nodup from nd)
      by_cases e : n = z
      · subst e
        have e2 : v = x := by
          rcases List.mem_cons.mp hm with h | h
          · exact (Prod.mk.inj h).2
          · exact absurd (List.mem_map.mpr ⟨(n, v), h, rfl⟩) nd2.1
        subst e2
        exact ⟨u, valV_pos rfl, h1⟩
      · obtain ⟨u2, g1, g2⟩ := asK_get (z := z) nd2.2 h2 ((List.mem_cons.mp hm).resolve_left fun h => e (Prod.mk.inj h).1.symm)
        exact ⟨u2, (valV_neg (fun h => e (Sum.inr.inj h))).trans g1, g2⟩
theorem perm_asc {ys sh s : List Str} (pm : ys.Perm sh) (st : sortedS ys = true) (nd : sh.Nodup) (as : Asc s) (m : ∀ x, x ∈ s ↔ x ∈ sh) : ys = s :=
  asc_eq (asc_of st (pm.nodup_iff.mpr nd)) as fun x => pm.mem_iff.trans (m x).symm
theorem sum_le : ∀ {l : List Str} {b : Nat}, (∀ t ∈ l, t.length ≤ b) → (l.map (·.length)).sum ≤ b * l.length
  | [], _, _ => Nat.zero_le _
  | t :: r, b, h => by
    have h1 := h t List.mem_cons_self
    have h2 := sum_le fun t ht => h t (List.mem_cons_of_mem _ ht)
    rw [List.map_cons, List.sum_cons, List.length_cons, Nat.mul_add]
    omega
theorem entV_len {x n : Str} {a : Va} (h : OkVa x a) : (entV n a).length ≤ n.length + 5001 := by
  have := txtV_len h
  unfold entV
  rw [app_len, app_len, app_len, show Str.empty.length = 0 from rfl, show (Str.ofString "=").length = 1 by decide +kernel]
  omega
def asgT (s : Asg) : Str := joinT (s.map fun p => entV p.1 p.2)
section
variable {P : Program} {w : World} {K : PySem.W.Frag} {mg : Str → Option Value} {base : Heap}
@[irreducible] def spFormatA : Sp := fun vs H Q _ => ∃ (x : Str) (a : Addr) (l s : Asg), vs = [.str x, .ref a] ∧ DA H a l ∧ l.length ≤ 20 ∧ (l.map (·.1)).Nodup ∧ s.Perm l ∧ Asc (s.map (·.1)) ∧ (∀ p ∈ l, OkVa x p.2 ∧ p.1.length ≤ 100 ∧ (p.1 = Str.ofString "" → x ≠ Str.ofString "lines")) ∧ ∀ H', Same H H' → Q (.str (asgT s)) H'
theorem ok_formatA {f : Addr} {fd : FuncData} (F : Fun K "format_assignment" "format_assignment" s_format_assignment f fd) (m_sorted : mg "sorted" = none) (C__format_entry : Cal P w K mg base "_format_entry" 2 ["word", "name", "value"] spEntry) : FnOk P w K mg base CX0 3 f fd ["word", "assignment"] spFormatA := by
  refine F.ok sc_format_assignment (fun vs H Q E h => ?_) (fun cdv A outer s H vs Q E hr h => ?_)
  · unfold spFormatA at h
    obtain ⟨x, a, l, s, rfl, _⟩ := h
    rfl
  · unfold spFormatA at h
    obtain ⟨x, a, l, sl, rfl, ⟨us, ha, hus⟩, hl, nd, pm, asc, ok, q⟩ := h
    have hu := hu_of hr
    refine ⟨_, (pss_one (ps_ret (pe_join pe_str (pe_lc (own := [("name", 2)]) (tt := tYes) rfl sc_format_assignment.nd (pi_list (pe_callB (id := "sorted") (call_sortedD rfl) (by rfl) m_sorted (by decide +kernel) (pa_cons (pv 1) pa_nil))) (blkOk_by (N := n_format_assignment) (sc := defScope s_format_assignment) (by decide +kernel)) (fun _ _ _ _ _ => pg_name (i := 2) sc_format_assignment.nd rfl (Or.inl rfl)) (fun _ _ _ _ _ => pts_nil) (fun _ _ _ _ _ => (pe_cal C__format_entry (hr.mono (by decide)) (pa_cons (pv 0) (pa_cons (pv 2) (pa_cons (pe_dget hu (pv 1) (pv 2) (fun _ _ => rfl)) pa_nil))))))))), ?_⟩
    have ul : us.length = (l.map (·.1)).length := by
      have := hus.len
      rw [List.length_map] at this ⊢
      exact this
    walk_at "rd"
    refine ⟨a, _, l.map (·.1), rfl, .inl ha, asK_keys ul, by rw [List.length_map]; omega, fun ys p pm2 st np => ?_⟩
    have ey : ys = sl.map (·.1) := perm_asc pm2 st nd asc fun z => (pm.map (·.1)).mem_iff
    subst ey
    tm_at "gn p hp"
    walk_at "rd"
    refine ⟨⟨_, sq hp⟩, fun D nD => ?_⟩
    have sl20 : sl.length ≤ 20 := by
      rw [pm.length_eq]
      exact hl
    refine lc_it walk_list (fun i H' => Same Hp H' ∧ H' D = some (.lst ((sl.take i).map fun p => V.str (entV p.1 p.2)))) ⟨same_new nD, by rw [upd_same]; rfl⟩ (fun _ _ _ p => Same.seq p.1 (sq hp)) ?_ ?_
    · rintro j y H1 H2 hj ⟨hs, hd⟩ ⟨rfl, hy⟩
      rw [List.length_map, List.length_map] at hj
      obtain ⟨pr, hpr⟩ : ∃ pr, sl[j]? = some pr := ⟨sl[j], List.getElem?_eq_getElem hj⟩
      obtain rfl : y = .str pr.1 := by
        rw [List.getElem?_map, List.getElem?_map, hpr] at hy
        exact (Option.some.inj hy).symm
      have hm : pr ∈ l := pm.mem_iff.mp (List.mem_of_getElem? hpr)
      obtain ⟨o1, o2, o3⟩ := ok pr hm
      obtain ⟨u, hu1, hu2⟩ := asK_get nd hus (show (pr.1, pr.2) ∈ l from hm)
      have sH := sp.trans hs
      refine ⟨rfl, ?_⟩
      walk_at "rd"
      refine ⟨a, u, rfl, by rw [← hu1]; exact DGet.k (k := .inr pr.1) (sH _ _ ha), ?_⟩
      unfold spEntry
      refine ⟨x, pr.1, u, pr.2, rfl, hu2.same sH, o1, by omega, o3, fun H3 s3 => ?_⟩
      refine ⟨_, s3 _ _ hd, ?_, ?_, ?_⟩
      · rw [List.length_map, List.length_take]
        exact szl (by omega)
      · exact fun b o eb => by
          rw [upd_ne (ne_of_none eb nD)]
          exact s3 b o (hs b o eb)
      · rw [upd_same, List.take_add_one, hpr, List.map_append]
        rfl
    · rintro H1 ⟨hs, hd⟩
      rw [List.length_map, List.length_map, List.take_length] at hd
      refine ⟨Str.ofString " ", D, sl.map fun p => entV p.1 p.2, rfl, rfl, .inl (sq ?_), ?_, ?_⟩
      · rw [hd, List.map_map]
        rfl
      rotate_left
      · have q9 := q H1 (sp.trans hs)
        unfold asgT joinT at q9
        exact q9
      have h1 : ((sl.map fun p => entV p.1 p.2).map (·.length)).sum ≤ 6000 * (sl.map fun p => entV p.1 p.2).length := sum_le fun t ht => by
        obtain ⟨p, hp, rfl⟩ := List.mem_map.mp ht
        obtain ⟨o1, o2, o3⟩ := ok p (pm.mem_iff.mp hp)
        have := entV_len (n := p.1) o1
        omega
      rw [List.length_map] at h1 ⊢
      rw [show (Str.ofString " ").length = 1 by decide +kernel]
      omega
/-! ### parse_assignment -/
def cut1 (g : Str) : Str := Txt.removeprefix g (Str.ofString "=")
abbrev wW : Str := Str.ofString "words"
def okGr : List Str → Bool
  | [] => false
  | g :: r => Txt.startswith g (Str.ofString "=") && (okNum (tl (cut1 g)) && (okEnts wW r && (decide (0 ≤ numOf (tl (cut1 g))) && r.all fun t => decide (((rgt t).length : Int) = numOf (tl (cut1 g))))))
def grOf : List Str → Asg
  | [] => []
  | g :: r => (Str.ofString "", .num (numOf (tl (cut1 g)))) :: r.map fun t => (lft t, .let (rgt t))
def okTs (x : Str) (ts : List Str) : Bool := if x = wW then okGr ts else okEnts x ts
def tsOf (x : Str) (ts : List Str) : Asg := if x = wW then grOf ts else ts.map fun t => (lft t, valOf x (rgt t))
theorem entK_asK {ts : List Str} {us : List V} : entK ts us = asK (ts.map lft) us := by
  unfold entK asK
  rw [List.map_map]
  rfl
theorem valOf_w {z : Str} : valOf wW z = .let z := by
  unfold valOf
  rw [if_neg (by decide +kernel), if_pos rfl]
theorem names_ne {ts : List Str} (h : okEnts wW ts = true) : (Sum.inr (Str.ofString "") : Key) ∉ (ts.map lft).map fun n => (Sum.inr n : Key) := fun hm => by
  obtain ⟨n, h1, h2⟩ := List.mem_map.mp hm
  unfold okEnts at h
  have h3 := (Bool.and_eq_true_iff.mp (Bool.and_eq_true_iff.mp h).2).1
  have h4 : (ts.map lft).all fullB = true := (Bool.and_eq_true_iff.mp (show (_ && ascB _) = true from h3)).1
  have h5 := List.all_eq_true.mp h4 n h1
  rw [Sum.inr.inj h2] at h5
  revert h5
  decide +kernel
theorem cut_len (g : Str) : (cut1 g).length ≤ g.length := by
  unfold cut1
  rw [StrLaws.removeprefix_eq]
  split
  · rw [len_tl, len_tl]
    show ((g.cps.toList.drop _).take _).toArray.toList.length ≤ _
    simp
  · exact Nat.le_refl _
theorem valV_in : ∀ {kvs : List (Key × V)} {k : Key} {v : V}, (kvs.map (·.1)).Nodup → (k, v) ∈ kvs → valV kvs k = some v
  | [], _, _, _, h => by cases h
  | p :: r, k, v, nd, h => by
    have nd2 := List.nodup_cons.mp (show (p.1 :: r.map (·.1)).Nodup from nd)
    rcases List.mem_cons.mp h with h | h
    · rw [← h]
      exact valV_pos rfl
    · rw [valV_neg (fun e => nd2.1 (List.mem_map.mpr ⟨(k, v), h, e.symm⟩))]
      exact valV_in nd2.2 h
theorem us_let : ∀ {r : List Str} {us : List V} {H : Hp}, Go.All2 (VaAt H) us (r.map fun t => valOf wW (rgt t)) → us = r.map fun t => V.str (rgt t)
  | [], _, _, h => by cases h; rfl
  | t :: r, _, _, h => by
    cases h with
    | cons h1 h2 =>
      have h1 : VaAt _ _ (valOf wW (rgt t)) := h1
      rw [valOf_w] at h1
      rw [us_let h2, show _ = V.str (rgt t) from h1]
      rfl
theorem entK_let {r : List Str} : entK r (r.map fun t => V.str (rgt t)) = r.map fun t => ((Sum.inr (lft t) : Key), V.str (rgt t)) := by
  unfold entK
  induction r with
  | nil => rfl
  | cons t r ih =>
    rw [List.map_cons, List.map_cons, List.zip_cons_cons, ih]
    rfl
theorem let_all2 {H : Hp} : ∀ r : List Str, Go.All2 (VaAt H) (r.map fun t => V.str (rgt t)) (r.map fun t => Va.let (rgt t))
  | [] => .nil
  | _ :: r => .cons rfl (let_all2 r)
theorem dec_int {a b : Int} : decide (V.int a = V.int b) = decide (a = b) := decide_eq_decide.mpr ⟨fun h => by injection h, fun h => by rw [h]⟩
theorem nd_ents {x : Str} {ts : List Str} (h : okEnts x ts = true) : (ts.map lft).Nodup := by
  unfold okEnts at h
  have h3 := (Bool.and_eq_true_iff.mp (Bool.and_eq_true_iff.mp h).2).1
  exact asc_nodup (ascB_iff.mp (Bool.and_eq_true_iff.mp (show (_ && ascB _) = true from h3)).2)
@[irreducible] def spGrounded (C : Addr) : Sp := fun vs H Q E => ∃ (a : Addr) (ts : List Str) (i : Int), vs = [.ref a, .int i] ∧ H a = some (.lst (ts.map V.str)) ∧ ts.length ≤ 1000 ∧ (∀ t ∈ ts, t.length ≤ 640 ∧ ∀ d ∈ tl t, d < 0x110000) ∧ i.natAbs.log2 < 1920 ∧
  (okGr ts = true → ∀ p H', Same H H' → H p = none → DA H' p (grOf ts) → Q (.ref p) H') ∧
  (okGr ts = false → ∀ d H', Same H H' → H' d = some (.xd [(("line" : Str), .int i)]) → E (.ref C) (some d) H')
theorem ok_grounded {f C : Addr} {fd : FuncData} (F : Fun K "_parse_grounded" "_parse_grounded" s__parse_grounded f fd) (m_all : mg "all" = none) (m_len : mg "len" = none) (CN_parse_number : Rc.CalN P w K mg base "parse_number" "line" 1 3 ["text", "line"] (.int 1) (spParseNumber C)) (C__parse_entries : Px.CalE P w K mg base "_parse_entries" 6 ["word", "tokens", "line"] (spEntries C))
    (E_InvalidText : Err P w K mg base "InvalidText" C "line" "line" okI 1) : FnOk P w K mg base (L2.CX P w) 7 f fd ["tokens", "line"] (spGrounded C) := by
  refine F.okX sc__parse_grounded (fun vs H Q E h => ?_) (fun cdv A outer s H vs Q E hr h => ?_)
  · unfold spGrounded at h
    obtain ⟨a, ts, i, rfl, _⟩ := h
    rfl
  · unfold spGrounded at h
    obtain ⟨a, ts, i, rfl, ha, hl, ht, hi, q1, q2⟩ := h
    have hu := hu_of hr
    refine ⟨_, (pss_cons (ps_if (PW.pt (pw_or (pt_cmpR (op_eqD hr.units) (pv 0) (pe_lst pa_nil) (nomark _)) (pw_or1 (pt_not (pt_val (pe_m1 PySem.F.slot_str_startswith PySem.F.type_str_startswith mt_startswith (pe_ix ix_list (pv 0) pe_int (fun _ _ => rfl)) pe_str))))))
      (pss_one (ps_raiseE E_InvalidText rfl (takes_of rfl rfl rfl rfl) (hr.mono (by decide)) (pv 1)))
      pss_nil)
    (pss_cons (ps_set (i := 2) sc__parse_grounded.nd rfl (Or.inr rfl) (Rc.pe_calNK CN_parse_number (takes_of rfl rfl rfl rfl) (hr.mono (by decide)) (pa_cons (pe_m1 PySem.F.slot_str_removeprefix PySem.F.type_str_removeprefix mt_removeprefix (pe_ix ix_list (pv 0) pe_int (fun _ _ => rfl)) pe_str) pa_nil) (pk_cons (pv 1) pk_nil)))
    (pss_cons (ps_set (i := 3) sc__parse_grounded.nd rfl (Or.inr rfl) (pe_calE C__parse_entries (takes_of rfl rfl rfl rfl) (hr.mono (by decide)) (pa_cons pe_str (pa_cons (pe_slice sl_list (pv 0) (po_some pe_int) po_none) (pa_cons (pv 1) pa_nil)))))
    (pss_cons (ps_if (PW.pt (pw_or (pt_cmpR op_lt (pv 2) pe_int (nomark _)) (pw_or1 (pt_not (pt_val (pe_callB (id := "all") (cr_all rfl) (by rfl) m_all (by decide +kernel) (pa_cons (pe_lock (pe_lc (own := [("name", 4)]) (tt := tYes) rfl sc__parse_grounded.nd (pi_keys (pv 3)) (blkOk_by (N := n__parse_grounded) (sc := defScope s__parse_grounded) (by decide +kernel)) (fun _ _ _ _ _ => pg_name (i := 4) sc__parse_grounded.nd rfl (Or.inl rfl)) (fun _ _ _ _ _ => pts_nil) (fun _ _ _ _ _ => (pe_cmpR op_eq (pe_callB call_len_str (by rfl) m_len PySem.boot_len (pa_cons (pe_dget hu (pv 3) (pv 4) (fun _ _ => rfl)) pa_nil)) (pv 2) (nomark _))))) pa_nil)))))))
      (pss_one (ps_raiseE E_InvalidText rfl (takes_of rfl rfl rfl rfl) (hr.mono (by decide)) (pv 1)))
      pss_nil)
    (pss_one (ps_ret (Dq.pe_pd pe_str (pv 2) (pv 3)))))))), ?_⟩
    have e0 : PyData.eqv (.list (ts.map PyData.str)) (.list []) = decide (ts = []) := by
      cases ts with
      | nil => rfl
      | cons t r => rfl
    walk_at "rd"
    tm_at "al p"
    have l1 : Lay 1 (.list (ts.map PyData.str)) := lay_list (lays_strs fun x hx => strOk_of (ht x hx).2)
    have l2 : Lay 1 (.list (([] : List Str).map PyData.str)) := lay_list (lays_strs fun x hx => by cases hx)
    refine ⟨_, _, .lst (sq (sp _ _ ha)) (dp_strs ts), .lst (sq hp) .nil, shape l1 (by decide), shape l2 (by decide), ?_⟩
    rw [e0]
    walk_at "rd"
    cases ts with
    | nil =>
      rw [decide_eq_true rfl]
      walk_at "rd"
      exact ⟨⟨i, rfl, hi⟩, fun d H3 s3 _ hd => q2 rfl d H3 (Same.trans sp s3) hd⟩
    | cons g r =>
      rw [decide_eq_false (List.cons_ne_nil g r)]
      have hg := ht g List.mem_cons_self
      walk_at "rd"
      tm_at "ix 0"
      have eg : okGr (g :: r) = (Txt.startswith g (Str.ofString "=") && (okNum (tl (cut1 g)) && (okEnts wW r && (decide (0 ≤ numOf (tl (cut1 g))) && r.all fun t => decide (((rgt t).length : Int) = numOf (tl (cut1 g))))))) := rfl
      rcases Bool.eq_false_or_eq_true (Txt.startswith g (Str.ofString "=")) with h1 | h1
      · rw [h1, Bool.true_and] at eg
        rw [h1]
        walk_at "rd"
        tm_at "ix 0"
        refine ⟨sz (by omega), ?_⟩
        walk_at "rd"
        refine ⟨cut1 g, i, rfl, Nat.le_trans (cut_len g) hg.1, hi, fun hk H1 s1 => ?_, fun hk d H1 s1 hd => ?_⟩
        · rw [hk, Bool.true_and] at eg
          have q1 : okGr (g :: r) = true → ∀ p H', Same H H' → H p = none → DA H' p ((Str.ofString "", .num (numOf (tl (cut1 g)))) :: r.map fun t => (lft t, .let (rgt t))) → Q (.ref p) H' := q1
          generalize numOf (tl (cut1 g)) = n at eg q1
          have sH1 := sp.trans s1
          walk_at "rd"
          unfold tNoPart
          refine ⟨a, _, rfl, sq (sH1 _ _ ha), ?_⟩
          have ec : cutV ((g :: r).map V.str) (some ((1 : Nat) : Int)) none = r.map V.str := by
            unfold cutV
            rw [HT.sIx_nat, HT.sIx_none, Nat.min_eq_left (by rw [List.length_map, List.length_cons]; omega)]
            exact List.take_of_length_le (by rw [List.length_drop]; exact Nat.le_refl _)
          intro S nS
          rw [show cutV ((g :: r).map V.str) (some 1) none = r.map V.str from ec]
          tm_at "gn S hS"
          walk_at "rd"
          have hlr : r.length ≤ 1000 := by rw [List.length_cons] at hl; omega
          unfold spEntries
          refine ⟨wW, S, r, i, rfl, hS, hlr, fun t h => ht t (List.mem_cons_of_mem _ h), hi, fun hk2 p2 us H2 s2 np2 hp2 hus => ?_, fun hk2 d H2 s2 hd => ?_⟩
          · rw [hk2, Bool.true_and] at eg
            have sH2 := (sH1.trans sS).trans s2
            walk_at "rd"
            rcases Bool.eq_false_or_eq_true (decide (n < 0)) with h0 | h0
            · rw [h0]
              walk_at "rd"
              exact ⟨⟨i, rfl, hi⟩, fun d H3 s3 _ hd => q2 (by rw [eg, decide_eq_false (by have := of_decide_eq_true h0; omega)]; rfl) d H3 (Same.trans sH2 s3) hd⟩
            · rw [h0]
              have hn0 : 0 ≤ n := by have := of_decide_eq_false h0; omega
              rw [decide_eq_true hn0, Bool.true_and] at eg
              walk_at "rd"
              have e1 := us_let hus
              subst e1
              rw [entK_let] at hp2
              have ndn := nd_ents hk2
              have ndk : ((r.map fun t => ((Sum.inr (lft t) : Key), V.str (rgt t))).map (·.1)).Nodup := by
                rw [List.map_map]
                have : ((r.map lft).map fun n : Str => (Sum.inr n : Key)).Nodup := List.Pairwise.map _ (fun a b (h : a ≠ b) (e : (Sum.inr a : Key) = Sum.inr b) => h (Sum.inr.inj e)) ndn
                rwa [List.map_map] at this
              refine ⟨p2, _, hp2, trivial, fun od => ?_⟩
              have hdl := upd_same (H := H2) (a := p2) (o := .frz od (.dK (r.map fun t => ((Sum.inr (lft t) : Key), V.str (rgt t)))))
              have hot : ∀ b, b ≠ p2 → upd H2 p2 (.frz od (.dK (r.map fun t => ((Sum.inr (lft t) : Key), V.str (rgt t))))) b = H2 b := fun b h => upd_ne h
              generalize upd H2 p2 (.frz od _) = HL at hdl hot ⊢
              walk_at "rd"
              refine ⟨p2, od, rfl, .inl ⟨_, hdl, fun D hD => ?_⟩⟩
              have dp : D ≠ p2 := fun e => by
                rw [e, hdl] at hD
                cases hD
              refine lc_it walk_keys (fun k H' => Same HL H' ∧ H' D = some (.lst ((r.take k).map fun t => V.bl (decide (((rgt t).length : Int) = n))))) ⟨same_new hD, upd_same⟩ (fun k H' _ h => h.1 _ _ hdl) ?_ ?_
              · rintro k x H5a H5 hk5 ⟨s5, hM⟩ ⟨rfl, kk, v, hkv, rfl⟩
                obtain ⟨t, htk, rfl, rfl⟩ : ∃ t, r[k]? = some t ∧ kk = .inr (lft t) ∧ v = .str (rgt t) := by
                  rw [List.getElem?_map] at hkv
                  obtain ⟨t, h1, h2⟩ := Option.map_eq_some_iff.mp hkv
                  cases h2
                  exact ⟨t, h1, rfl, rfl⟩
                have htm := List.mem_of_getElem? htk
                have hte : hasEq t = true := by
                  unfold okEnts at hk2
                  exact List.all_eq_true.mp (Bool.and_eq_true_iff.mp hk2).1 t htm
                refine ⟨rfl, ?_⟩
                walk_at "rd"
                refine ⟨p2, .str (rgt t), rfl, .inl ⟨_, .inr (lft t), .inr ⟨od, s5 _ _ hdl⟩, rfl, (valV_in ndk (List.mem_map.mpr ⟨t, htm, rfl⟩)).symm⟩, ?_⟩
                walk_at "rd"
                refine ⟨sz (by have := rgt_len hte; have := (ht t (List.mem_cons_of_mem _ htm)).1; omega), ?_⟩
                walk_at "rd"
                rw [dec_int]
                refine ⟨_, hM, ?_, same_at hD s5, ?_⟩
                · rw [List.length_map, List.length_take]
                  exact szl (by omega)
                · rw [upd_same, List.take_add_one, htk, List.map_append]
                  rfl
              · rintro H5 ⟨s5, hM⟩
                rw [List.length_map, List.take_length] at hM
                refine ⟨s5 _ _ hdl, ?_⟩
                have s25 : Same H2 (upd H5 p2 (.dK (r.map fun t => ((Sum.inr (lft t) : Key), V.str (rgt t))))) := fun b o e => by
                  by_cases hb : b = p2
                  · subst hb
                    rw [upd_same, ← e, hp2]
                  · rw [upd_ne hb]
                    exact s5 b o (by rw [hot b hb]; exact e)
                have hM6 : (upd H5 p2 (.dK (r.map fun t => ((Sum.inr (lft t) : Key), V.str (rgt t))))) D = some (.lst ((r.map fun t => decide (((rgt t).length : Int) = n)).map V.bl)) := by
                  rw [upd_ne dp, hM, List.map_map]
                  rfl
                generalize upd H5 p2 _ = H6 at s25 hM6 ⊢
                have sH6 := sH2.trans s25
                walk_at "rd"
                refine ⟨D, r.map fun t => decide (((rgt t).length : Int) = n), rfl, sq hM6, ?_⟩
                have ea : (r.map fun t => decide (((rgt t).length : Int) = n)).all id = r.all fun t => decide (((rgt t).length : Int) = n) := by
                  rw [List.all_map]
                  rfl
                rw [ea, ← eg]
                rcases Bool.eq_false_or_eq_true (okGr (g :: r)) with hz | hz
                · rw [hz]
                  walk_at "rd"
                  refine fun R nR => ?_
                  have pR : p2 ≠ R := fun e => by
                    rw [← e, s25 _ _ hp2] at nR
                    cases nR
                  walk_at "rd"
                  refine ⟨.inr (Str.ofString ""), .int n, rfl, upd_same, ?_⟩
                  walk_at "rd"
                  refine ⟨p2, _, rfl, by rw [upd_ne pR, upd_ne pR]; exact s25 _ _ hp2, pR, upd_same, szl (by rw [List.length_map]; omega), ?_, ?_⟩
                  · have := names_ne hk2
                    rwa [List.map_map] at this ⊢
                  · refine q1 hz R _ (fun b o e => ?_) (nn sH6 nR) ⟨.int n :: r.map fun t => V.str (rgt t), ?_, ?_⟩
                    · have bR := ne_of_none (sH6 _ _ e) nR
                      rw [upd_ne bR, upd_ne bR, upd_ne bR]
                      exact sH6 _ _ e
                    · rw [upd_same, List.map_cons, List.map_map]
                      show some (HO.dK _) = some (HO.dK ((Sum.inr (Str.ofString ""), V.int n) :: ((r.map fun t => lft t).map fun n => (Sum.inr n : Key)).zip (r.map fun t => V.str (rgt t))))
                      rw [← entK_let]
                      unfold entK
                      rw [List.map_map]
                      rfl
                    · refine .cons rfl ?_
                      rw [List.map_map]
                      exact let_all2 r
                · rw [hz]
                  walk_at "rd"
                  exact ⟨⟨i, rfl, hi⟩, fun d H7 s7 _ hd => q2 hz d H7 (Same.trans sH6 s7) hd⟩
          · exact q2 (by rw [eg, hk2]; rfl) d H2 (Same.trans (Same.trans sH1 sS) s2) hd
        · exact q2 (by rw [eg, hk]; rfl) d H1 (Same.trans sp s1) hd
      · rw [h1]
        walk_at "rd"
        exact ⟨⟨i, rfl, hi⟩, fun d H3 s3 _ hd => q2 (by rw [eg, h1]; rfl) d H3 (Same.trans sp s3) hd⟩
end
end K06
namespace K06
local macro_rules | `(tactic| walk_at "rd") => `(tactic| repeat (first | refine ⟨rfl, ?_⟩ | refine ⟨_, rfl, ?_⟩ | refine ⟨_, _, rfl, rfl, ?_⟩ | refine ⟨⟨_, rfl⟩, ?_⟩))
open PySem PySem.Spec PyProof.Rows L2 Bx TL Dx Zx Ow Sup Er NdefX Px
theorem set_gi {te : TE} {i : Nat} {D : Ends} {rest : TS} {σ : List (Option V)} {H : Hp} (R : V → Hp → Prop) (h : ∀ Z : VK, (∀ v H', R v H' → Z v H') → te σ H Z) (k : ∀ v H', R v H' → rest D (σ.set i (some v)) H') : tSeq (tAsg te (gName i)) rest D σ H :=
  h (fun v H' => rest D (σ.set i (some v)) H') k
theorem st_gi {t : TS} {i : Nat} {D : Ends} {rest : TS} {σ : List (Option V)} {H : Hp} (R : V → Hp → Prop) (h : ∀ D' : Ends, (∀ v H', R v H' → D'.nx (σ.set i (some v)) H') → t D' σ H) (k : ∀ v H', R v H' → rest D (σ.set i (some v)) H') : tSeq t rest D σ H :=
  h { D with nx := rest D } k
/-! ### names that the law draws -/
abbrev CDraw (P : Program) (w : World) (K : PySem.W.Frag) (mg : Str → Option Value) (base : Heap) : Prop := Cal P w K mg base "_law_draw" 1 ["_law_source_here", "_law_limit"] spDraw
def Plain (n : Nat) (z : Str) : Prop := ∃ c l, tl z = c :: l ∧ c ∈ lett ∧ (∀ d ∈ l, d ∈ lett ++ digs) ∧ l.length + 1 ≤ n
def NameOk (z : Str) : Prop := fullB z = true ∧ z.length ≤ 17 ∧ ∃ c l, tl z = c :: l ∧ c ∈ lett ∧ ∀ d ∈ l, d ∈ lett ++ digs ++ [46]
theorem Plain.le {n m : Nat} {z : Str} (h : Plain n z) (l : n ≤ m) : Plain m z := by
  obtain ⟨c, r, e, h1, h2, h3⟩ := h
  exact ⟨c, r, e, h1, h2, by omega⟩
theorem Plain.len {n : Nat} {z : Str} (h : Plain n z) : 1 ≤ z.length ∧ z.length ≤ n := by
  obtain ⟨c, r, e, h1, h2, h3⟩ := h
  rw [len_tl, e, List.length_cons]
  omega
theorem Plain.app {n m : Nat} {x y : Str} (a : Plain n x) (b : y.length ≤ m ∧ ∀ c ∈ tl y, c ∈ lett ++ digs) : Plain (n + m) (x ++ y) := by
  obtain ⟨c, r, e, h1, h2, h3⟩ := a
  have hl := b.1
  rw [len_tl] at hl
  refine ⟨c, r ++ tl y, by rw [tl_append, e]; rfl, h1, fun d hd => ?_, by rw [List.length_append]; omega⟩
  rcases List.mem_append.mp hd with h | h
  · exact h2 d h
  · exact b.2 d h
theorem Plain.short {z : Str} (h : Plain 8 z) (l : z.length < 8) : Plain 7 z := by
  obtain ⟨c, r, e, h1, h2, h3⟩ := h
  rw [len_tl, e, List.length_cons] at l
  exact ⟨c, r, e, h1, h2, by omega⟩
theorem split_dot (z : Str) : Txt.split z "." = (spl [46] 0 [] (tl z)).map SX.S := by
  have e1 : z = SX.S (tl z) := TL.ext_tl rfl
  conv => lhs; rw [e1]
  exact SX.split_S (a := tl z) (b := [46]) (List.cons_ne_nil _ _) (by decide)
theorem fullB_spl (z : Str) : fullB z = (spl [46] 0 [] (tl z)).all okName := by
  unfold fullB
  rw [split_dot, List.all_map]
  rfl
theorem ld_no46 : ∀ d ∈ lett ++ digs, d ≠ 46 := by decide
theorem Plain.free {n : Nat} {z : Str} (h : Plain n z) : 46 ∉ tl z := by
  obtain ⟨c, r, e, h1, h2, h3⟩ := h
  rw [e]
  intro hm
  rcases List.mem_cons.mp hm with h | h
  · exact ld_no46 c (List.mem_append_left _ h1) h.symm
  · exact ld_no46 _ (h2 _ h) rfl
theorem Plain.ok {z : Str} (h : Plain 8 z) : okName (tl z) = true := by
  obtain ⟨c, r, e, h1, h2, h3⟩ := h
  rw [e]
  show (decide ((c :: r).length ≤ 8) && decide (c ∈ lett) && (c :: r).all fun d => decide (d ∈ lett ++ digs)) = true
  rw [decide_eq_true (show (c :: r).length ≤ 8 from h3), decide_eq_true h1]
  refine List.all_eq_true.mpr fun d hd => decide_eq_true ?_
  rcases List.mem_cons.mp hd with rfl | h
  · exact List.mem_append_left _ h1
  · exact h2 d h
theorem Plain.name {z : Str} (h : Plain 8 z) : NameOk z := by
  have ho := h.ok
  have hf := h.free
  have hl := h.len
  obtain ⟨c, r, e, h1, h2, h3⟩ := h
  refine ⟨?_, by omega, c, r, e, h1, fun d hd => List.mem_append_left _ (h2 d hd)⟩
  rw [fullB_spl, spl_last1 hf, List.nil_append]
  show (okName (tl z) && true) = true
  rw [ho]
  rfl
theorem Plain.dot {a b : Str} (ha : Plain 8 a) (hb : Plain 8 b) : NameOk (a ++ Str.ofString "." ++ b) := by
  have e : tl (a ++ Str.ofString "." ++ b) = tl a ++ ([46] ++ tl b) := by
    rw [tl_append, tl_append, List.append_assoc]
    rfl
  have oa := ha.ok
  have ob := hb.ok
  have fa := ha.free
  have fb := hb.free
  have la := ha.len
  have lb := hb.len
  refine ⟨?_, ?_, ?_⟩
  · rw [fullB_spl, e, spl_part1 (S := []) fa, spl_last1 fb, List.nil_append, List.nil_append]
    show (okName (tl a) && (okName (tl b) && true)) = true
    rw [oa, ob]
    rfl
  · rw [app_len, app_len, show (Str.ofString ".").length = 1 by decide +kernel]
    omega
  · obtain ⟨c, r, e1, h1, h2, h3⟩ := ha
    obtain ⟨c2, r2, e2, h12, h22, h32⟩ := hb
    refine ⟨c, r ++ ([46] ++ tl b), by rw [e, e1]; rfl, h1, fun d hd => ?_⟩
    rcases List.mem_append.mp hd with h | h
    · exact List.mem_append_left _ (h2 d h)
    · rcases List.mem_append.mp h with h | h
      · exact List.mem_append_right _ h
      · rw [e2] at h
        refine List.mem_append_left _ ?_
        rcases List.mem_cons.mp h with rfl | h
        · exact List.mem_append_left _ h12
        · exact h22 d h
theorem plain_sign {c : Nat} (hc : c ∈ tl (Str.ofString "abcdefghijklmnopqrstuvwxyz")) : Plain 1 (⟨#[c]⟩ : Str) := by
  rw [tl_lett] at hc
  exact ⟨c, [], rfl, hc, (fun d hd => by cases hd), Nat.le_refl _⟩
theorem ld_sign {c : Nat} (hc : c ∈ tl (Str.ofString "abcdefghijklmnopqrstuvwxyz0123456789")) : (⟨#[c]⟩ : Str).length ≤ 1 ∧ ∀ d ∈ tl (⟨#[c]⟩ : Str), d ∈ lett ++ digs := by
  rw [tl_ld] at hc
  refine ⟨Nat.le_refl _, fun d hd => ?_⟩
  have e : d = c := by simpa using hd
  rw [e]
  exact hc
theorem name_cut {z : Str} (h : NameOk z) : (cutS z none (some 1)).length ≤ 1 ∧ ∀ c ∈ tl (cutS z none (some 1)), c ∈ lett ++ digs := by
  obtain ⟨_, _, c, l, e0, hc, _⟩ := h
  have h1 : 1 ≤ z.length := by rw [len_tl, e0, List.length_cons]; omega
  have e : tl (cutS z none (some 1)) = (tl z).take 1 := by
    show ((tl z).drop (HT.sIx z.length 0 none)).take (HT.sIx z.length z.length (some ((1 : Nat) : Int)) - HT.sIx z.length 0 none) = _
    rw [HT.sIx_none, HT.sIx_nat, List.drop_zero, Nat.sub_zero, Nat.min_eq_left h1]
  refine ⟨?_, fun d hd => ?_⟩
  · rw [len_tl, e]
    exact List.length_take_le ..
  · rw [e, e0] at hd
    rw [List.mem_singleton.mp hd]
    exact List.mem_append_left _ hc
theorem NameOk.tx {z : Str} (h : NameOk z) : 1 ≤ z.length ∧ z.length ≤ 17 := by
  obtain ⟨_, h2, c, l, e0, hc, _⟩ := h
  exact ⟨by rw [len_tl, e0, List.length_cons]; omega, h2⟩
section
variable {P : Program} {w : World} {K : PySem.W.Frag} {mg : Str → Option Value} {base : Heap}
@[irreducible] def spNames (K : PySem.W.Frag) : Sp := fun vs H Q _ => ∃ (s : Addr) (k : Nat), vs = [.ref s, .int (k : Int)] ∧ Src H s ∧ k ≤ 5 ∧ ∀ (p : Addr) (ns : List Str) (H' : Hp), SameBut s H H' → Src H' s → SqT K H' p (ns.map V.str) → Asc ns → (∀ z ∈ ns, NameOk z) → ns.length ≤ k → Q (.ref p) H'
set_option maxHeartbeats 2000000 in
theorem ok_names {f : Addr} {fd : FuncData} (F : Fun K "_law_names" "_law_names" s__law_names f fd) (m_range : mg "range" = none) (m_len : mg "len" = none) (m_tuple : mg "tuple" = none) (m_sorted : mg "sorted" = none) (C__law_draw : CDraw P w K mg base) : FnOk P w K mg base CX0 2 f fd ["_law_source_here", "_law_most"] (spNames K) := by
  refine F.ok sc__law_names (fun vs H Q E h => ?_) (fun cdv A outer s H vs Q E hr h => ?_)
  · unfold spNames at h
    obtain ⟨s, k, rfl, _⟩ := h
    rfl
  · unfold spNames at h
    obtain ⟨src, k, rfl, hA, hk, q⟩ := h
    refine ⟨_, (pss_cons (ps_set (i := 2) sc__law_names.nd rfl (Or.inl rfl) (pe_lst pa_nil))
    (pss_cons (ps_for PassesOwn.never rfl (pi_range1 (by rfl) m_range (pa_cons (pv 1) pa_nil)) (pg_name (i := 3) sc__law_names.nd rfl (Or.inl rfl))
      (pss_cons (ps_set (i := 4) sc__law_names.nd rfl (Or.inl rfl) (pe_ix ix_str pe_str (pe_cal C__law_draw (hr.mono (by decide)) (pa_cons (pv 0) (pa_cons pe_int pa_nil))) (fun _ _ => rfl)))
    (pss_cons (ps_for PassesOwn.never rfl (pi_range1 (by rfl) m_range (pa_cons (pe_ix ix_list (pe_lst (pa_cons pe_int (pa_cons pe_int (pa_cons pe_int (pa_cons pe_int pa_nil))))) (pe_cal C__law_draw (hr.mono (by decide)) (pa_cons (pv 0) (pa_cons pe_int pa_nil))) (fun _ _ => rfl)) pa_nil)) (pg_name (i := 5) sc__law_names.nd rfl (Or.inl rfl))
      (pss_one (ps_set (i := 4) sc__law_names.nd rfl (Or.inl rfl) (pe_op op_add_str (pv 4) (pe_ix ix_str pe_str (pe_cal C__law_draw (hr.mono (by decide)) (pa_cons (pv 0) (pa_cons pe_int pa_nil))) (fun _ _ => rfl))))))
    (pss_cons (ps_set (i := 6) sc__law_names.nd rfl (Or.inl rfl) (pe_cal C__law_draw (hr.mono (by decide)) (pa_cons (pv 0) (pa_cons pe_int pa_nil))))
    (pss_cons (ps_if (PW.pt (pw_and (pt_cmpR op_eq (pv 6) pe_int (nomark _)) (pw_and1 (pt_cmpR op_gt (pe_callB call_len_seq (by rfl) m_len PySem.boot_len (pa_cons (pv 2) pa_nil)) pe_int (nomark _)))))
      (pss_one (ps_set (i := 4) sc__law_names.nd rfl (Or.inl rfl) (pe_op op_add_str (pe_op op_add_str (pe_ix ix_list (pv 2) pe_int (fun _ _ => rfl)) pe_str) (pv 4))))
      pss_nil)
    (pss_cons (ps_if (PW.pt (pw_and (pt_cmpR op_eq (pv 6) pe_int (nomark _)) (pw_and (pt_cmpR op_gt (pe_callB call_len_seq (by rfl) m_len PySem.boot_len (pa_cons (pv 2) pa_nil)) pe_int (nomark _)) (pw_and1 (pt_cmpR op_lt (pe_callB call_len_str (by rfl) m_len PySem.boot_len (pa_cons (pe_ix ix_list (pv 2) pe_int (fun _ _ => rfl)) pa_nil)) pe_int (nomark _))))))
      (pss_one (ps_set (i := 4) sc__law_names.nd rfl (Or.inl rfl) (pe_op op_add_str (pe_ix ix_list (pv 2) pe_int (fun _ _ => rfl)) (pe_slice sl_str (pv 4) po_none (po_some pe_int)))))
      pss_nil)
    (pss_one (ps_if (PW.pt (pw_and (pt_cmpR op_notIn_seq (pv 4) (pv 2) (by rfl)) (pw_and1 (pt_cmpR op_gt (pe_cal C__law_draw (hr.mono (by decide)) (pa_cons (pv 0) (pa_cons pe_int pa_nil))) pe_int (nomark _)))))
      (pss_one (ps_expr (pe_bm PySem.F.plainAttrs_list PySem.F.slot_list_append PySem.F.type_list_append mt_append (pv 2) (pa_cons (pv 4) pa_nil))))
      pss_nil))))))))
    (pss_one (ps_ret (pe_callTy (T := "tuple") call_tuple_of (by rfl) m_tuple (by decide +kernel) (pa_cons (pe_callB (id := "sorted") cr_sortedS (by rfl) m_sorted (by decide +kernel) (pa_cons (pv 2) pa_nil)) pa_nil)))))), ?_⟩
    walk_at "rd"
    refine ⟨sz (by decide), fun L nL => ?_⟩
    have nLs := src_ne hA nL
    have hL0 := upd_same (H := H) (a := L) (o := .lst (([] : List Str).map V.str))
    have hA0 := src_upd hA nLs (u := .lst (([] : List Str).map V.str))
    have b0 : SameBut src H (upd H L (.lst (([] : List Str).map V.str))) := Bx.Same.but (same_new nL)
    walk_at "rd"
    refine ⟨by omega, by omega, for_it walk_range (fun i σ H' => ∃ (o3 o4 o5 o6 : Option V) (ms : List Str), σ = [some (.ref src), some (.int (k : Int)), some (.ref L), o3, o4, o5, o6] ∧ SameBut src H H' ∧ Src H' src ∧ H' L = some (.lst (ms.map V.str)) ∧ ms.length ≤ i ∧ (∀ z ∈ ms, NameOk z) ∧ (∀ z, ms[0]? = some z → Plain 8 z) ∧ ms.Nodup)
      ⟨none, none, none, none, [], rfl, b0, hA0, hL0, Nat.le_refl _, (fun z hz => by cases hz), (fun z hz => by cases hz), List.nodup_nil⟩ (fun _ _ _ _ _ => trivial) ?_ ?_⟩
    · rintro i x σ H1 H1' hi ⟨o3, o4, o5, o6, ms, rfl, s1, hA1, hL1, hml, t17, t8, nd⟩ ⟨rfl, rfl⟩
      have hi5 : i < 5 := by omega
      walk_at "rd"
      refine draw_of (lim := 26) hA1 (by decide) fun r H2 h0 h1 s2 hA2 => ?_
      obtain ⟨c, hc, hm⟩ := pick (L := "abcdefghijklmnopqrstuvwxyz") h0 h1
      have tc := plain_sign hm
      refine ⟨_, _, _, rfl, rfl, (by decide), hc, ?_⟩
      walk_at "rd"
      refine ⟨sz (by decide), fun l0 nl0 => ?_⟩
      have nl0s := src_ne hA2 nl0
      have hl0 := upd_same (H := H2) (a := l0) (o := .lst ([0, 0, 1, 7].map V.int))
      walk_at "rd"
      refine draw_of (lim := 4) (src_upd hA2 nl0s) (by decide) fun r4 H3 h2 h3 s3 hA3 => ?_
      have hl3 := s3 _ _ nl0s.symm hl0
      obtain ⟨m, rfl⟩ := Int.eq_ofNat_of_zero_le h2
      have hm4 : m < [(0 : Int), 0, 1, 7].length := by
        show m < 4
        omega
      refine ⟨_, _, _, _, rfl, rfl, sq hl3, int_at (k := m) hm4, ?_⟩
      have he : (0 : Int) ≤ [(0 : Int), 0, 1, 7][m] ∧ [(0 : Int), 0, 1, 7][m] ≤ 7 := by
        have a : ∀ x ∈ [(0 : Int), 0, 1, 7], 0 ≤ x ∧ x ≤ 7 := by decide
        exact a _ (List.getElem_mem hm4)
      generalize [(0 : Int), 0, 1, 7][m] = e at he ⊢
      have b3 : SameBut src H1' H3 := s2.trans (but_new nl0 s3)
      have nLH1 : ∀ {H' : Hp}, SameBut src H1' H' → H' L = some (.lst (ms.map V.str)) := fun s => s _ _ nLs.symm hL1
      walk_at "rd"
      refine ⟨by omega, by omega, for_it walk_range (fun j σ H' => ∃ (o5 : Option V) (z : Str), σ = [some (.ref src), some (.int (k : Int)), some (.ref L), some (.int (0 + (i : Nat))), some (.str z), o5, o6] ∧ SameBut src H1' H' ∧ Src H' src ∧ Plain (1 + j) z)
        ⟨o5, _, rfl, b3, hA3, tc⟩ (fun _ _ _ _ _ => trivial) ?_ ?_⟩
      · rintro j y σ H4 H4' hj ⟨o5, z, rfl, s4, hA4, tz⟩ ⟨rfl, rfl⟩
        walk_at "rd"
        refine draw_of (lim := 36) hA4 (by decide) fun r5 H5 h4 h5 s5 hA5 => ?_
        obtain ⟨c, hc, hm⟩ := pick (L := "abcdefghijklmnopqrstuvwxyz0123456789") h4 h5
        have tc2 := ld_sign hm
        refine ⟨_, _, _, rfl, rfl, (by decide), hc, ?_⟩
        walk_at "rd"
        have tn := tz.app (m := 1) tc2
        refine ⟨szl (by have := tz.len; have := tc2.1; omega), ?_⟩
        exact ⟨_, _, rfl, s4.trans s5, hA5, by rw [← Nat.add_assoc]; exact tn⟩
      rintro σ H4 ⟨o5, z, rfl, s4, hA4, tz⟩
      have tz8 : Plain 8 z := tz.le (by omega)
      walk_at "rd"
      refine draw_of (lim := 6) hA4 (by decide) fun r6 H5 h4 h5 s5 hA5 => ?_
      have b5 := s4.trans s5
      have hL5 := nLH1 b5
      have first : 0 < ms.length → ∃ z0, ms[0]? = some z0 ∧ atI (ms.map V.str) 0 = some (.str z0) ∧ Plain 8 z0 := fun h => by
        have e := List.getElem?_eq_getElem h
        exact ⟨ms[0], e, atI_nat (j := 0) (by rw [List.getElem?_map, e]; rfl), t8 _ e⟩
      dsimp only [gName]
      refine st_gi (i := 4) (fun v H' => H' = H5 ∧ ∃ z', v = .str z' ∧ NameOk z' ∧ (ms.length = 0 → Plain 8 z')) (fun D' hD' => ?_) ?_
      · have keep := hD' (.str z) H5 ⟨rfl, z, rfl, tz8.name, fun _ => tz8⟩
        walk_at "rd"
        refine ite2 (fun h6 => ?_) (fun h6 => ?_)
        · walk_at "rd"
          refine ⟨_, _, rfl, .inl (sq hL5), ?_⟩
          walk_at "rd"
          refine ite2 (fun h7 => ?_) (fun h7 => ?_)
          · have h8 : 0 < ms.length := by
              have z1 : (0 : Int) < ((ms.map V.str).length : Nat) := of_decide_eq_true h7
              rw [List.length_map] at z1
              omega
            obtain ⟨z0, e0, a0, t0⟩ := first h8
            walk_at "rd"
            refine ⟨_, _, _, _, rfl, rfl, sq hL5, a0, ?_⟩
            walk_at "rd"
            have te := t0.dot tz8
            refine ⟨szl (by have := te.2.1; rw [app_len, app_len, show (Str.ofString ".").length = 1 by decide +kernel] at this; omega), ?_⟩
            walk_at "rd"
            refine ⟨sz (show (z0 ++ Str.ofString ".").length + z.length ≤ 100000 by have := te.2.1; rw [app_len] at this; omega), ?_⟩
            exact hD' _ H5 ⟨rfl, _, rfl, te, fun h => absurd h (by omega)⟩
          · walk_at "rd"
            exact keep
        · walk_at "rd"
          exact keep
      rintro v H6 ⟨rfl, z1, rfl, tz1, tz10⟩
      refine st_gi (i := 4) (fun v H' => H' = H6 ∧ ∃ z', v = .str z' ∧ NameOk z' ∧ (ms.length = 0 → Plain 8 z')) (fun D' hD' => ?_) ?_
      · have keep := hD' (.str z1) H6 ⟨rfl, z1, rfl, tz1, tz10⟩
        walk_at "rd"
        refine ite2 (fun h6 => ?_) (fun h6 => ?_)
        · walk_at "rd"
          refine ⟨_, _, rfl, .inl (sq hL5), ?_⟩
          walk_at "rd"
          refine ite2 (fun h7 => ?_) (fun h7 => ?_)
          · have h8 : 0 < ms.length := by
              have z1 : (0 : Int) < ((ms.map V.str).length : Nat) := of_decide_eq_true h7
              rw [List.length_map] at z1
              omega
            obtain ⟨z0, e0, a0, t0⟩ := first h8
            walk_at "rd"
            refine ⟨_, _, _, _, rfl, rfl, sq hL5, a0, ?_⟩
            walk_at "rd"
            refine ⟨sz (by have := t0.len; omega), ?_⟩
            walk_at "rd"
            refine ite2 (fun h9 => ?_) (fun h9 => ?_)
            · walk_at "rd"
              refine ⟨_, _, _, _, rfl, rfl, sq hL5, a0, ?_⟩
              walk_at "rd"
              have h10 : z0.length < 8 := by have z9 : ((z0.length : Nat) : Int) < 8 := of_decide_eq_true h9; omega
              refine ⟨sz (by have := tz1.2.1; omega), ?_⟩
              walk_at "rd"
              have te : Plain 8 (z0 ++ cutS z1 none (some 1)) := ((t0.short h10).app (m := 1) (name_cut tz1)).le (by decide)
              refine ⟨sz (show z0.length + (cutS z1 none (some 1)).length ≤ 100000 by have := te.len.2; rw [app_len] at this; omega), ?_⟩
              exact hD' _ H6 ⟨rfl, _, rfl, te.name, fun h => absurd h (by omega)⟩
            · walk_at "rd"
              exact keep
          · walk_at "rd"
            exact keep
        · walk_at "rd"
          exact keep
      rintro v H7 ⟨rfl, z2, rfl, tz2, tz20⟩
      walk_at "rd"
      refine ⟨L, _, rfl, .inl (sq hL5), rfl, Bx.flat_all _, ?_⟩
      rw [Bx.inV_str]
      refine ⟨_, rfl, ite2 (fun h6 => ?_) (fun h6 => ?_)⟩
      · have nin : z2 ∉ ms := fun h => by
          rw [if_pos rfl] at h6
          simp [h] at h6
        walk_at "rd"
        refine draw_of (lim := 6) hA5 (by decide) fun r7 H8 _ _ s8 hA8 => ?_
        have b8 := b5.trans s8
        have hL8 := nLH1 b8
        walk_at "rd"
        refine ite2 (fun h7 => ?_) (fun h7 => ?_)
        · walk_at "rd"
          refine ⟨.inl ⟨rfl, _, sq hL8⟩, ?_⟩
          walk_at "rd"
          refine ⟨L, _, _, rfl, rfl, hL8, szl (by rw [List.length_map]; omega), ?_⟩
          refine ⟨_, _, _, _, ms ++ [z2], rfl, but_at nL (s1.trans b8), src_upd hA8 nLs, by rw [upd_same, List.map_append]; rfl, by rw [List.length_append]; show ms.length + 1 ≤ i + 1; omega, fun x hx => ?_, fun x hx => ?_, ?_⟩
          · rcases List.mem_append.mp hx with h | h
            · exact t17 x h
            · rw [List.mem_singleton.mp h]
              exact tz2
          · rcases Nat.eq_zero_or_pos ms.length with h | h
            · have e : ms = [] := List.length_eq_zero_iff.mp h
              subst e
              have e2 : z2 = x := Option.some.inj hx
              rw [← e2]
              exact tz20 rfl
            · rw [List.getElem?_append_left h] at hx
              exact t8 x hx
          · rw [List.nodup_append]
            refine ⟨nd, List.nodup_cons.mpr ⟨List.not_mem_nil, List.nodup_nil⟩, fun a ha b hb e => ?_⟩
            rw [List.mem_singleton.mp hb] at e
            exact nin (by rw [← e]; exact ha)
        · walk_at "rd"
          exact ⟨_, _, _, _, ms, rfl, s1.trans b8, hA8, hL8, by omega, t17, t8, nd⟩
      · walk_at "rd"
        exact ⟨_, _, _, _, ms, rfl, s1.trans b5, hA5, hL5, by omega, t17, t8, nd⟩
    · rintro σ H1 ⟨o3, o4, o5, o6, ms, rfl, s1, hA1, hL1, hml, t17, t8, nd⟩
      walk_at "rd"
      have hml5 : ms.length ≤ 5 := by omega
      refine ⟨L, ms, rfl, sq hL1, by omega, fun ys p pm st np => ?_⟩
      have u1 := same_new np (o := .lst (ys.map V.str))
      have hp := upd_same (H := H1) (a := p) (o := .lst (ys.map V.str))
      generalize upd H1 p (.lst (ys.map V.str)) = H2 at u1 hp ⊢
      refine ⟨p, _, rfl, .inl ⟨sq hp, fun r nr => ?_⟩⟩
      have u2 := same_new nr (o := .tup (ys.map V.str))
      have u := u1.trans u2
      exact q r ys _ (s1.trans (Bx.Same.but u)) (src_same hA1 u) (sqt upd_same) (asc_of st (pm.nodup_iff.mpr nd)) (fun x hx => t17 x (pm.mem_iff.mp hx)) (by rw [pm.length_eq]; exact hml)
end
end K06
namespace K06
open PySem PySem.Spec PyProof.Rows L2 Bx TL Dx Sup Er NdefX
open Px (pe_calE)
local macro_rules | `(tactic| walk_at "rd") => `(tactic| repeat (first | refine ⟨rfl, ?_⟩ | refine ⟨_, rfl, ?_⟩ | refine ⟨_, _, rfl, rfl, ?_⟩ | refine ⟨⟨_, rfl⟩, ?_⟩))
local macro_rules
  | `(tactic| tm_at $s:str) => do
    let id (x : String) := Lean.mkIdent (Lean.Name.mkSimple x)
    match s.getString.splitOn " " with
    | ["rd"] => `(tactic| walk_at "rd")
    | ["sz"] => `(tactic| first | exact sz (by decide) | exact szl (by decide) | exact sz (by show _ ≤ 100000; decide) | ((first | refine sz ?_ | refine szl ?_); (try simp only [List.length_map, List.length_append, List.length_cons, List.length_nil, List.length_take, List.length_drop]); omega) | fail "sz: no bound")
    | ["gn", p, h] => `(tactic| (generalize hu : upd _ $(id p) _ = $(id ("H" ++ p)); obtain ⟨$(id ("s" ++ p)), $(id h)⟩ := Go.al $(id ("n" ++ p)) hu; clear hu))
    | ["al", p] => `(tactic| (refine ⟨by tm_at "sz", fun $(id p) $(id ("n" ++ p)) => ?_⟩; generalize hu : upd _ $(id p) _ = $(id ("H" ++ p)); obtain ⟨$(id ("s" ++ p)), $(id ("h" ++ p))⟩ := Go.al $(id ("n" ++ p)) hu; clear hu; tm_at "rd"))
    | ["al0", p] => `(tactic| (refine ⟨by tm_at "sz", fun $(id p) $(id ("n" ++ p)) => ?_⟩; generalize hu : upd _ $(id p) _ = $(id ("H" ++ p)); obtain ⟨$(id ("s" ++ p)), $(id ("h" ++ p))⟩ := Go.al $(id ("n" ++ p)) hu; clear hu; tm_at "rd"))
    | ["new", p] => `(tactic| (refine fun $(id p) $(id ("n" ++ p)) => ?_; generalize hu : upd _ $(id p) _ = $(id ("H" ++ p)); obtain ⟨$(id ("s" ++ p)), $(id ("h" ++ p))⟩ := Go.al $(id ("n" ++ p)) hu; clear hu; tm_at "rd"))
    | ["new0", p] => `(tactic| (refine fun $(id p) $(id ("n" ++ p)) => ?_; generalize hu : upd _ $(id p) _ = $(id ("H" ++ p)); obtain ⟨$(id ("s" ++ p)), $(id ("h" ++ p))⟩ := Go.al $(id ("n" ++ p)) hu; clear hu; tm_at "rd"))
    | ["up"] => `(tactic| first
        | assumption | exact sq (by assumption) | exact sqt (by assumption) | exact PlT.sq (by assumption)
        | (refine' Bx.Same.tup (by assumption) ?hh; (case hh => tm_at "up")) | (refine' Same.seq (by assumption) ?hh; (case hh => tm_at "up")) | (refine' Go.get (by assumption) ?hh; (case hh => tm_at "up")) | (refine' dpAll_same (by assumption) ?hh; (case hh => tm_at "up")) | (refine' dp_same (by assumption) ?hh; (case hh => tm_at "up")) | (refine' PlT.same (by assumption) ?hh; (case hh => tm_at "up")) | (refine' Go.srcS (by assumption) ?hh; (case hh => tm_at "up"))
        | (refine' Go.tupB (s := _) (by assumption) (by assumption) ?hh; (case hh => tm_at "up")) | (refine' Go.dkB (s := _) (by assumption) (by assumption) ?hh; (case hh => tm_at "up")) | (refine' Go.insB (s := _) (by assumption) (by assumption) ?hh; (case hh => tm_at "up")) | (refine' Go.pltB (s := _) (by assumption) (by assumption) ?hh; (case hh => tm_at "up"))
        | (refine' Go.getB (by assumption) (by first | assumption | exact Ne.symm (by assumption)) ?hh; (case hh => tm_at "up"))
        | (refine' sq ?hh; (case hh => tm_at "raw")) | (refine' sqt ?hh; (case hh => tm_at "raw")) | (refine' PlT.sq ?hh; (case hh => tm_at "raw")) | fail "up: no fact")
    | ["raw"] => `(tactic| first
        | assumption | (refine' Go.get (by assumption) ?hh; (case hh => tm_at "raw")) | (refine' PlT.same (by assumption) ?hh; (case hh => tm_at "raw")) | (refine' Go.pltB (s := _) (by assumption) (by assumption) ?hh; (case hh => tm_at "raw")) | (refine' Go.getB (by assumption) (by first | assumption | exact Ne.symm (by assumption)) ?hh; (case hh => tm_at "raw")) | fail "raw: no fact")
    | ["sq"] => `(tactic| first | exact .inl (by tm_at "up") | exact .inr (by tm_at "up") | fail "sq: no fact")
    | ["ix", j] => `(tactic| (refine ⟨_, _, _, _, rfl, rfl, by tm_at "up", by exact atI_nat (j := $(Lean.Syntax.mkNumLit j)) rfl, ?_⟩; tm_at "rd"))
    | ["ixh", h] => `(tactic| (refine ⟨_, _, _, _, rfl, rfl, by tm_at "up", by first | exact Go.at_mapV $(id h) | exact Go.at_mapZ $(id h) | exact atI_nat $(id h) | exact Go.at_nat0 $(id h), ?_⟩; tm_at "rd"))
    | ["len"] => `(tactic| (refine ⟨_, _, rfl, by tm_at "sq", ?_⟩; (try rw [List.length_map]); tm_at "rd"))
    | ["tp", p] => `(tactic| (refine ⟨_, _, rfl, .inl ⟨by tm_at "up", fun $(id p) $(id ("n" ++ p)) => ?_⟩⟩; generalize hu : upd _ $(id p) _ = $(id ("H" ++ p)); obtain ⟨$(id ("s" ++ p)), $(id ("h" ++ p))⟩ := Go.al $(id ("n" ++ p)) hu; clear hu; tm_at "rd"))
    | ["tp0", p] => `(tactic| (refine ⟨_, _, rfl, .inl ⟨by tm_at "up", fun $(id p) $(id ("n" ++ p)) => ?_⟩⟩; generalize hu : upd _ $(id p) _ = $(id ("H" ++ p)); obtain ⟨$(id ("s" ++ p)), $(id ("h" ++ p))⟩ := Go.al $(id ("n" ++ p)) hu; clear hu; tm_at "rd"))
    | ["ls", p] => `(tactic| (refine ⟨_, _, rfl, by tm_at "sq", fun $(id p) $(id ("n" ++ p)) => ?_⟩; generalize hu : upd _ $(id p) _ = $(id ("H" ++ p)); obtain ⟨$(id ("s" ++ p)), $(id ("h" ++ p))⟩ := Go.al $(id ("n" ++ p)) hu; clear hu; tm_at "rd"))
    | ["ls0", p] => `(tactic| (refine ⟨_, _, rfl, by tm_at "sq", fun $(id p) $(id ("n" ++ p)) => ?_⟩; generalize hu : upd _ $(id p) _ = $(id ("H" ++ p)); obtain ⟨$(id ("s" ++ p)), $(id ("h" ++ p))⟩ := Go.al $(id ("n" ++ p)) hu; clear hu; tm_at "rd"))
    | ["tf", p] => `(tactic| (refine ⟨_, _, rfl, by tm_at "up", fun $(id p) $(id ("o" ++ p)) $(id ("n" ++ p)) $(id ("d" ++ p)) => ?_⟩; generalize hu : upd _ $(id p) _ = $(id ("H" ++ p)); obtain ⟨$(id ("s" ++ p)), $(id ("h" ++ p))⟩ := Go.alF $(id ("n" ++ p)) $(id ("d" ++ p)) hu; clear hu; tm_at "rd"))
    | ["alF", p] => `(tactic| (refine ⟨by tm_at "sz", fun $(id p) $(id ("o" ++ p)) $(id ("n" ++ p)) $(id ("d" ++ p)) => ?_⟩; generalize hu : upd _ $(id p) _ = $(id ("H" ++ p)); obtain ⟨$(id ("s" ++ p)), $(id ("h" ++ p))⟩ := Go.alF $(id ("n" ++ p)) $(id ("d" ++ p)) hu; clear hu; tm_at "rd"))
    | ["bare", k] => `(tactic| (refine fun $(id k) $(id ("d" ++ k)) $(id ("n" ++ k)) $(id ("nd" ++ k)) $(id ("ne" ++ k)) => ?_; generalize hu : upd (upd _ $(id ("d" ++ k)) _) $(id k) _ = $(id ("H" ++ k)); obtain ⟨$(id ("s" ++ k)), $(id ("h" ++ k))⟩ := Go.bare $(id ("n" ++ k)) $(id ("nd" ++ k)) $(id ("ne" ++ k)) hu; clear hu; walk_at "rd"))
    | ["me"] => `(tactic| (refine ⟨_, _, _, rfl, by tm_at "up", rfl, ?_⟩; walk_at "rd"))
    | ["star"] => `(tactic| ((first | refine ⟨_, _, rfl, .inl (by tm_at "up"), ?_⟩ | refine ⟨_, _, rfl, .inr (by tm_at "up"), ?_⟩ | fail "star"); walk_at "rd"))
    | ["ap0"] => `(tactic| (refine ⟨.inl ⟨rfl, _, by tm_at "up"⟩, ?_⟩; tm_at "rd"))
    | ["ap"] => `(tactic| refine ⟨_, _, _, rfl, rfl, by tm_at "up", by tm_at "sz", ?_⟩)
    | ["un", n] => match n with
      | "2" => `(tactic| (refine ⟨_, _, rfl, by tm_at "up", rfl, _, _, rfl, _, _, rfl, rfl, ?_⟩; tm_at "rd"))
      | _ => `(tactic| (refine ⟨_, _, rfl, by tm_at "up", rfl, _, _, rfl, _, _, rfl, _, _, rfl, rfl, ?_⟩; tm_at "rd"))
    | _ => Lean.Macro.throwUnsupported
/-! ### parse_assignment -/
def okAsg (x z : Str) : Bool := okTs x (toks z)
def asgOf (x z : Str) : Asg := tsOf x (toks z)
theorem spl1_mem {c0 : Nat} : ∀ (l acc p : List Nat) (d : Nat), p ∈ TL.spl [c0] 0 acc l → d ∈ p → d ∈ acc ∨ d ∈ l
  | [], acc, p, d, h, hd => by
    rw [TL.spl_nil] at h
    rw [List.mem_singleton.mp h] at hd
    exact .inl hd
  | c :: r, acc, p, d, h, hd => by
    cases e : TL.pre [c0] (c :: r) with
    | true =>
      rw [TL.spl_hit e] at h
      rcases List.mem_cons.mp h with rfl | h
      · exact .inl hd
      · rcases spl1_mem r [] p d h hd with h | h
        · cases h
        · exact .inr (List.mem_cons_of_mem _ h)
    | false =>
      rw [TL.spl_miss e] at h
      rcases spl1_mem r (acc ++ [c]) p d h hd with h | h
      · rcases List.mem_append.mp h with h | h
        · exact .inl h
        · exact .inr (by rw [List.mem_singleton.mp h]; exact List.mem_cons_self)
      · exact .inr (List.mem_cons_of_mem _ h)
theorem toks_small {z : Str} (h : z.length ≤ 640) (hd : ∀ d ∈ tl z, d < 0x110000) : (toks z).length ≤ 1000 ∧ ∀ t ∈ toks z, t.length ≤ 640 ∧ ∀ d ∈ tl t, d < 0x110000 := by
  unfold toks
  split
  · exact ⟨Nat.zero_le _, fun t h => by cases h⟩
  · have e : Txt.split z (Str.ofString " ") = (TL.spl [32] 0 [] (tl z)).map SX.S := by
      have e1 : z = SX.S (tl z) := TL.ext_tl rfl
      conv => lhs; rw [e1]
      exact SX.split_S (a := tl z) (b := [32]) (List.cons_ne_nil _ _) (by decide)
    refine ⟨by have := PyProof.Rows.split_le z (Str.ofString " "); omega, fun t ht => ?_⟩
    rw [e] at ht
    obtain ⟨q, hq, rfl⟩ := List.mem_map.mp ht
    refine ⟨?_, fun d h2 => ?_⟩
    · have h1 := spl1_len _ _ _ hq
      rw [SX.S_len]
      have h2 := len_tl z
      rw [List.length_nil] at h1
      omega
    · rcases spl1_mem _ _ _ d hq h2 with h3 | h3
      · cases h3
      · exact hd d h3
section
variable {P : Program} {w : World} {K : PySem.W.Frag} {mg : Str → Option Value} {base : Heap}
@[irreducible] def spParseA (C : Addr) : Sp := fun vs H Q E => ∃ (x z : Str) (i : Int), vs = [.str x, .str z, .int i] ∧ z.length ≤ 640 ∧ (∀ d ∈ tl z, d < 0x110000) ∧ i.natAbs.log2 < 1920 ∧
  (okAsg x z = true → ∀ p H', Same H H' → H p = none → DA H' p (asgOf x z) → Q (.ref p) H') ∧
  (okAsg x z = false → ∀ d H', Same H H' → H' d = some (.xd [(("line" : Str), .int i)]) → E (.ref C) (some d) H')
theorem ok_parseA {f C : Addr} {fd : FuncData} (F : FunD K "parse_assignment" "parse_assignment" (defArgs s_parse_assignment) (defBody s_parse_assignment) (defScope s_parse_assignment) [] [(("line" : Str), V.int 1)] f fd) (C__parse_entries : Px.CalE P w K mg base "_parse_entries" 6 ["word", "tokens", "line"] (spEntries C))
    (C__parse_grounded : Px.CalE P w K mg base "_parse_grounded" 7 ["tokens", "line"] (spGrounded C)) : FnOk P w K mg base (L2.CX P w) 8 f fd ["word", "text", "line"] (spParseA C) := by
  refine F.ok sc_parse_assignment (fun vs H Q E h => ?_) (fun cdv A outer s H vs Q E hr h => ?_)
  · unfold spParseA at h
    obtain ⟨x, z, i, rfl, _⟩ := h
    rfl
  · unfold spParseA at h
    obtain ⟨x, z, i, rfl, hz, hd, hi, q1, q2⟩ := h
    refine ⟨_, (pss_cons (ps_set (i := 3) sc_parse_assignment.nd rfl (Or.inl rfl) (pe_ifExp (pt_cmpR op_eq (pv 1) pe_str (nomark _)) (pe_lst pa_nil) (pe_split (pv 1) pe_str)))
    (pss_cons (ps_if (pt_cmpR op_eq (pv 0) pe_str (nomark _))
      (pss_one (ps_ret (pe_calE C__parse_grounded (takes_of rfl rfl rfl rfl) (hr.mono (by decide)) (pa_cons (pv 3) (pa_cons (pv 2) pa_nil)))))
      pss_nil)
    (pss_one (ps_ret (pe_calE C__parse_entries (takes_of rfl rfl rfl rfl) (hr.mono (by decide)) (pa_cons (pv 0) (pa_cons (pv 3) (pa_cons (pv 2) pa_nil)))))))), ?_⟩
    obtain ⟨tk1, tk2⟩ := toks_small hz hd
    try dsimp only [gName]
    refine Go.st_gi (i := 3) (fun v H' => ∃ T, v = .ref T ∧ Same H H' ∧ H' T = some (.lst ((toks z).map V.str))) (fun D' hD' _ => ?_) ?_
    · walk_at "rd"
      by_cases e : z = Str.ofString ""
      · rw [decide_eq_true (show V.str z = V.str (Str.ofString "") by rw [e])]
        iterate 1 refine iteT ?_
        tm_at "al T"
        exact hD' _ HT ⟨T, rfl, sT, by rw [show toks z = [] from if_pos e]; exact hT⟩
      · rw [decide_eq_false (show ¬ V.str z = V.str (Str.ofString "") from fun h => e (V.str.inj h))]
        walk_at "rd"
        refine ⟨sz (by omega), fun T nT => ?_⟩
        tm_at "gn T hT"
        exact hD' _ HT ⟨T, rfl, sT, by rw [show toks z = Txt.split z (Str.ofString " ") from if_neg e]; exact hT⟩
    · rintro v H1 ⟨T, rfl, s1, hT⟩
      walk_at "rd"
      unfold okAsg okTs at q1 q2
      unfold asgOf tsOf at q1
      by_cases e : x = wW
      · rw [decide_eq_true (show V.str x = V.str (Str.ofString "words") by rw [e])]
        rw [if_pos e] at q1 q2
        rw [if_pos e] at q1
        walk_at "rd"
        unfold spGrounded
        exact ⟨T, toks z, i, rfl, hT, tk1, tk2, hi, fun hk p H2 s2 np hp => q1 hk p H2 (Same.trans s1 s2) (nn s1 np) hp, fun hk d H2 s2 hd => q2 hk d H2 (Same.trans s1 s2) hd⟩
      · rw [decide_eq_false (show ¬ V.str x = V.str (Str.ofString "words") from fun h => e (V.str.inj h))]
        rw [if_neg e] at q1 q2
        rw [if_neg e] at q1
        walk_at "rd"
        unfold spEntries
        refine ⟨x, T, toks z, i, rfl, hT, tk1, tk2, hi, fun hk p us H2 s2 np hp hus => q1 hk p H2 (Same.trans s1 s2) (nn s1 np) ⟨us, ?_, ?_⟩, fun hk d H2 s2 hd => q2 hk d H2 (Same.trans s1 s2) hd⟩
        · rw [List.map_map, hp, entK_asK]
          rfl
        · rw [List.map_map]
          exact hus
end
end K06
namespace K06
open PySem PySem.Spec PyProof.Rows L2 Bx TL Dx Sup Er NdefX
/-! ### what is read back, what is refused -/
def tkn (n z : Str) : Str := n ++ Str.ofString "=" ++ z
theorem entV_tkn (n : Str) (a : Va) : entV n a = tkn n (txtV a) := TL.ext_tl (by
  unfold entV tkn
  rw [tl_append, tl_append, tl_append, tl_append, tl_append]
  rfl)
theorem tl_tkn (n z : Str) : tl (tkn n z) = tl n ++ 61 :: tl z := by
  unfold tkn
  rw [tl_append, tl_append, List.append_assoc]
  rfl
theorem part_tkn {n z : Str} (h : 61 ∉ tl n) : Txt.partition (tkn n z) (Str.ofString "=") = (n, Str.ofString "=", z) := TL.partition_app (s := 61) (S := []) rfl h
theorem lft_tkn {n z : Str} (h : 61 ∉ tl n) : lft (tkn n z) = n := by
  unfold lft
  rw [part_tkn h]
theorem rgt_tkn {n z : Str} (h : 61 ∉ tl n) : rgt (tkn n z) = z := by
  unfold rgt
  rw [part_tkn h]
theorem has_tkn {n z : Str} : hasEq (tkn n z) = true := decide_eq_true (by
  rw [tl_tkn]
  exact List.mem_append_right _ List.mem_cons_self)
/-- printed signs -/
def Ch (z : Str) : Prop := ∀ c ∈ tl z, 32 < c ∧ c < 128
theorem Ch.app {a b : Str} (ha : Ch a) (hb : Ch b) : Ch (a ++ b) := fun c hc => by
  rw [tl_append] at hc
  rcases List.mem_append.mp hc with h | h
  · exact ha c h
  · exact hb c h
theorem Ch.no {z : Str} (h : Ch z) : 32 ∉ tl z := fun hc => by
  have := h 32 hc
  omega
theorem ch_eq : Ch (Str.ofString "=") := by
  unfold Ch
  decide +kernel
theorem ch_num (i : Int) : Ch (Str.ofString (toString i)) := fun c hc => by
  have := numT_mem (i := i) hc
  omega
theorem ld_ch : ∀ d ∈ lett ++ digs ++ [46], 32 < d ∧ d < 128 ∧ d ≠ 61 := by decide
theorem NameOk.ch {z : Str} (h : NameOk z) : Ch z ∧ 61 ∉ tl z := by
  obtain ⟨_, _, c, l, e, hc, hl⟩ := h
  have a : ∀ d ∈ tl z, 32 < d ∧ d < 128 ∧ d ≠ 61 := fun d hd => by
    rw [e] at hd
    rcases List.mem_cons.mp hd with rfl | h
    · exact ld_ch d (List.mem_append_left _ (List.mem_append_left _ hc))
    · exact ld_ch d (hl d h)
  exact ⟨fun d hd => ⟨(a d hd).1, (a d hd).2.1⟩, fun h => (a 61 h).2.2 rfl⟩
theorem NameOk.head {z : Str} (h : NameOk z) : ∃ c l, tl z = c :: l ∧ c ≠ 61 := by
  obtain ⟨_, h2⟩ := h.ch
  obtain ⟨_, _, c, l, e, hc, hl⟩ := h
  refine ⟨c, l, e, fun h => h2 ?_⟩
  rw [e, h]
  exact List.mem_cons_self
abbrev wB : Str := Str.ofString "bits"
abbrev wR : Str := Str.ofString "rows"
abbrev wL : Str := Str.ofString "lines"
/-- a value that the law draws for this word; n is the length of words -/
def GoodVa (x : Str) (n : Nat) : Va → Prop
  | .num i => x ≠ wL ∧ x ≠ wW ∧ (x = wB → 0 ≤ i ∧ i ≤ 1) ∧ (x = wR → 0 ≤ i ∧ i ≤ 2) ∧ i.natAbs < 10 ^ 31
  | .frac a b => x = wL ∧ 1 ≤ b ∧ b ≤ 40 ∧ Nat.gcd a.natAbs b.natAbs = 1 ∧ a.natAbs < 10 ^ 31
  | .let z => x = wW ∧ okLet z = true ∧ z.length = n
theorem log31 {n : Nat} (h : n < 10 ^ 31) : n.log2 < 1920 := by
  by_cases h0 : n = 0
  · rw [h0]
    decide
  · exact (Nat.log2_lt h0).mpr (Nat.lt_trans h (by decide))
theorem GoodVa.ok {x : Str} {n : Nat} {a : Va} (h : GoodVa x n a) (hn : n ≤ 8) : OkVa x a := by
  cases a with
  | num i => exact ⟨h.1, log31 h.2.2.2.2⟩
  | frac a b => exact ⟨h.1, log31 h.2.2.2.2, log31 (by have := h.2.1; have := h.2.2.1; omega)⟩
  | «let» z =>
    refine ⟨?_, by have := h.2.2; omega⟩
    rw [h.1]
    decide +kernel
theorem small_ok {n i : Int} (h0 : 0 ≤ i) (h1 : i ≤ n) : okSmall n (Str.ofString (toString i)) = true := by
  unfold okSmall
  have := numT_ok i
  unfold numT at this
  rw [this.1, this.2, decide_eq_true h0, decide_eq_true h1]
  rfl
theorem good_reads {x : Str} {n : Nat} {a : Va} (h : GoodVa x n a) : okVal x (txtV a) = true ∧ valOf x (txtV a) = a := by
  cases a with
  | num i =>
    obtain ⟨h1, h2, h3, h4, _⟩ := h
    have hn := numT_ok i
    unfold numT at hn
    constructor
    rotate_left
    · unfold valOf
      rw [if_neg h1, if_neg h2]
      exact congrArg Va.num hn.2
    unfold okVal
    rw [if_neg h1, if_neg h2]
    show (if x = wB then okSmall 1 (Str.ofString (toString i)) else if x = wR then okSmall 2 (Str.ofString (toString i)) else okNum (tl (Str.ofString (toString i)))) = true
    by_cases b : x = wB
    · rw [if_pos b]
      exact small_ok (h3 b).1 (h3 b).2
    · rw [if_neg b]
      by_cases r : x = wR
      · rw [if_pos r]
        exact small_ok (h4 r).1 (h4 r).2
      · rw [if_neg r]
        exact hn.1
  | frac a b =>
    obtain ⟨rfl, h1, _, h2, _⟩ := h
    obtain ⟨e1, e2⟩ := frac_ok h1 h2
    unfold okVal valOf
    rw [if_neg (by decide +kernel), if_neg (by decide +kernel), if_pos rfl, if_pos rfl, e1, e2]
    exact ⟨rfl, rfl⟩
  | «let» z =>
    obtain ⟨rfl, h1, _⟩ := h
    unfold okVal
    rw [valOf_w, if_neg (by decide +kernel), if_neg (by decide +kernel), if_neg (by decide +kernel), if_pos rfl]
    exact ⟨h1, rfl⟩
theorem txtV_frac (a b : Int) : txtV (.frac a b) = if b = 1 then Str.ofString (toString a) else Str.empty ++ Str.ofString (toString a) ++ Str.ofString "/" ++ Str.ofString (toString b) := rfl
theorem let_ch {z : Str} (h : okLet z = true) : ∀ c ∈ tl z, c = 97 ∨ c = 98 := fun c hc => by
  have := of_decide_eq_true (List.all_eq_true.mp (show ((tl z).all fun c => decide (c ∈ [97, 98])) = true from h) c hc)
  simpa using this
theorem good_ch {x : Str} {n : Nat} {a : Va} (h : GoodVa x n a) : Ch (txtV a) := by
  cases a with
  | num i => exact ch_num i
  | frac a b =>
    rw [txtV_frac]
    split
    · exact ch_num a
    · refine Ch.app (Ch.app (Ch.app ?_ (ch_num a)) ?_) (ch_num b)
      · intro c hc
        cases hc
      · unfold Ch
        decide +kernel
  | «let» z =>
    intro c hc
    have := let_ch h.2.1 c hc
    omega
theorem num_len31 {i : Int} (h : i.natAbs < 10 ^ 31) : (Str.ofString (toString i)).length ≤ 32 := by
  rw [len_tl]
  cases i with
  | ofNat m =>
    show (numT (m : Int)).length ≤ 32
    rw [numT_nat]
    have := numL_len (n := m) (k := 31) (by decide) h
    omega
  | negSucc m =>
    show (numT (Int.negSucc m)).length ≤ 32
    rw [numT_neg, List.length_cons]
    have := numL_len (n := m + 1) (k := 31) (by decide) h
    omega
theorem num_len2 {i : Int} (h : 0 ≤ i) (h2 : i < 100) : (Str.ofString (toString i)).length ≤ 2 := by
  obtain ⟨m, rfl⟩ := Int.eq_ofNat_of_zero_le h
  rw [len_tl]
  show (numT (m : Int)).length ≤ 2
  rw [numT_nat]
  exact numL_len (n := m) (k := 2) (by decide) (by omega)
theorem good_len {x : Str} {n : Nat} {a : Va} (h : GoodVa x n a) (hn : n ≤ 8) : (txtV a).length ≤ 36 := by
  cases a with
  | num i =>
    have := num_len31 h.2.2.2.2
    show (Str.ofString (toString i)).length ≤ 36
    omega
  | frac a b =>
    have h1 := num_len31 h.2.2.2.2
    have h2 := num_len2 (i := b) (by have := h.2.1; omega) (by have := h.2.2.1; omega)
    rw [txtV_frac]
    split
    · omega
    · rw [app_len, app_len, app_len, show Str.empty.length = 0 from rfl, show (Str.ofString "/").length = 1 by decide +kernel]
      omega
  | «let» z =>
    have := h.2.2
    show z.length ≤ 36
    omega
/-! what is refused -/
theorem ents_no_eq {x : Str} {ts : List Str} {t : Str} (ht : t ∈ ts) (h : 61 ∉ tl t) : okEnts x ts = false := by
  unfold okEnts
  cases e : ts.all hasEq with
  | false => rfl
  | true => exact absurd (of_decide_eq_true (List.all_eq_true.mp e t ht)) h
theorem ents_no_name {x : Str} {ts : List Str} {t : Str} (ht : t ∈ ts) (h : fullB (lft t) = false) : okEnts x ts = false := by
  unfold okEnts namesB
  cases e : (ts.map lft).all fullB with
  | false => rw [Bool.false_and, Bool.false_and, Bool.and_false]
  | true =>
    have := List.all_eq_true.mp e (lft t) (List.mem_map.mpr ⟨t, ht, rfl⟩)
    rw [h] at this
    cases this
theorem ents_no_val {x : Str} {ts : List Str} {t : Str} (ht : t ∈ ts) (h : okVal x (rgt t) = false) : okEnts x ts = false := by
  unfold okEnts
  cases e : ts.all fun t => okVal x (rgt t) with
  | false => rw [Bool.and_false, Bool.and_false]
  | true =>
    have := List.all_eq_true.mp e t ht
    rw [h] at this
    cases this
theorem ents_twice {x : Str} {ts : List Str} (h : ¬ (ts.map lft).Nodup) : okEnts x ts = false := by
  cases e : okEnts x ts with
  | false => rfl
  | true => exact absurd (nd_ents e) h
theorem starts_eq (g : Str) : Txt.startswith g (Str.ofString "=") = decide ((tl g).head? = some 61) := by
  unfold Txt.startswith
  rw [StrLaws.subAt_eq, List.drop_zero, show (Str.ofString "=").length = 1 by decide +kernel, show (Str.ofString "=").cps.toList = [61] by decide +kernel, len_tl]
  show (decide (0 + 1 ≤ (tl g).length) && ((tl g).take 1 == [61])) = _
  cases e : tl g with
  | nil => rfl
  | cons c r =>
    by_cases h : c = 61
    · subst h
      simp
    · simp [h]
theorem gr_head {g : Str} {r : List Str} (h : (tl g).head? ≠ some 61) : okGr (g :: r) = false := by
  show (Txt.startswith g (Str.ofString "=") && _) = false
  rw [starts_eq, decide_eq_false h]
  rfl
theorem gr_tail {g : Str} {r : List Str} (h : okEnts wW r = false) : okGr (g :: r) = false := by
  show (_ && (_ && (okEnts wW r && _))) = false
  rw [h, Bool.false_and, Bool.and_false, Bool.and_false]
theorem gr_len {g : Str} {r : List Str} {t : Str} (ht : t ∈ r) (h : ((rgt t).length : Int) ≠ numOf (tl (cut1 g))) : okGr (g :: r) = false := by
  show (_ && (_ && (_ && (_ && r.all _)))) = false
  cases e : r.all fun t => decide (((rgt t).length : Int) = numOf (tl (cut1 g))) with
  | false => rw [Bool.and_false, Bool.and_false, Bool.and_false, Bool.and_false]
  | true => exact absurd (of_decide_eq_true (List.all_eq_true.mp e t ht)) h
theorem tl_cut1 {z : Str} {l : List Nat} (h : tl z = 61 :: l) : tl (cut1 z) = l := by
  unfold cut1
  rw [StrLaws.removeprefix_eq, StrLaws.subAt_eq, List.drop_zero, show (Str.ofString "=").length = 1 by decide +kernel, show (Str.ofString "=").cps.toList = [61] by decide +kernel]
  have hl : z.length = (61 :: l).length := by rw [← h]; exact len_tl z
  show tl (if (decide (0 + 1 ≤ z.length) && ((tl z).take 1 == [61])) = true then ⟨(((tl z).drop 1).take (z.length - 1)).toArray⟩ else z) = l
  rw [h, hl, if_pos (by simp)]
  show (((61 :: l).drop 1).take ((61 :: l).length - 1)).toArray.toList = l
  simp
def gnd (i : Int) : Str := Str.ofString "=" ++ Str.ofString (toString i)
theorem tl_gnd (i : Int) : tl (gnd i) = 61 :: numT i := by
  unfold gnd
  rw [tl_append]
  rfl
theorem cut_gnd (i : Int) : tl (cut1 (gnd i)) = numT i := tl_cut1 (tl_gnd i)
theorem ch_gnd (i : Int) : Ch (gnd i) := Ch.app ch_eq (ch_num i)
/-- a token without any sign -/
theorem ts_empty {x : Str} {ts : List Str} (h : Str.ofString "" ∈ ts) : okTs x ts = false := by
  have n61 : (61 : Nat) ∉ tl (Str.ofString "") := by decide +kernel
  unfold okTs
  split
  · cases ts with
    | nil => rfl
    | cons g r =>
      rcases List.mem_cons.mp h with e | h
      · rw [← e]
        exact gr_head (by decide +kernel)
      · exact gr_tail (ents_no_eq h n61)
  · exact ents_no_eq h n61
def grd (x : Str) (n : Nat) : List Str := if x = wW then [gnd n] else []
/-- the last value is none -/
theorem ts_bad {x : Str} {n : Nat} {A : List Str} {nm z : Str} (hn : NameOk nm) (h : if x = wW then okLet z = false ∨ z.length ≠ n else okVal x z = false) : okTs x (grd x n ++ (A ++ [tkn nm z])) = false := by
  have hm : tkn nm z ∈ A ++ [tkn nm z] := List.mem_append_right _ (List.mem_singleton.mpr rfl)
  have hr : rgt (tkn nm z) = z := rgt_tkn hn.ch.2
  unfold okTs grd
  split at h
  · rename_i e
    rw [if_pos e, if_pos e]
    rcases h with h | h
    · refine gr_tail (ents_no_val hm ?_)
      rw [hr]
      unfold okVal
      rw [if_neg (by decide +kernel), if_neg (by decide +kernel), if_neg (by decide +kernel), if_pos rfl]
      exact h
    · refine gr_len hm ?_
      rw [hr, cut_gnd, (numT_ok _).2]
      omega
  · rename_i e
    rw [if_neg e, if_neg e]
    exact ents_no_val hm (by rw [hr]; exact h)
/-- the last token twice -/
theorem ts_twice {x : Str} {n : Nat} {A : List Str} {t : Str} : okTs x (grd x n ++ (A ++ [t, t])) = false := by
  have h : ¬ ((A ++ [t, t]).map lft).Nodup := by
    rw [List.map_append, List.nodup_append]
    intro h
    have := h.2.1
    simp at this
  unfold okTs grd
  split
  · exact gr_tail (ents_twice h)
  · exact ents_twice h
/-- words without the ground -/
theorem ts_none {l : List (Str × Str)} (h : ∀ p ∈ l, NameOk p.1) : okTs wW (l.map fun p => tkn p.1 p.2) = false := by
  unfold okTs
  rw [if_pos rfl]
  cases l with
  | nil => rfl
  | cons p r =>
    obtain ⟨c, q, e, hc⟩ := (h p List.mem_cons_self).head
    refine gr_head ?_
    rw [tl_tkn, e]
    exact fun h => hc (Option.some.inj h)
/-- a ground that is too great -/
theorem ts_great {n : Nat} {r : List Str} {nm z : Str} (hn : NameOk nm) (hm : tkn nm z ∈ r) (hz : z.length = n) : okTs wW (gnd ((n : Int) + 1) :: r) = false := by
  unfold okTs
  rw [if_pos rfl]
  refine gr_len hm ?_
  rw [rgt_tkn hn.ch.2, cut_gnd, (numT_ok _).2]
  omega
/-- a ground in another kind -/
theorem ts_ground {x : Str} {i : Int} {r : List Str} (h : x ≠ wW) : okTs x (gnd i :: r) = false := by
  unfold okTs
  rw [if_neg h]
  refine ents_no_name List.mem_cons_self ?_
  have e : gnd i = tkn (Str.ofString "") (Str.ofString (toString i)) := TL.ext_tl (by rw [tl_gnd, tl_tkn]; rfl)
  rw [e, lft_tkn (by decide +kernel)]
  decide +kernel
end K06
namespace K06
open PySem PySem.Spec PyProof.Rows L2 Bx TL Dx Sup Er NdefX
local macro_rules | `(tactic| walk_at "rd") => `(tactic| repeat (first | refine ⟨rfl, ?_⟩ | refine ⟨_, rfl, ?_⟩ | refine ⟨_, _, rfl, rfl, ?_⟩ | refine ⟨⟨_, rfl⟩, ?_⟩))
local macro_rules
  | `(tactic| tm_at $s:str) => do
    let id (x : String) := Lean.mkIdent (Lean.Name.mkSimple x)
    match s.getString.splitOn " " with
    | ["rd"] => `(tactic| walk_at "rd")
    | ["sz"] => `(tactic| first | exact sz (by decide) | exact szl (by decide) | exact sz (by show _ ≤ 100000; decide) | ((first | refine sz ?_ | refine szl ?_); (try simp only [List.length_map, List.length_append, List.length_cons, List.length_nil, List.length_take, List.length_drop]); omega) | fail "sz: no bound")
    | ["gn", p, h] => `(tactic| (generalize hu : upd _ $(id p) _ = $(id ("H" ++ p)); obtain ⟨$(id ("s" ++ p)), $(id h)⟩ := Go.al $(id ("n" ++ p)) hu; clear hu))
    | ["al", p] => `(tactic| (refine ⟨by tm_at "sz", fun $(id p) $(id ("n" ++ p)) => ?_⟩; generalize hu : upd _ $(id p) _ = $(id ("H" ++ p)); obtain ⟨$(id ("s" ++ p)), $(id ("h" ++ p))⟩ := Go.al $(id ("n" ++ p)) hu; clear hu; tm_at "rd"))
    | ["al0", p] => `(tactic| (refine ⟨by tm_at "sz", fun $(id p) $(id ("n" ++ p)) => ?_⟩; generalize hu : upd _ $(id p) _ = $(id ("H" ++ p)); obtain ⟨$(id ("s" ++ p)), $(id ("h" ++ p))⟩ := Go.al $(id ("n" ++ p)) hu; clear hu; tm_at "rd"))
    | ["new", p] => `(tactic| (refine fun $(id p) $(id ("n" ++ p)) => ?_; generalize hu : upd _ $(id p) _ = $(id ("H" ++ p)); obtain ⟨$(id ("s" ++ p)), $(id ("h" ++ p))⟩ := Go.al $(id ("n" ++ p)) hu; clear hu; tm_at "rd"))
    | ["new0", p] => `(tactic| (refine fun $(id p) $(id ("n" ++ p)) => ?_; generalize hu : upd _ $(id p) _ = $(id ("H" ++ p)); obtain ⟨$(id ("s" ++ p)), $(id ("h" ++ p))⟩ := Go.al $(id ("n" ++ p)) hu; clear hu; tm_at "rd"))
    | ["up"] => `(tactic| first
        | assumption | exact sq (by assumption) | exact sqt (by assumption) | exact PlT.sq (by assumption)
        | (refine' Bx.Same.tup (by assumption) ?hh; (case hh => tm_at "up")) | (refine' Same.seq (by assumption) ?hh; (case hh => tm_at "up")) | (refine' Go.get (by assumption) ?hh; (case hh => tm_at "up")) | (refine' dpAll_same (by assumption) ?hh; (case hh => tm_at "up")) | (refine' dp_same (by assumption) ?hh; (case hh => tm_at "up")) | (refine' PlT.same (by assumption) ?hh; (case hh => tm_at "up")) | (refine' Go.srcS (by assumption) ?hh; (case hh => tm_at "up"))
        | (refine' Go.tupB (s := _) (by assumption) (by assumption) ?hh; (case hh => tm_at "up")) | (refine' Go.dkB (s := _) (by assumption) (by assumption) ?hh; (case hh => tm_at "up")) | (refine' Go.insB (s := _) (by assumption) (by assumption) ?hh; (case hh => tm_at "up")) | (refine' Go.pltB (s := _) (by assumption) (by assumption) ?hh; (case hh => tm_at "up"))
        | (refine' Go.getB (by assumption) (by first | assumption | exact Ne.symm (by assumption)) ?hh; (case hh => tm_at "up"))
        | (refine' sq ?hh; (case hh => tm_at "raw")) | (refine' sqt ?hh; (case hh => tm_at "raw")) | (refine' PlT.sq ?hh; (case hh => tm_at "raw")) | fail "up: no fact")
    | ["raw"] => `(tactic| first
        | assumption | (refine' Go.get (by assumption) ?hh; (case hh => tm_at "raw")) | (refine' PlT.same (by assumption) ?hh; (case hh => tm_at "raw")) | (refine' Go.pltB (s := _) (by assumption) (by assumption) ?hh; (case hh => tm_at "raw")) | (refine' Go.getB (by assumption) (by first | assumption | exact Ne.symm (by assumption)) ?hh; (case hh => tm_at "raw")) | fail "raw: no fact")
    | ["sq"] => `(tactic| first | exact .inl (by tm_at "up") | exact .inr (by tm_at "up") | fail "sq: no fact")
    | ["ix", j] => `(tactic| (refine ⟨_, _, _, _, rfl, rfl, by tm_at "up", by exact atI_nat (j := $(Lean.Syntax.mkNumLit j)) rfl, ?_⟩; tm_at "rd"))
    | ["ixh", h] => `(tactic| (refine ⟨_, _, _, _, rfl, rfl, by tm_at "up", by first | exact Go.at_mapV $(id h) | exact Go.at_mapZ $(id h) | exact atI_nat $(id h) | exact Go.at_nat0 $(id h), ?_⟩; tm_at "rd"))
    | ["len"] => `(tactic| (refine ⟨_, _, rfl, by tm_at "sq", ?_⟩; (try rw [List.length_map]); tm_at "rd"))
    | ["tp", p] => `(tactic| (refine ⟨_, _, rfl, .inl ⟨by tm_at "up", fun $(id p) $(id ("n" ++ p)) => ?_⟩⟩; generalize hu : upd _ $(id p) _ = $(id ("H" ++ p)); obtain ⟨$(id ("s" ++ p)), $(id ("h" ++ p))⟩ := Go.al $(id ("n" ++ p)) hu; clear hu; tm_at "rd"))
    | ["tp0", p] => `(tactic| (refine ⟨_, _, rfl, .inl ⟨by tm_at "up", fun $(id p) $(id ("n" ++ p)) => ?_⟩⟩; generalize hu : upd _ $(id p) _ = $(id ("H" ++ p)); obtain ⟨$(id ("s" ++ p)), $(id ("h" ++ p))⟩ := Go.al $(id ("n" ++ p)) hu; clear hu; tm_at "rd"))
    | ["ls", p] => `(tactic| (refine ⟨_, _, rfl, by tm_at "sq", fun $(id p) $(id ("n" ++ p)) => ?_⟩; generalize hu : upd _ $(id p) _ = $(id ("H" ++ p)); obtain ⟨$(id ("s" ++ p)), $(id ("h" ++ p))⟩ := Go.al $(id ("n" ++ p)) hu; clear hu; tm_at "rd"))
    | ["ls0", p] => `(tactic| (refine ⟨_, _, rfl, by tm_at "sq", fun $(id p) $(id ("n" ++ p)) => ?_⟩; generalize hu : upd _ $(id p) _ = $(id ("H" ++ p)); obtain ⟨$(id ("s" ++ p)), $(id ("h" ++ p))⟩ := Go.al $(id ("n" ++ p)) hu; clear hu; tm_at "rd"))
    | ["tf", p] => `(tactic| (refine ⟨_, _, rfl, by tm_at "up", fun $(id p) $(id ("o" ++ p)) $(id ("n" ++ p)) $(id ("d" ++ p)) => ?_⟩; generalize hu : upd _ $(id p) _ = $(id ("H" ++ p)); obtain ⟨$(id ("s" ++ p)), $(id ("h" ++ p))⟩ := Go.alF $(id ("n" ++ p)) $(id ("d" ++ p)) hu; clear hu; tm_at "rd"))
    | ["alF", p] => `(tactic| (refine ⟨by tm_at "sz", fun $(id p) $(id ("o" ++ p)) $(id ("n" ++ p)) $(id ("d" ++ p)) => ?_⟩; generalize hu : upd _ $(id p) _ = $(id ("H" ++ p)); obtain ⟨$(id ("s" ++ p)), $(id ("h" ++ p))⟩ := Go.alF $(id ("n" ++ p)) $(id ("d" ++ p)) hu; clear hu; tm_at "rd"))
    | ["bare", k] => `(tactic| (refine fun $(id k) $(id ("d" ++ k)) $(id ("n" ++ k)) $(id ("nd" ++ k)) $(id ("ne" ++ k)) => ?_; generalize hu : upd (upd _ $(id ("d" ++ k)) _) $(id k) _ = $(id ("H" ++ k)); obtain ⟨$(id ("s" ++ k)), $(id ("h" ++ k))⟩ := Go.bare $(id ("n" ++ k)) $(id ("nd" ++ k)) $(id ("ne" ++ k)) hu; clear hu; walk_at "rd"))
    | ["me"] => `(tactic| (refine ⟨_, _, _, rfl, by tm_at "up", rfl, ?_⟩; walk_at "rd"))
    | ["star"] => `(tactic| ((first | refine ⟨_, _, rfl, .inl (by tm_at "up"), ?_⟩ | refine ⟨_, _, rfl, .inr (by tm_at "up"), ?_⟩ | fail "star"); walk_at "rd"))
    | ["ap0"] => `(tactic| (refine ⟨.inl ⟨rfl, _, by tm_at "up"⟩, ?_⟩; tm_at "rd"))
    | ["ap"] => `(tactic| refine ⟨_, _, _, rfl, rfl, by tm_at "up", by tm_at "sz", ?_⟩)
    | ["un", n] => match n with
      | "2" => `(tactic| (refine ⟨_, _, rfl, by tm_at "up", rfl, _, _, rfl, _, _, rfl, rfl, ?_⟩; tm_at "rd"))
      | _ => `(tactic| (refine ⟨_, _, rfl, by tm_at "up", rfl, _, _, rfl, _, _, rfl, _, _, rfl, rfl, ?_⟩; tm_at "rd"))
    | _ => Lean.Macro.throwUnsupported
/-! ### the law's fractions -/
def gs (p : Nat × Nat) : Nat × Nat := if 0 < p.1 then (p.2 % p.1, p.1) else p
def gi : Nat → Nat × Nat → Nat × Nat
  | 0, p => p
  | n + 1, p => gs (gi n p)
theorem gs_gcd (p : Nat × Nat) : Nat.gcd (gs p).1 (gs p).2 = Nat.gcd p.1 p.2 := by
  unfold gs
  split
  · exact (Nat.gcd_rec p.1 p.2).symm
  · rfl
theorem gi_gcd (n : Nat) (p : Nat × Nat) : Nat.gcd (gi n p).1 (gi n p).2 = Nat.gcd p.1 p.2 := by
  induction n with
  | zero => rfl
  | succ n ih => exact (gs_gcd _).trans ih
theorem gi_succ (n : Nat) (p : Nat × Nat) : gi n (gs p) = gi (n + 1) p := by
  induction n with
  | zero => rfl
  | succ n ih => exact congrArg gs ih
theorem gi_zero {n m : Nat} {p : Nat × Nat} (h : (gi n p).1 = 0) : (gi (n + m) p).1 = 0 := by
  induction m with
  | zero => exact h
  | succ m ih =>
    show (gs (gi (n + m) p)).1 = 0
    unfold gs
    rw [if_neg (by omega)]
    exact ih
theorem gs_lt (p : Nat × Nat) (h : p.1 < p.2) : (gs p).1 < (gs p).2 := by
  unfold gs
  split
  · rename_i h0
    exact Nat.mod_lt _ h0
  · exact h
theorem gs_half {n : Nat} {p : Nat × Nat} (h : p.1 < 2 ^ (n + 1)) (hl : p.1 < p.2) : (gs (gs p)).1 < 2 ^ n := by
  have hp : 0 < 2 ^ n := Nat.pos_of_ne_zero (by exact Nat.ne_of_gt (Nat.two_pow_pos n))
  have hd : 2 ^ (n + 1) = 2 * 2 ^ n := by rw [Nat.pow_succ]; omega
  generalize 2 ^ n = b at hp hd ⊢
  rw [hd] at h
  unfold gs
  by_cases h0 : 0 < p.1
  · rw [if_pos h0]
    have hq := Nat.mod_lt p.2 h0
    by_cases h1 : 0 < p.2 % p.1
    · rw [if_pos h1]
      show p.1 % (p.2 % p.1) < b
      generalize p.2 % p.1 = q at hq h1
      have h2 := Nat.mod_lt p.1 h1
      have h3 : p.1 % q ≤ p.1 - q := by
        rw [Nat.mod_eq_sub_mod (by omega)]
        exact Nat.mod_le _ _
      omega
    · rw [if_neg h1]
      show p.2 % p.1 < b
      omega
  · rw [if_neg h0, if_neg h0]
    omega
theorem gi_small : ∀ (n : Nat) (p : Nat × Nat), p.1 < 2 ^ n → p.1 < p.2 → (gi (2 * n) p).1 = 0
  | 0, p, h, _ => by
    show p.1 = 0
    omega
  | n + 1, p, h, hl => by
    have e : gi (2 * (n + 1)) p = gi (2 * n) (gs (gs p)) := by
      rw [gi_succ, gi_succ]
      rfl
    rw [e]
    exact gi_small n _ (gs_half h hl) (gs_lt _ (gs_lt _ hl))
theorem gi_20 {t b : Nat} (hb : 1 ≤ b) (h40 : b ≤ 40) : (gi 20 (t, b)).2 = Nat.gcd t b := by
  have h1 : (gs (t, b)).1 < 2 ^ 6 ∧ (gs (t, b)).1 < (gs (t, b)).2 := by
    unfold gs
    split
    · rename_i h0
      have h2 := Nat.mod_le b t
      refine ⟨?_, Nat.mod_lt _ h0⟩
      show b % t < 64
      omega
    · rename_i h0
      have h0 : ¬ 0 < t := h0
      exact ⟨by show t < 64; omega, by show t < b; omega⟩
  have h2 : (gi 19 (gs (t, b))).1 = 0 := gi_zero (n := 12) (m := 7) (gi_small 6 _ h1.1 h1.2)
  rw [gi_succ] at h2
  have h3 := gi_gcd 20 (t, b)
  rw [show (gi 20 (t, b)).1 = 0 from h2, Nat.gcd_zero_left] at h3
  exact h3
theorem at_of {xs : List V} {r : Int} (h0 : 0 ≤ r) (h1 : r < xs.length) : ∃ v, atI xs r = some v ∧ v ∈ xs := by
  obtain ⟨n, rfl⟩ := Int.eq_ofNat_of_zero_le h0
  have hn : n < xs.length := by omega
  exact ⟨xs[n], atI_nat (List.getElem?_eq_getElem hn), List.getElem_mem hn⟩
section
variable {P : Program} {w : World} {K : PySem.W.Frag} {mg : Str → Option Value} {base : Heap}
@[irreducible] def spFraction : Sp := fun vs H Q _ => ∃ src : Addr, vs = [.ref src] ∧ Src H src ∧ ∀ p a b H', SameBut src H H' → Src H' src → H' p = some (.tup [.int a, .int b]) → 1 ≤ b → b ≤ 40 → Nat.gcd a.natAbs b.natAbs = 1 → a.natAbs < 10 ^ 31 → Q (.ref p) H'
theorem ok_fraction {f : Addr} {fd : FuncData} (F : Fun K "_law_fraction" "_law_fraction" s__law_fraction f fd) (m_range : mg "range" = none) (m_int : mg "int" = none) (C__law_draw : CDraw P w K mg base) : FnOk P w K mg base CX0 2 f fd ["_law_source_here"] spFraction := by
  refine F.ok sc__law_fraction (fun vs H Q E h => ?_) (fun cdv A outer s H vs Q E hr h => ?_)
  · unfold spFraction at h
    obtain ⟨src, rfl, _⟩ := h
    rfl
  · unfold spFraction at h
    obtain ⟨src, rfl, hA, q⟩ := h
    refine ⟨_, (pss_cons (ps_set (i := 1) sc__law_fraction.nd rfl (Or.inl rfl) (pe_ix ix_list (pe_lst (pa_cons pe_int (pa_cons pe_int (pa_cons (pe_cal C__law_draw (hr.mono (by decide)) (pa_cons (pv 0) (pa_cons pe_int pa_nil))) (pa_cons (pe_cal C__law_draw (hr.mono (by decide)) (pa_cons (pv 0) (pa_cons pe_int pa_nil))) (pa_cons (pe_op op_add (pe_op op_pow pe_int pe_int) (pe_cal C__law_draw (hr.mono (by decide)) (pa_cons (pv 0) (pa_cons pe_int pa_nil)))) pa_nil)))))) (pe_cal C__law_draw (hr.mono (by decide)) (pa_cons (pv 0) (pa_cons pe_int pa_nil))) (fun _ _ => rfl)))
    (pss_cons (ps_set (i := 2) sc__law_fraction.nd rfl (Or.inl rfl) (pe_ix ix_list (pe_lst (pa_cons pe_int (pa_cons pe_int (pa_cons pe_int (pa_cons (pe_op op_add pe_int (pe_cal C__law_draw (hr.mono (by decide)) (pa_cons (pv 0) (pa_cons pe_int pa_nil)))) pa_nil))))) (pe_cal C__law_draw (hr.mono (by decide)) (pa_cons (pv 0) (pa_cons pe_int pa_nil))) (fun _ _ => rfl)))
    (pss_cons (ps_set (i := 3) sc__law_fraction.nd rfl (Or.inl rfl) (pv 1))
    (pss_cons (ps_set (i := 4) sc__law_fraction.nd rfl (Or.inl rfl) (pv 2))
    (pss_cons (ps_for PassesOwn.never rfl (pi_range1 (by rfl) m_range (pa_cons pe_int pa_nil)) (pg_name (i := 5) sc__law_fraction.nd rfl (Or.inl rfl))
      (pss_one (ps_if (pt_cmpR op_gt (pv 3) pe_int (nomark _))
      (pss_cons (ps_set (i := 6) sc__law_fraction.nd rfl (Or.inl rfl) (pe_op op_mod (pe_callTy (T := "int") call_int1 (by rfl) m_int (by decide +kernel) (pa_cons (pv 4) pa_nil)) (pv 3)))
    (pss_cons (ps_set (i := 4) sc__law_fraction.nd rfl (Or.inl rfl) (pv 3))
    (pss_one (ps_set (i := 3) sc__law_fraction.nd rfl (Or.inl rfl) (pv 6)))))
      pss_nil)))
    (pss_one (ps_ret (pe_tup (pa_cons (pe_op op_mul (pe_op op_fdivW (pv 1) (pv 4)) (pe_op op_sub pe_int (pe_op op_mul pe_int (pe_cal C__law_draw (hr.mono (by decide)) (pa_cons (pv 0) (pa_cons pe_int pa_nil)))))) (pa_cons (pe_op op_fdivW (pv 2) (pv 4)) pa_nil)))))))))), ?_⟩
    walk_at "rd"
    refine draw_of (lim := 20) hA (by decide) fun r1 H1 a0 a1 b1 A1 => ?_
    walk_at "rd"
    refine draw_of (lim := 300) A1 (by decide) fun r2 H2 c0 c1 b2 A2 => ?_
    walk_at "rd"
    refine ⟨⟨by decide, by decide, by decide⟩, ?_⟩
    walk_at "rd"
    refine draw_of (lim := 100) A2 (by decide) fun r3 H3 d0 d1 b3 A3 => ?_
    walk_at "rd"
    tm_at "al L"
    have AL := src_same A3 sL
    have Ls := src_ne A3 nL
    refine draw_of (lim := 5) AL (by decide) fun r4 H4 e0 e1 b4 A4 => ?_
    have hL4 := b4 _ _ Ls.symm hL
    obtain ⟨v, hv, hm⟩ := at_of (xs := [V.int 0, V.int 1, V.int r1, V.int r2, V.int (10 ^ 30 + r3)]) e0 e1
    have hv2 : ∃ t : Nat, v = .int (t : Int) ∧ t < 10 ^ 31 := by
      simp only [List.mem_cons, List.not_mem_nil, or_false] at hm
      rcases hm with rfl | rfl | rfl | rfl | rfl
      · exact ⟨0, rfl, by decide⟩
      · exact ⟨1, rfl, by decide⟩
      · exact ⟨r1.toNat, by rw [Int.toNat_of_nonneg a0], by omega⟩
      · exact ⟨r2.toNat, by rw [Int.toNat_of_nonneg c0], by omega⟩
      · refine ⟨(10 ^ 30 + r3).toNat, ?_, ?_⟩
        · rw [Int.toNat_of_nonneg]
          omega
        · omega
    obtain ⟨t, rfl, ht⟩ := hv2
    refine ⟨_, _, _, _, rfl, rfl, sq hL4, hv, ?_⟩
    have c4 : SameBut src H H4 := ((b1.trans b2).trans b3).trans (SameBut.trans (Bx.Same.but sL) b4)
    clear hm hv hL4 hL b4 sL nL b1 b2 b3 A1 A2 A3 AL
    walk_at "rd"
    refine draw_of (lim := 30) A4 (by decide) fun r5 H5 f0 f1 b5 A5 => ?_
    walk_at "rd"
    tm_at "al M"
    have AL := src_same A5 sM
    have Ms := src_ne A5 nM
    refine draw_of (lim := 4) AL (by decide) fun r6 H6 g0 g1 b6 A6 => ?_
    have hL6 := b6 _ _ Ms.symm hM
    obtain ⟨v, hv, hm⟩ := at_of (xs := [V.int 1, V.int 1, V.int 2, V.int (3 + r5)]) g0 g1
    have hv2 : ∃ b : Nat, v = .int (b : Int) ∧ 1 ≤ b ∧ b ≤ 40 := by
      simp only [List.mem_cons, List.not_mem_nil, or_false] at hm
      rcases hm with rfl | rfl | rfl | rfl
      · exact ⟨1, rfl, by decide, by decide⟩
      · exact ⟨1, rfl, by decide, by decide⟩
      · exact ⟨2, rfl, by decide, by decide⟩
      · refine ⟨(3 + r5).toNat, ?_, by omega, by omega⟩
        rw [Int.toNat_of_nonneg]
        omega
    obtain ⟨b, rfl, hb1, hb40⟩ := hv2
    refine ⟨_, _, _, _, rfl, rfl, sq hL6, hv, ?_⟩
    have c6 : SameBut src H H6 := c4.trans (b5.trans (SameBut.trans (Bx.Same.but sM) b6))
    clear hm hv hL6 hM b6 sM nM b5 c4 A4 A5 AL
    walk_at "rd"
    refine ⟨by decide, by decide, for_it walk_range (fun i σ H' => ∃ (o5 o6 : Option V), σ = [some (.ref src), some (.int (t : Int)), some (.int (b : Int)), some (.int ((gi i (t, b)).1 : Nat)), some (.int ((gi i (t, b)).2 : Nat)), o5, o6] ∧ H' = H6) ⟨none, none, rfl, rfl⟩ (fun _ _ _ _ _ => trivial) ?_ ?_⟩
    · rintro i x σ H7 H7' hi ⟨o5, o6, rfl, rfl⟩ ⟨rfl, rfl⟩
      walk_at "rd"
      show (fun _ _ => _) _ _
      have es : gi (i + 1) (t, b) = gs (gi i (t, b)) := rfl
      rw [es]
      generalize gi i (t, b) = p
      obtain ⟨fs, sn⟩ := p
      refine ite2 (fun h => ?_) (fun h => ?_)
      · have h0 : (0 : Int) < (fs : Int) := of_decide_eq_true h
        have eg : gs (fs, sn) = (sn % fs, fs) := if_pos (by show 0 < fs; omega)
        rw [eg]
        walk_at "rd"
        refine .inl ⟨_, rfl, ?_⟩
        walk_at "rd"
        refine ⟨h0, ?_⟩
        walk_at "rd"
        exact ⟨_, _, rfl, rfl⟩
      · have h0 : ¬ (0 : Int) < (fs : Int) := fun z => h (decide_eq_true z)
        have eg : gs (fs, sn) = (fs, sn) := if_neg (by show ¬ 0 < fs; omega)
        rw [eg]
        walk_at "rd"
        exact ⟨_, _, rfl, rfl⟩
    · rintro σ H7 ⟨o5, o6, rfl, rfl⟩
      have e20 : (gi (Int.toNat 20) (t, b)).2 = Nat.gcd t b := gi_20 hb1 hb40
      rw [e20]
      generalize (gi (Int.toNat 20) (t, b)).1 = z
      have hg : 0 < Nat.gcd t b := Nat.gcd_pos_of_pos_right t (by omega)
      have hgb : Nat.gcd t b ≤ b := Nat.gcd_le_right t (by omega)
      have hlog : ((Nat.gcd t b : Nat) : Int).natAbs.log2 < 9000 := by
        rw [Int.natAbs_natCast]
        exact Nat.lt_of_le_of_lt (Nat.log2_le_self _) (by omega)
      have hco : Nat.gcd (t / Nat.gcd t b) (b / Nat.gcd t b) = 1 := by
        rw [Nat.gcd_div (Nat.gcd_dvd_left t b) (Nat.gcd_dvd_right t b), Nat.div_self hg]
      have hb2 : 1 ≤ b / Nat.gcd t b := Nat.div_pos hgb hg
      have hb3 : b / Nat.gcd t b ≤ b := Nat.div_le_self _ _
      have ht3 : t / Nat.gcd t b ≤ t := Nat.div_le_self _ _
      generalize Nat.gcd t b = g at hg hlog hco hb2 hb3 ht3 ⊢
      walk_at "rd"
      refine ⟨⟨by omega, hlog⟩, ?_⟩
      walk_at "rd"
      refine draw_of (lim := 2) A6 (by decide) fun r8 H8 i0 i1 b8 A8 => ?_
      walk_at "rd"
      refine ⟨.inl ⟨by decide, by decide⟩, ?_⟩
      walk_at "rd"
      refine ⟨.inr ⟨by omega, by omega⟩, ?_⟩
      walk_at "rd"
      refine ⟨⟨by omega, hlog⟩, ?_⟩
      walk_at "rd"
      tm_at "al T"
      have hab : ((t : Int) / (g : Int) * (1 - 2 * r8)).natAbs = t / g := by
        rw [Int.natAbs_mul]
        have h1 : (1 - 2 * r8).natAbs = 1 := by omega
        rw [h1, Nat.mul_one]
        rfl
      refine q T _ _ HT (SameBut.trans c6 (SameBut.trans b8 (Bx.Same.but sT))) (src_same A8 sT) hT ?_ ?_ ?_ ?_
      · show (1 : Int) ≤ ((b / g : Nat) : Int)
        omega
      · show ((b / g : Nat) : Int) ≤ 40
        omega
      · rw [hab]
        exact hco
      · rw [hab]
        omega
end
end K06
namespace K06
open PySem PySem.Spec PyProof.Rows L2 Bx TL Dx Sup Er NdefX
local macro_rules | `(tactic| walk_at "rd") => `(tactic| repeat (first | refine ⟨rfl, ?_⟩ | refine ⟨_, rfl, ?_⟩ | refine ⟨_, _, rfl, rfl, ?_⟩ | refine ⟨⟨_, rfl⟩, ?_⟩))
local macro_rules
  | `(tactic| tm_at $s:str) => do
    let id (x : String) := Lean.mkIdent (Lean.Name.mkSimple x)
    match s.getString.splitOn " " with
    | ["rd"] => `(tactic| walk_at "rd")
    | ["sz"] => `(tactic| first | exact sz (by decide) | exact szl (by decide) | exact sz (by show _ ≤ 100000; decide) | ((first | refine sz ?_ | refine szl ?_); (try simp only [List.length_map, List.length_append, List.length_cons, List.length_nil, List.length_take, List.length_drop]); omega) | fail "sz: no bound")
    | ["gn", p, h] => `(tactic| (generalize hu : upd _ $(id p) _ = $(id ("H" ++ p)); obtain ⟨$(id ("s" ++ p)), $(id h)⟩ := Go.al $(id ("n" ++ p)) hu; clear hu))
    | ["al", p] => `(tactic| (refine ⟨by tm_at "sz", fun $(id p) $(id ("n" ++ p)) => ?_⟩; generalize hu : upd _ $(id p) _ = $(id ("H" ++ p)); obtain ⟨$(id ("s" ++ p)), $(id ("h" ++ p))⟩ := Go.al $(id ("n" ++ p)) hu; clear hu; tm_at "rd"))
    | ["al0", p] => `(tactic| (refine ⟨by tm_at "sz", fun $(id p) $(id ("n" ++ p)) => ?_⟩; generalize hu : upd _ $(id p) _ = $(id ("H" ++ p)); obtain ⟨$(id ("s" ++ p)), $(id ("h" ++ p))⟩ := Go.al $(id ("n" ++ p)) hu; clear hu; tm_at "rd"))
    | ["new", p] => `(tactic| (refine fun $(id p) $(id ("n" ++ p)) => ?_; generalize hu : upd _ $(id p) _ = $(id ("H" ++ p)); obtain ⟨$(id ("s" ++ p)), $(id ("h" ++ p))⟩ := Go.al $(id ("n" ++ p)) hu; clear hu; tm_at "rd"))
    | ["new0", p] => `(tactic| (refine fun $(id p) $(id ("n" ++ p)) => ?_; generalize hu : upd _ $(id p) _ = $(id ("H" ++ p)); obtain ⟨$(id ("s" ++ p)), $(id ("h" ++ p))⟩ := Go.al $(id ("n" ++ p)) hu; clear hu; tm_at "rd"))
    | ["up"] => `(tactic| first
        | assumption | exact sq (by assumption) | exact sqt (by assumption) | exact PlT.sq (by assumption)
        | (refine' Bx.Same.tup (by assumption) ?hh; (case hh => tm_at "up")) | (refine' Same.seq (by assumption) ?hh; (case hh => tm_at "up")) | (refine' Go.get (by assumption) ?hh; (case hh => tm_at "up")) | (refine' dpAll_same (by assumption) ?hh; (case hh => tm_at "up")) | (refine' dp_same (by assumption) ?hh; (case hh => tm_at "up")) | (refine' PlT.same (by assumption) ?hh; (case hh => tm_at "up")) | (refine' Go.srcS (by assumption) ?hh; (case hh => tm_at "up"))
        | (refine' Go.tupB (s := _) (by assumption) (by assumption) ?hh; (case hh => tm_at "up")) | (refine' Go.dkB (s := _) (by assumption) (by assumption) ?hh; (case hh => tm_at "up")) | (refine' Go.insB (s := _) (by assumption) (by assumption) ?hh; (case hh => tm_at "up")) | (refine' Go.pltB (s := _) (by assumption) (by assumption) ?hh; (case hh => tm_at "up"))
        | (refine' Go.getB (by assumption) (by first | assumption | exact Ne.symm (by assumption)) ?hh; (case hh => tm_at "up"))
        | (refine' sq ?hh; (case hh => tm_at "raw")) | (refine' sqt ?hh; (case hh => tm_at "raw")) | (refine' PlT.sq ?hh; (case hh => tm_at "raw")) | fail "up: no fact")
    | ["raw"] => `(tactic| first
        | assumption | (refine' Go.get (by assumption) ?hh; (case hh => tm_at "raw")) | (refine' PlT.same (by assumption) ?hh; (case hh => tm_at "raw")) | (refine' Go.pltB (s := _) (by assumption) (by assumption) ?hh; (case hh => tm_at "raw")) | (refine' Go.getB (by assumption) (by first | assumption | exact Ne.symm (by assumption)) ?hh; (case hh => tm_at "raw")) | fail "raw: no fact")
    | ["sq"] => `(tactic| first | exact .inl (by tm_at "up") | exact .inr (by tm_at "up") | fail "sq: no fact")
    | ["ix", j] => `(tactic| (refine ⟨_, _, _, _, rfl, rfl, by tm_at "up", by exact atI_nat (j := $(Lean.Syntax.mkNumLit j)) rfl, ?_⟩; tm_at "rd"))
    | ["ixh", h] => `(tactic| (refine ⟨_, _, _, _, rfl, rfl, by tm_at "up", by first | exact Go.at_mapV $(id h) | exact Go.at_mapZ $(id h) | exact atI_nat $(id h) | exact Go.at_nat0 $(id h), ?_⟩; tm_at "rd"))
    | ["len"] => `(tactic| (refine ⟨_, _, rfl, by tm_at "sq", ?_⟩; (try rw [List.length_map]); tm_at "rd"))
    | ["tp", p] => `(tactic| (refine ⟨_, _, rfl, .inl ⟨by tm_at "up", fun $(id p) $(id ("n" ++ p)) => ?_⟩⟩; generalize hu : upd _ $(id p) _ = $(id ("H" ++ p)); obtain ⟨$(id ("s" ++ p)), $(id ("h" ++ p))⟩ := Go.al $(id ("n" ++ p)) hu; clear hu; tm_at "rd"))
    | ["tp0", p] => `(tactic| (refine ⟨_, _, rfl, .inl ⟨by tm_at "up", fun $(id p) $(id ("n" ++ p)) => ?_⟩⟩; generalize hu : upd _ $(id p) _ = $(id ("H" ++ p)); obtain ⟨$(id ("s" ++ p)), $(id ("h" ++ p))⟩ := Go.al $(id ("n" ++ p)) hu; clear hu; tm_at "rd"))
    | ["ls", p] => `(tactic| (refine ⟨_, _, rfl, by tm_at "sq", fun $(id p) $(id ("n" ++ p)) => ?_⟩; generalize hu : upd _ $(id p) _ = $(id ("H" ++ p)); obtain ⟨$(id ("s" ++ p)), $(id ("h" ++ p))⟩ := Go.al $(id ("n" ++ p)) hu; clear hu; tm_at "rd"))
    | ["ls0", p] => `(tactic| (refine ⟨_, _, rfl, by tm_at "sq", fun $(id p) $(id ("n" ++ p)) => ?_⟩; generalize hu : upd _ $(id p) _ = $(id ("H" ++ p)); obtain ⟨$(id ("s" ++ p)), $(id ("h" ++ p))⟩ := Go.al $(id ("n" ++ p)) hu; clear hu; tm_at "rd"))
    | ["tf", p] => `(tactic| (refine ⟨_, _, rfl, by tm_at "up", fun $(id p) $(id ("o" ++ p)) $(id ("n" ++ p)) $(id ("d" ++ p)) => ?_⟩; generalize hu : upd _ $(id p) _ = $(id ("H" ++ p)); obtain ⟨$(id ("s" ++ p)), $(id ("h" ++ p))⟩ := Go.alF $(id ("n" ++ p)) $(id ("d" ++ p)) hu; clear hu; tm_at "rd"))
    | ["alF", p] => `(tactic| (refine ⟨by tm_at "sz", fun $(id p) $(id ("o" ++ p)) $(id ("n" ++ p)) $(id ("d" ++ p)) => ?_⟩; generalize hu : upd _ $(id p) _ = $(id ("H" ++ p)); obtain ⟨$(id ("s" ++ p)), $(id ("h" ++ p))⟩ := Go.alF $(id ("n" ++ p)) $(id ("d" ++ p)) hu; clear hu; tm_at "rd"))
    | ["bare", k] => `(tactic| (refine fun $(id k) $(id ("d" ++ k)) $(id ("n" ++ k)) $(id ("nd" ++ k)) $(id ("ne" ++ k)) => ?_; generalize hu : upd (upd _ $(id ("d" ++ k)) _) $(id k) _ = $(id ("H" ++ k)); obtain ⟨$(id ("s" ++ k)), $(id ("h" ++ k))⟩ := Go.bare $(id ("n" ++ k)) $(id ("nd" ++ k)) $(id ("ne" ++ k)) hu; clear hu; walk_at "rd"))
    | ["me"] => `(tactic| (refine ⟨_, _, _, rfl, by tm_at "up", rfl, ?_⟩; walk_at "rd"))
    | ["star"] => `(tactic| ((first | refine ⟨_, _, rfl, .inl (by tm_at "up"), ?_⟩ | refine ⟨_, _, rfl, .inr (by tm_at "up"), ?_⟩ | fail "star"); walk_at "rd"))
    | ["ap0"] => `(tactic| (refine ⟨.inl ⟨rfl, _, by tm_at "up"⟩, ?_⟩; tm_at "rd"))
    | ["ap"] => `(tactic| refine ⟨_, _, _, rfl, rfl, by tm_at "up", by tm_at "sz", ?_⟩)
    | ["un", n] => match n with
      | "2" => `(tactic| (refine ⟨_, _, rfl, by tm_at "up", rfl, _, _, rfl, _, _, rfl, rfl, ?_⟩; tm_at "rd"))
      | _ => `(tactic| (refine ⟨_, _, rfl, by tm_at "up", rfl, _, _, rfl, _, _, rfl, _, _, rfl, rfl, ?_⟩; tm_at "rd"))
    | ["eqs", x, t, e] => `(tactic| (by_cases $(id e):ident : $(id x) = Str.ofString $(Lean.Syntax.mkStrLit t) <;> first | rw [decide_eq_true (show V.str $(id x) = V.str (Str.ofString $(Lean.Syntax.mkStrLit t)) by rw [$(id e):ident])] | rw [decide_eq_false (show ¬ V.str $(id x) = V.str (Str.ofString $(Lean.Syntax.mkStrLit t)) from fun h => $(id e) (V.str.inj h))]))
    | ["eqi", x, n, e] => `(tactic| (by_cases $(id e):ident : $(id x) = $(Lean.Syntax.mkNumLit n) <;> first | rw [decide_eq_true (show V.int $(id x) = V.int $(Lean.Syntax.mkNumLit n) by rw [$(id e):ident])] | rw [decide_eq_false (show ¬ V.int $(id x) = V.int $(Lean.Syntax.mkNumLit n) from fun h => $(id e) (V.int.inj h))]))
    | _ => Lean.Macro.throwUnsupported
/-! ### the law's values and their texts -/
section
variable {P : Program} {w : World} {K : PySem.W.Frag} {mg : Str → Option Value} {base : Heap}
@[irreducible] def spLValue : Sp := fun vs H Q _ => ∃ (x : Str) (src : Addr) (n : Nat), vs = [.str x, .ref src, .int (n : Int)] ∧ Src H src ∧ n ≤ 8 ∧ ∀ v a H', SameBut src H H' → Src H' src → VaAt H' v a → GoodVa x n a → Q v H'
theorem ok_lvalue {f : Addr} {fd : FuncData} (F : Fun K "_law_value" "_law_value" s__law_value f fd) (m_range : mg "range" = none) (C__law_draw : CDraw P w K mg base) (C__law_fraction : Cal P w K mg base "_law_fraction" 2 ["_law_source_here"] spFraction) : FnOk P w K mg base CX0 3 f fd ["_law_word", "_law_source_here", "_law_size"] spLValue := by
  refine F.ok sc__law_value (fun vs H Q E h => ?_) (fun cdv A outer s H vs Q E hr h => ?_)
  · unfold spLValue at h
    obtain ⟨x, src, n, rfl, _⟩ := h
    rfl
  · unfold spLValue at h
    obtain ⟨x, src, n, rfl, hA, hn, q⟩ := h
    refine ⟨_, (pss_cons (ps_if (pt_cmpR op_eq (pv 0) pe_str (nomark _))
      (pss_one (ps_ret (pe_cal C__law_draw (hr.mono (by decide)) (pa_cons (pv 1) (pa_cons pe_int pa_nil)))))
      pss_nil)
    (pss_cons (ps_if (pt_cmpR op_eq (pv 0) pe_str (nomark _))
      (pss_one (ps_ret (pe_cal C__law_draw (hr.mono (by decide)) (pa_cons (pv 1) (pa_cons pe_int pa_nil)))))
      pss_nil)
    (pss_cons (ps_if (pt_cmpR op_eq (pv 0) pe_str (nomark _))
      (pss_one (ps_ret (pe_cal C__law_fraction (hr.mono (by decide)) (pa_cons (pv 1) pa_nil))))
      pss_nil)
    (pss_cons (ps_if (pt_cmpR op_eq (pv 0) pe_str (nomark _))
      (pss_cons (ps_set (i := 4) sc__law_value.nd rfl (Or.inl rfl) pe_str)
    (pss_cons (ps_for PassesOwn.never rfl (pi_range1 (by rfl) m_range (pa_cons (pv 2) pa_nil)) (pg_name (i := 5) sc__law_value.nd rfl (Or.inl rfl))
      (pss_one (ps_set (i := 4) sc__law_value.nd rfl (Or.inl rfl) (pe_op op_add_str (pv 4) (pe_ix ix_str pe_str (pe_cal C__law_draw (hr.mono (by decide)) (pa_cons (pv 1) (pa_cons pe_int pa_nil))) (fun _ _ => rfl))))))
    (pss_one (ps_ret (pv 4)))))
      pss_nil)
    (pss_cons (ps_set (i := 3) sc__law_value.nd rfl (Or.inl rfl) (pe_lst (pa_cons pe_int (pa_cons pe_int (pa_cons (pe_cal C__law_draw (hr.mono (by decide)) (pa_cons (pv 1) (pa_cons pe_int pa_nil))) (pa_cons (pe_cal C__law_draw (hr.mono (by decide)) (pa_cons (pv 1) (pa_cons pe_int pa_nil))) (pa_cons (pe_op op_add (pe_op op_pow pe_int pe_int) (pe_cal C__law_draw (hr.mono (by decide)) (pa_cons (pv 1) (pa_cons (pe_op op_pow pe_int pe_int) pa_nil)))) pa_nil)))))))
    (pss_one (ps_ret (pe_op op_mul (pe_ix ix_list (pv 3) (pe_cal C__law_draw (hr.mono (by decide)) (pa_cons (pv 1) (pa_cons pe_int pa_nil))) (fun _ _ => rfl)) (pe_op op_sub pe_int (pe_op op_mul pe_int (pe_cal C__law_draw (hr.mono (by decide)) (pa_cons (pv 1) (pa_cons pe_int pa_nil))))))))))))), ?_⟩
    walk_at "rd"
    tm_at "eqs x bits nB"
    · subst nB
      walk_at "rd"
      refine draw_of (lim := 2) hA (by decide) fun r H1 a0 a1 b1 A1 => ?_
      exact q _ (.num r) H1 b1 A1 rfl ⟨by decide +kernel, by decide +kernel, fun _ => ⟨a0, by omega⟩, fun h => absurd h (by decide +kernel), by omega⟩
    walk_at "rd"
    tm_at "eqs x rows nR"
    · subst nR
      walk_at "rd"
      refine draw_of (lim := 3) hA (by decide) fun r H1 a0 a1 b1 A1 => ?_
      exact q _ (.num r) H1 b1 A1 rfl ⟨by decide +kernel, by decide +kernel, fun h => absurd h (by decide +kernel), fun _ => ⟨a0, by omega⟩, by omega⟩
    walk_at "rd"
    tm_at "eqs x lines nL"
    · subst nL
      walk_at "rd"
      unfold spFraction
      exact ⟨src, rfl, hA, fun p a b H1 b1 A1 hp h1 h2 h3 h4 => q _ (.frac a b) H1 b1 A1 ⟨p, rfl, hp⟩ ⟨rfl, h1, h2, h3, h4⟩⟩
    walk_at "rd"
    tm_at "eqs x words nW"
    · subst nW
      walk_at "rd"
      refine ⟨by omega, by omega, for_it walk_range (fun i σ H' => ∃ (o5 : Option V) (z : Str), σ = [some (.str wW), some (.ref src), some (.int (n : Int)), none, some (.str z), o5] ∧ SameBut src H H' ∧ Src H' src ∧ okLet z = true ∧ z.length = i) ⟨none, _, rfl, SameBut.refl src H, hA, by decide +kernel, by decide +kernel⟩ (fun _ _ _ _ _ => trivial) ?_ ?_⟩
      · rintro i x σ H1 H1' hi ⟨o5, z, rfl, b1, A1, hz, hl⟩ ⟨rfl, rfl⟩
        walk_at "rd"
        refine draw_of (lim := 2) A1 (by decide) fun r H2 a0 a1 b2 A2 => ?_
        obtain ⟨c, hc, hm⟩ := pick (L := "ab") a0 a1
        refine ⟨_, _, _, rfl, rfl, (by decide), hc, ?_⟩
        walk_at "rd"
        refine ⟨szl (by rw [hl]; omega), ?_⟩
        refine ⟨_, _, rfl, b1.trans b2, A2, ?_, by rw [app_len, hl]; rfl⟩
        unfold okLet at hz ⊢
        rw [tl_append, List.all_append, hz]
        have hm2 : c ∈ [97, 98] := by
          have e : tl (Str.ofString "ab") = [97, 98] := by decide +kernel
          rwa [e] at hm
        show (decide (c ∈ [97, 98]) && true) = true
        rw [decide_eq_true hm2]
        rfl
      · rintro σ H1 ⟨o5, z, rfl, b1, A1, hz, hl⟩
        walk_at "rd"
        exact q _ (.let z) H1 b1 A1 rfl ⟨rfl, hz, by rw [hl]; omega⟩
    walk_at "rd"
    refine draw_of (lim := 12) hA (by decide) fun r1 H1 a0 a1 b1 A1 => ?_
    walk_at "rd"
    refine draw_of (lim := 200) A1 (by decide) fun r2 H2 c0 c1 b2 A2 => ?_
    walk_at "rd"
    refine ⟨⟨by decide, by decide, by decide⟩, ?_⟩
    walk_at "rd"
    refine ⟨⟨by decide, by decide, by decide⟩, ?_⟩
    walk_at "rd"
    refine draw_of (lim := 10 ^ 6) A2 (by decide) fun r3 H3 d0 d1 b3 A3 => ?_
    walk_at "rd"
    tm_at "al G"
    have AL := src_same A3 sG
    have Ls := src_ne A3 nG
    walk_at "rd"
    refine draw_of (lim := 5) AL (by decide) fun r4 H4 e0 e1 b4 A4 => ?_
    have hL4 := b4 _ _ Ls.symm hG
    obtain ⟨v, hv, hm⟩ := at_of (xs := [V.int 0, V.int 1, V.int r1, V.int r2, V.int (10 ^ 30 + r3)]) e0 e1
    have hv2 : ∃ t : Int, v = .int t ∧ 0 ≤ t ∧ t < 10 ^ 31 := by
      simp only [List.mem_cons, List.not_mem_nil, or_false] at hm
      rcases hm with rfl | rfl | rfl | rfl | rfl
      · exact ⟨0, rfl, by decide, by decide⟩
      · exact ⟨1, rfl, by decide, by decide⟩
      · exact ⟨r1, rfl, a0, by omega⟩
      · exact ⟨r2, rfl, c0, by omega⟩
      · exact ⟨10 ^ 30 + r3, rfl, by omega, by omega⟩
    obtain ⟨t, rfl, t0, t1⟩ := hv2
    refine ⟨_, _, _, _, rfl, rfl, sq hL4, hv, ?_⟩
    walk_at "rd"
    refine draw_of (lim := 2) A4 (by decide) fun r8 H8 i0 i1 b8 A8 => ?_
    walk_at "rd"
    refine ⟨.inl ⟨by decide, by decide⟩, ?_⟩
    walk_at "rd"
    refine ⟨.inr ⟨by omega, by omega⟩, ?_⟩
    have c8 : SameBut src H H8 := (((b1.trans b2).trans b3).trans (SameBut.trans (Bx.Same.but sG) b4)).trans b8
    refine q _ (.num (t * (1 - 2 * r8))) H8 c8 A8 rfl ⟨nL, nW, fun h => absurd h nB, fun h => absurd h nR, ?_⟩
    rw [Int.natAbs_mul]
    have h1 : (1 - 2 * r8).natAbs = 1 := by omega
    rw [h1, Nat.mul_one]
    omega
@[irreducible] def spVText : Sp := fun vs H Q _ => ∃ (x : Str) (v : V) (a : Va), vs = [.str x, v] ∧ VaAt H v a ∧ OkVa x a ∧ ∀ H', Same H H' → Q (.str (txtV a)) H'
theorem ok_vtext {f : Addr} {fd : FuncData} (F : Fun K "_law_value_text" "_law_value_text" s__law_value_text f fd) (m_str : mg "str" = none) : FnOk P w K mg base CX0 1 f fd ["_law_word", "_law_value_here"] spVText := by
  refine F.ok sc__law_value_text (fun vs H Q E h => ?_) (fun cdv A outer s H vs Q E hr h => ?_)
  · unfold spVText at h
    obtain ⟨x, v, a, rfl, _⟩ := h
    rfl
  · unfold spVText at h
    obtain ⟨x, v, a, rfl, ha, ho, q⟩ := h
    have q := q H (Same.refl H)
    refine ⟨_, (pss_cons (ps_if (pt_cmpR op_eq (pv 0) pe_str (nomark _))
      (pss_cons (ps_if (pt_cmpR op_eq (pe_ix ix_tup (pv 1) pe_int (fun _ _ => rfl)) pe_int (nomark _))
      (pss_one (ps_ret (pe_callTy (T := "str") call_strV (by rfl) m_str (by decide +kernel) (pa_cons (pe_ix ix_tup (pv 1) pe_int (fun _ _ => rfl)) pa_nil))))
      pss_nil)
    (pss_one (ps_ret (pe_op op_add_str (pe_op op_add_str (pe_callTy (T := "str") call_strV (by rfl) m_str (by decide +kernel) (pa_cons (pe_ix ix_tup (pv 1) pe_int (fun _ _ => rfl)) pa_nil)) pe_str) (pe_callTy (T := "str") call_strV (by rfl) m_str (by decide +kernel) (pa_cons (pe_ix ix_tup (pv 1) pe_int (fun _ _ => rfl)) pa_nil))))))
      pss_nil)
    (pss_one (ps_ret (pe_callTy (T := "str") call_strV (by rfl) m_str (by decide +kernel) (pa_cons (pv 1) pa_nil))))), ?_⟩
    walk_at "rd"
    tm_at "eqs x lines ne"
    · cases a with
      | num i => exact absurd ne ho.1
      | «let» z => exact absurd ne ho.1
      | frac a b =>
        obtain ⟨p, rfl, hp⟩ := ha
        obtain ⟨_, h1, h2⟩ := ho
        rw [txtV_frac] at q
        walk_at "rd"
        tm_at "ix 1"
        rw [dec_int]
        by_cases eb : b = 1
        · rw [decide_eq_true eb]
          rw [if_pos eb] at q
          walk_at "rd"
          tm_at "ix 0"
          exact .inl ⟨a, rfl, h1, q⟩
        · rw [decide_eq_false eb]
          rw [if_neg eb] at q
          have l1 := toI_len h1
          have l2 := toI_len h2
          walk_at "rd"
          tm_at "ix 0"
          refine .inl ⟨a, rfl, h1, ?_⟩
          walk_at "rd"
          refine ⟨sz (by rw [show (Str.ofString "/").length = 1 by decide +kernel]; omega), ?_⟩
          walk_at "rd"
          tm_at "ix 1"
          refine .inl ⟨b, rfl, h2, ?_⟩
          walk_at "rd"
          refine ⟨sz (by rw [app_len, show (Str.ofString "/").length = 1 by decide +kernel]; omega), ?_⟩
          rw [show Str.empty ++ Str.ofString (toString a) = Str.ofString (toString a) from TL.ext_tl (by rw [tl_append]; rfl)] at q
          exact q
    · walk_at "rd"
      cases a with
      | num i =>
        obtain rfl := ha
        exact .inl ⟨i, rfl, ho.2, q⟩
      | «let» z =>
        obtain rfl := ha
        exact .inr ⟨z, rfl, q⟩
      | frac i j => exact absurd ho.1 ne
end
end K06
namespace K06
open PySem PySem.Spec PyProof.Rows L2 Bx TL Dx Sup Er NdefX
local macro_rules | `(tactic| walk_at "rd") => `(tactic| repeat (first | refine ⟨rfl, ?_⟩ | refine ⟨_, rfl, ?_⟩ | refine ⟨_, _, rfl, rfl, ?_⟩ | refine ⟨⟨_, rfl⟩, ?_⟩))
local macro_rules
  | `(tactic| tm_at $s:str) => do
    let id (x : String) := Lean.mkIdent (Lean.Name.mkSimple x)
    match s.getString.splitOn " " with
    | ["rd"] => `(tactic| walk_at "rd")
    | ["sz"] => `(tactic| first | exact sz (by decide) | exact szl (by decide) | exact sz (by show _ ≤ 100000; decide) | ((first | refine sz ?_ | refine szl ?_); (try simp only [List.length_map, List.length_append, List.length_cons, List.length_nil, List.length_take, List.length_drop]); omega) | fail "sz: no bound")
    | ["gn", p, h] => `(tactic| (generalize hu : upd _ $(id p) _ = $(id ("H" ++ p)); obtain ⟨$(id ("s" ++ p)), $(id h)⟩ := Go.al $(id ("n" ++ p)) hu; clear hu))
    | ["al", p] => `(tactic| (refine ⟨by tm_at "sz", fun $(id p) $(id ("n" ++ p)) => ?_⟩; generalize hu : upd _ $(id p) _ = $(id ("H" ++ p)); obtain ⟨$(id ("s" ++ p)), $(id ("h" ++ p))⟩ := Go.al $(id ("n" ++ p)) hu; clear hu; tm_at "rd"))
    | ["al0", p] => `(tactic| (refine ⟨by tm_at "sz", fun $(id p) $(id ("n" ++ p)) => ?_⟩; generalize hu : upd _ $(id p) _ = $(id ("H" ++ p)); obtain ⟨$(id ("s" ++ p)), $(id ("h" ++ p))⟩ := Go.al $(id ("n" ++ p)) hu; clear hu; tm_at "rd"))
    | ["new", p] => `(tactic| (refine fun $(id p) $(id ("n" ++ p)) => ?_; generalize hu : upd _ $(id p) _ = $(id ("H" ++ p)); obtain ⟨$(id ("s" ++ p)), $(id ("h" ++ p))⟩ := Go.al $(id ("n" ++ p)) hu; clear hu; tm_at "rd"))
    | ["new0", p] => `(tactic| (refine fun $(id p) $(id ("n" ++ p)) => ?_; generalize hu : upd _ $(id p) _ = $(id ("H" ++ p)); obtain ⟨$(id ("s" ++ p)), $(id ("h" ++ p))⟩ := Go.al $(id ("n" ++ p)) hu; clear hu; tm_at "rd"))
    | ["up"] => `(tactic| first
        | assumption | exact sq (by assumption) | exact sqt (by assumption) | exact PlT.sq (by assumption)
        | (refine' Bx.Same.tup (by assumption) ?hh; (case hh => tm_at "up")) | (refine' Same.seq (by assumption) ?hh; (case hh => tm_at "up")) | (refine' Go.get (by assumption) ?hh; (case hh => tm_at "up")) | (refine' dpAll_same (by assumption) ?hh; (case hh => tm_at "up")) | (refine' dp_same (by assumption) ?hh; (case hh => tm_at "up")) | (refine' PlT.same (by assumption) ?hh; (case hh => tm_at "up")) | (refine' Go.srcS (by assumption) ?hh; (case hh => tm_at "up"))
        | (refine' Go.tupB (s := _) (by assumption) (by assumption) ?hh; (case hh => tm_at "up")) | (refine' Go.dkB (s := _) (by assumption) (by assumption) ?hh; (case hh => tm_at "up")) | (refine' Go.insB (s := _) (by assumption) (by assumption) ?hh; (case hh => tm_at "up")) | (refine' Go.pltB (s := _) (by assumption) (by assumption) ?hh; (case hh => tm_at "up"))
        | (refine' Go.getB (by assumption) (by first | assumption | exact Ne.symm (by assumption)) ?hh; (case hh => tm_at "up"))
        | (refine' sq ?hh; (case hh => tm_at "raw")) | (refine' sqt ?hh; (case hh => tm_at "raw")) | (refine' PlT.sq ?hh; (case hh => tm_at "raw")) | fail "up: no fact")
    | ["raw"] => `(tactic| first
        | assumption | (refine' Go.get (by assumption) ?hh; (case hh => tm_at "raw")) | (refine' PlT.same (by assumption) ?hh; (case hh => tm_at "raw")) | (refine' Go.pltB (s := _) (by assumption) (by assumption) ?hh; (case hh => tm_at "raw")) | (refine' Go.getB (by assumption) (by first | assumption | exact Ne.symm (by assumption)) ?hh; (case hh => tm_at "raw")) | fail "raw: no fact")
    | ["sq"] => `(tactic| first | exact .inl (by tm_at "up") | exact .inr (by tm_at "up") | fail "sq: no fact")
    | ["ix", j] => `(tactic| (refine ⟨_, _, _, _, rfl, rfl, by tm_at "up", by exact atI_nat (j := $(Lean.Syntax.mkNumLit j)) rfl, ?_⟩; tm_at "rd"))
    | ["ixh", h] => `(tactic| (refine ⟨_, _, _, _, rfl, rfl, by tm_at "up", by first | exact Go.at_mapV $(id h) | exact Go.at_mapZ $(id h) | exact atI_nat $(id h) | exact Go.at_nat0 $(id h), ?_⟩; tm_at "rd"))
    | ["len"] => `(tactic| (refine ⟨_, _, rfl, by tm_at "sq", ?_⟩; (try rw [List.length_map]); tm_at "rd"))
    | ["tp", p] => `(tactic| (refine ⟨_, _, rfl, .inl ⟨by tm_at "up", fun $(id p) $(id ("n" ++ p)) => ?_⟩⟩; generalize hu : upd _ $(id p) _ = $(id ("H" ++ p)); obtain ⟨$(id ("s" ++ p)), $(id ("h" ++ p))⟩ := Go.al $(id ("n" ++ p)) hu; clear hu; tm_at "rd"))
    | ["tp0", p] => `(tactic| (refine ⟨_, _, rfl, .inl ⟨by tm_at "up", fun $(id p) $(id ("n" ++ p)) => ?_⟩⟩; generalize hu : upd _ $(id p) _ = $(id ("H" ++ p)); obtain ⟨$(id ("s" ++ p)), $(id ("h" ++ p))⟩ := Go.al $(id ("n" ++ p)) hu; clear hu; tm_at "rd"))
    | ["ls", p] => `(tactic| (refine ⟨_, _, rfl, by tm_at "sq", fun $(id p) $(id ("n" ++ p)) => ?_⟩; generalize hu : upd _ $(id p) _ = $(id ("H" ++ p)); obtain ⟨$(id ("s" ++ p)), $(id ("h" ++ p))⟩ := Go.al $(id ("n" ++ p)) hu; clear hu; tm_at "rd"))
    | ["ls0", p] => `(tactic| (refine ⟨_, _, rfl, by tm_at "sq", fun $(id p) $(id ("n" ++ p)) => ?_⟩; generalize hu : upd _ $(id p) _ = $(id ("H" ++ p)); obtain ⟨$(id ("s" ++ p)), $(id ("h" ++ p))⟩ := Go.al $(id ("n" ++ p)) hu; clear hu; tm_at "rd"))
    | ["tf", p] => `(tactic| (refine ⟨_, _, rfl, by tm_at "up", fun $(id p) $(id ("o" ++ p)) $(id ("n" ++ p)) $(id ("d" ++ p)) => ?_⟩; generalize hu : upd _ $(id p) _ = $(id ("H" ++ p)); obtain ⟨$(id ("s" ++ p)), $(id ("h" ++ p))⟩ := Go.alF $(id ("n" ++ p)) $(id ("d" ++ p)) hu; clear hu; tm_at "rd"))
    | ["alF", p] => `(tactic| (refine ⟨by tm_at "sz", fun $(id p) $(id ("o" ++ p)) $(id ("n" ++ p)) $(id ("d" ++ p)) => ?_⟩; generalize hu : upd _ $(id p) _ = $(id ("H" ++ p)); obtain ⟨$(id ("s" ++ p)), $(id ("h" ++ p))⟩ := Go.alF $(id ("n" ++ p)) $(id ("d" ++ p)) hu; clear hu; tm_at "rd"))
    | ["bare", k] => `(tactic| (refine fun $(id k) $(id ("d" ++ k)) $(id ("n" ++ k)) $(id ("nd" ++ k)) $(id ("ne" ++ k)) => ?_; generalize hu : upd (upd _ $(id ("d" ++ k)) _) $(id k) _ = $(id ("H" ++ k)); obtain ⟨$(id ("s" ++ k)), $(id ("h" ++ k))⟩ := Go.bare $(id ("n" ++ k)) $(id ("nd" ++ k)) $(id ("ne" ++ k)) hu; clear hu; walk_at "rd"))
    | ["me"] => `(tactic| (refine ⟨_, _, _, rfl, by tm_at "up", rfl, ?_⟩; walk_at "rd"))
    | ["star"] => `(tactic| ((first | refine ⟨_, _, rfl, .inl (by tm_at "up"), ?_⟩ | refine ⟨_, _, rfl, .inr (by tm_at "up"), ?_⟩ | fail "star"); walk_at "rd"))
    | ["ap0"] => `(tactic| (refine ⟨.inl ⟨rfl, _, by tm_at "up"⟩, ?_⟩; tm_at "rd"))
    | ["ap"] => `(tactic| refine ⟨_, _, _, rfl, rfl, by tm_at "up", by tm_at "sz", ?_⟩)
    | ["un", n] => match n with
      | "2" => `(tactic| (refine ⟨_, _, rfl, by tm_at "up", rfl, _, _, rfl, _, _, rfl, rfl, ?_⟩; tm_at "rd"))
      | _ => `(tactic| (refine ⟨_, _, rfl, by tm_at "up", rfl, _, _, rfl, _, _, rfl, _, _, rfl, rfl, ?_⟩; tm_at "rd"))
    | ["eqs", x, t, e] => `(tactic| (by_cases $(id e):ident : $(id x) = Str.ofString $(Lean.Syntax.mkStrLit t) <;> first | rw [decide_eq_true (show V.str $(id x) = V.str (Str.ofString $(Lean.Syntax.mkStrLit t)) by rw [$(id e):ident])] | rw [decide_eq_false (show ¬ V.str $(id x) = V.str (Str.ofString $(Lean.Syntax.mkStrLit t)) from fun h => $(id e) (V.str.inj h))]))
    | ["eqi", x, n, e] => `(tactic| (by_cases $(id e):ident : $(id x) = $(Lean.Syntax.mkNumLit n) <;> first | rw [decide_eq_true (show V.int $(id x) = V.int $(Lean.Syntax.mkNumLit n) by rw [$(id e):ident])] | rw [decide_eq_false (show ¬ V.int $(id x) = V.int $(Lean.Syntax.mkNumLit n) from fun h => $(id e) (V.int.inj h))]))
    | _ => Lean.Macro.throwUnsupported
/-! ### values that are none of the kind -/
def Bad (x : Str) (n : Nat) (z : Str) : Prop := if x = wW then okLet z = false ∨ z.length ≠ n else okVal x z = false
def BadT (x : Str) (n : Nat) (z : Str) : Prop := Bad x n z ∧ Ch z ∧ z.length ≤ 40
theorem ch_of {z : Str} (h : (tl z).all (fun c => decide (32 < c ∧ c < 128)) = true) : Ch z := fun c hc => of_decide_eq_true (List.all_eq_true.mp h c hc)
theorem bad_bits {n : Nat} {v : V} (h : v ∈ ["2", "-1", "", "a", "1/1"].map fun s => V.str (Str.ofString s)) : ∃ z, v = .str z ∧ BadT wB n z := by
  simp only [List.map_cons, List.map_nil, List.mem_cons, List.not_mem_nil, or_false] at h
  have k : ∀ s : String, okVal wB (Str.ofString s) = false → (tl (Str.ofString s)).all (fun c => decide (32 < c ∧ c < 128)) = true → (Str.ofString s).length ≤ 40 → v = V.str (Str.ofString s) → ∃ z, v = .str z ∧ BadT wB n z := fun s h1 h2 h3 h => ⟨_, h, by unfold Bad; rw [if_neg (by decide +kernel)]; exact h1, ch_of h2, h3⟩
  rcases h with h | h | h | h | h
  · exact k "2" (by decide +kernel) (by decide +kernel) (by decide +kernel) h
  · exact k "-1" (by decide +kernel) (by decide +kernel) (by decide +kernel) h
  · exact k "" (by decide +kernel) (by decide +kernel) (by decide +kernel) h
  · exact k "a" (by decide +kernel) (by decide +kernel) (by decide +kernel) h
  · exact k "1/1" (by decide +kernel) (by decide +kernel) (by decide +kernel) h
theorem bad_rows {n : Nat} {v : V} (h : v ∈ ["3", "-1", "", "a", "10"].map fun s => V.str (Str.ofString s)) : ∃ z, v = .str z ∧ BadT wR n z := by
  simp only [List.map_cons, List.map_nil, List.mem_cons, List.not_mem_nil, or_false] at h
  have k : ∀ s : String, okVal wR (Str.ofString s) = false → (tl (Str.ofString s)).all (fun c => decide (32 < c ∧ c < 128)) = true → (Str.ofString s).length ≤ 40 → v = V.str (Str.ofString s) → ∃ z, v = .str z ∧ BadT wR n z := fun s h1 h2 h3 h => ⟨_, h, by unfold Bad; rw [if_neg (by decide +kernel)]; exact h1, ch_of h2, h3⟩
  rcases h with h | h | h | h | h
  · exact k "3" (by decide +kernel) (by decide +kernel) (by decide +kernel) h
  · exact k "-1" (by decide +kernel) (by decide +kernel) (by decide +kernel) h
  · exact k "" (by decide +kernel) (by decide +kernel) (by decide +kernel) h
  · exact k "a" (by decide +kernel) (by decide +kernel) (by decide +kernel) h
  · exact k "10" (by decide +kernel) (by decide +kernel) (by decide +kernel) h
theorem bad_other {x : Str} {n : Nat} {v : V} (nB : x ≠ wB) (nR : x ≠ wR) (nL : x ≠ wL) (nW : x ≠ wW) (h : v ∈ ["1/2", "", "--1", "-0", "1.0", "x"].map fun s => V.str (Str.ofString s)) : ∃ z, v = .str z ∧ BadT x n z := by
  simp only [List.map_cons, List.map_nil, List.mem_cons, List.not_mem_nil, or_false] at h
  have k : ∀ s : String, okNum (tl (Str.ofString s)) = false → (tl (Str.ofString s)).all (fun c => decide (32 < c ∧ c < 128)) = true → (Str.ofString s).length ≤ 40 → v = V.str (Str.ofString s) → ∃ z, v = .str z ∧ BadT x n z := fun s h1 h2 h3 h => ⟨_, h, by unfold Bad; rw [if_neg nW]; unfold okVal; rw [if_neg nB, if_neg nR, if_neg nL, if_neg nW]; exact h1, ch_of h2, h3⟩
  rcases h with h | h | h | h | h | h
  · exact k "1/2" (by decide +kernel) (by decide +kernel) (by decide +kernel) h
  · exact k "" (by decide +kernel) (by decide +kernel) (by decide +kernel) h
  · exact k "--1" (by decide +kernel) (by decide +kernel) (by decide +kernel) h
  · exact k "-0" (by decide +kernel) (by decide +kernel) (by decide +kernel) h
  · exact k "1.0" (by decide +kernel) (by decide +kernel) (by decide +kernel) h
  · exact k "x" (by decide +kernel) (by decide +kernel) (by decide +kernel) h
theorem okVal_L (z : Str) : okVal wL z = okFrac z := by
  unfold okVal
  rw [if_neg (by decide +kernel), if_neg (by decide +kernel), if_pos rfl]
theorem num_tail {a : Int} {q : Str} {l : List Nat} (hq : tl q = 47 :: l) (h : okNum l = false ∨ numOf l < 2) : okFrac (Str.ofString (toString a) ++ q) = false := by
  have e : tl (Str.ofString (toString a) ++ q) = numT a ++ 47 :: l := by rw [tl_append, hq]
  rw [(frac_at e (numT_no (by decide))).1]
  rcases h with h | h
  · rw [h, Bool.and_false, Bool.false_and]
  · rw [decide_eq_true h, Bool.true_or, Bool.not_true, Bool.and_false]
theorem bad_frac {n : Nat} {z : Str} (h : okFrac z = false) (h2 : Ch z) (h3 : z.length ≤ 40) : BadT wL n z := ⟨by unfold Bad; rw [if_neg (by decide +kernel), okVal_L]; exact h, h2, h3⟩
theorem bad_tail {n : Nat} {a : Int} {q : Str} {l : List Nat} (ha : a.natAbs < 10 ^ 31) (hq : tl q = 47 :: l) (h : okNum l = false ∨ numOf l < 2) (h2 : Ch q) (h3 : q.length ≤ 8) : BadT wL n (Str.ofString (toString a) ++ q) :=
  bad_frac (num_tail hq h) (Ch.app (ch_num a) h2) (by
    have := num_len31 ha
    rw [app_len]
    omega)
theorem num_len32 {i : Int} (h : i.natAbs < 10 ^ 32) : (Str.ofString (toString i)).length ≤ 33 := by
  rw [len_tl]
  cases i with
  | ofNat m =>
    show (numT (m : Int)).length ≤ 33
    rw [numT_nat]
    have := numL_len (n := m) (k := 32) (by decide) h
    omega
  | negSucc m =>
    show (numT (Int.negSucc m)).length ≤ 33
    rw [numT_neg, List.length_cons]
    have := numL_len (n := m + 1) (k := 32) (by decide) h
    omega
theorem bad_doubled {n : Nat} {a b : Int} (ha : (2 * a).natAbs < 10 ^ 32) (hb : 1 ≤ b) (hb2 : b ≤ 40) : BadT wL n (Str.ofString (toString (2 * a)) ++ Str.ofString "/" ++ Str.ofString (toString (2 * b))) := by
  have e : tl (Str.ofString (toString (2 * a)) ++ Str.ofString "/" ++ Str.ofString (toString (2 * b))) = numT (2 * a) ++ 47 :: numT (2 * b) := by
    rw [tl_append, tl_append, List.append_assoc]
    rfl
  refine bad_frac ?_ (Ch.app (Ch.app (ch_num _) (ch_of (by decide +kernel))) (ch_num _)) ?_
  · rw [(frac_at e (numT_no (by decide))).1, (numT_ok _).2, (numT_ok _).2]
    have hg : Nat.gcd (2 * a).natAbs (2 * b).natAbs ≠ 1 := by
      rw [Int.natAbs_mul, Int.natAbs_mul, show (2 : Int).natAbs = 2 from rfl, Nat.gcd_mul_left]
      omega
    rw [decide_eq_true (p := Nat.gcd (2 * a).natAbs (2 * b).natAbs ≠ 1) hg, Bool.or_true, Bool.not_true, Bool.and_false]
  · have h1 := num_len32 ha
    have h2 := num_len2 (i := 2 * b) (by omega) (by omega)
    rw [app_len, app_len, show (Str.ofString "/").length = 1 by decide +kernel]
    omega
theorem bad_words {n : Nat} {z y : Str} (hn : n ≤ 8) (hz : okLet z = true) (hl : z.length = n) (h : (okLet y = false ∧ y.length ≤ 9) ∨ y = z ++ Str.ofString "a") (hy : Ch y) : BadT wW n y := by
  refine ⟨?_, hy, ?_⟩
  · unfold Bad
    rw [if_pos rfl]
    rcases h with h | rfl
    · exact .inl h.1
    · refine .inr ?_
      rw [app_len, show (Str.ofString "a").length = 1 by decide +kernel]
      omega
  · rcases h with h | rfl
    · omega
    · rw [app_len, show (Str.ofString "a").length = 1 by decide +kernel]
      omega
theorem not_let {z : Str} {c : Nat} (h : c ∈ tl z) (hc : c ≠ 97 ∧ c ≠ 98) : okLet z = false := by
  cases e : okLet z with
  | false => rfl
  | true =>
    have := let_ch e c h
    omega
section
variable {P : Program} {w : World} {K : PySem.W.Frag} {mg : Str → Option Value} {base : Heap}
@[irreducible] def spBad : Sp := fun vs H Q _ => ∃ (x : Str) (src : Addr) (v : V) (n : Nat) (a : Va), vs = [.str x, .ref src, v] ∧ Src H src ∧ VaAt H v a ∧ GoodVa x n a ∧ n ≤ 8 ∧ ∀ z H', SameBut src H H' → Src H' src → BadT x n z → Q (.str z) H'
theorem ok_bad {f : Addr} {fd : FuncData} (F : Fun K "_law_bad_value" "_law_bad_value" s__law_bad_value f fd) (m_str : mg "str" = none) (C__law_draw : CDraw P w K mg base) : FnOk P w K mg base CX0 2 f fd ["_law_word", "_law_source_here", "_law_value_here"] spBad := by
  refine F.ok sc__law_bad_value (fun vs H Q E h => ?_) (fun cdv A outer s H vs Q E hr h => ?_)
  · unfold spBad at h
    obtain ⟨x, src, v, n, a, rfl, _⟩ := h
    rfl
  · unfold spBad at h
    obtain ⟨x, src, v, n, a, rfl, hA, hv, hg, hn, q⟩ := h
    refine ⟨_, (pss_cons (ps_if (pt_cmpR op_eq (pv 0) pe_str (nomark _))
      (pss_one (ps_ret (pe_ix ix_list (pe_lst (pa_cons pe_str (pa_cons pe_str (pa_cons pe_str (pa_cons pe_str (pa_cons pe_str pa_nil)))))) (pe_cal C__law_draw (hr.mono (by decide)) (pa_cons (pv 1) (pa_cons pe_int pa_nil))) (fun _ _ => rfl))))
      pss_nil)
    (pss_cons (ps_if (pt_cmpR op_eq (pv 0) pe_str (nomark _))
      (pss_one (ps_ret (pe_ix ix_list (pe_lst (pa_cons pe_str (pa_cons pe_str (pa_cons pe_str (pa_cons pe_str (pa_cons pe_str pa_nil)))))) (pe_cal C__law_draw (hr.mono (by decide)) (pa_cons (pv 1) (pa_cons pe_int pa_nil))) (fun _ _ => rfl))))
      pss_nil)
    (pss_cons (ps_if (pt_cmpR op_eq (pv 0) pe_str (nomark _))
      (pss_cons (ps_set (i := 3) sc__law_bad_value.nd rfl (Or.inl rfl) (pe_callTy (T := "str") call_str_int (by rfl) m_str (by decide +kernel) (pa_cons (pe_ix ix_tup (pv 2) pe_int (fun _ _ => rfl)) pa_nil)))
    (pss_cons (ps_set (i := 4) sc__law_bad_value.nd rfl (Or.inl rfl) (pe_op op_add_str (pe_op op_add_str (pe_callTy (T := "str") call_str_int (by rfl) m_str (by decide +kernel) (pa_cons (pe_op op_mul pe_int (pe_ix ix_tup (pv 2) pe_int (fun _ _ => rfl))) pa_nil)) pe_str) (pe_callTy (T := "str") call_str_int (by rfl) m_str (by decide +kernel) (pa_cons (pe_op op_mul pe_int (pe_ix ix_tup (pv 2) pe_int (fun _ _ => rfl))) pa_nil))))
    (pss_one (ps_ret (pe_ix ix_list (pe_lst (pa_cons (pe_op op_add_str (pv 3) pe_str) (pa_cons (pe_op op_add_str (pv 3) pe_str) (pa_cons (pv 4) (pa_cons (pe_op op_add_str (pv 3) pe_str) (pa_cons pe_str (pa_cons pe_str (pa_cons pe_str (pa_cons (pe_op op_add_str (pv 3) pe_str) pa_nil))))))))) (pe_cal C__law_draw (hr.mono (by decide)) (pa_cons (pv 1) (pa_cons pe_int pa_nil))) (fun _ _ => rfl))))))
      pss_nil)
    (pss_cons (ps_if (pt_cmpR op_eq (pv 0) pe_str (nomark _))
      (pss_one (ps_ret (pe_ix ix_list (pe_lst (pa_cons (pe_op op_add_str (pv 2) pe_str) (pa_cons (pe_op op_add_str (pv 2) pe_str) (pa_cons (pe_op op_add_str pe_str (pv 2)) (pa_cons (pe_op op_add_str (pv 2) pe_str) pa_nil))))) (pe_cal C__law_draw (hr.mono (by decide)) (pa_cons (pv 1) (pa_cons pe_int pa_nil))) (fun _ _ => rfl))))
      pss_nil)
    (pss_one (ps_ret (pe_ix ix_list (pe_lst (pa_cons pe_str (pa_cons pe_str (pa_cons pe_str (pa_cons pe_str (pa_cons pe_str (pa_cons pe_str pa_nil))))))) (pe_cal C__law_draw (hr.mono (by decide)) (pa_cons (pv 1) (pa_cons pe_int pa_nil))) (fun _ _ => rfl)))))))), ?_⟩
    walk_at "rd"
    tm_at "eqs x bits nB"
    · subst nB
      walk_at "rd"
      tm_at "al G"
      refine draw_of (lim := 5) (src_same hA sG) (by decide) fun r H1 a0 a1 b1 A1 => ?_
      have hG1 := b1 _ _ (src_ne hA nG).symm hG
      obtain ⟨u, hu, hm⟩ := at_of (xs := ["2", "-1", "", "a", "1/1"].map fun s => V.str (Str.ofString s)) a0 a1
      obtain ⟨z, rfl, hz⟩ := bad_bits (n := n) hm
      exact ⟨_, _, _, _, rfl, rfl, sq hG1, hu, q z H1 (SameBut.trans (Bx.Same.but sG) b1) A1 hz⟩
    walk_at "rd"
    tm_at "eqs x rows nR"
    · subst nR
      walk_at "rd"
      tm_at "al G"
      refine draw_of (lim := 5) (src_same hA sG) (by decide) fun r H1 a0 a1 b1 A1 => ?_
      have hG1 := b1 _ _ (src_ne hA nG).symm hG
      obtain ⟨u, hu, hm⟩ := at_of (xs := ["3", "-1", "", "a", "10"].map fun s => V.str (Str.ofString s)) a0 a1
      obtain ⟨z, rfl, hz⟩ := bad_rows (n := n) hm
      exact ⟨_, _, _, _, rfl, rfl, sq hG1, hu, q z H1 (SameBut.trans (Bx.Same.but sG) b1) A1 hz⟩
    walk_at "rd"
    tm_at "eqs x lines nL"
    · cases a with
      | num i => exact absurd nL hg.1
      | «let» z =>
        have := hg.1
        rw [nL] at this
        exact absurd this (by decide +kernel)
      | frac a b =>
        subst nL
        obtain ⟨p, rfl, hp⟩ := hv
        obtain ⟨_, h1, h40, hgc, ha⟩ := hg
        walk_at "rd"
        tm_at "ix 0"
        have ha2 : (2 * a).natAbs < 10 ^ 32 := by omega
        have hb2 : (2 * b).natAbs < 10 ^ 32 := by omega
        have lg : ∀ {i : Int}, i.natAbs < 10 ^ 32 → i.natAbs.log2 < 1920 := fun {i} h => by
          by_cases h0 : i.natAbs = 0
          · rw [h0]
            decide
          · exact (Nat.log2_lt h0).mpr (Nat.lt_trans h (by decide))
        have lt := num_len31 ha
        have lt2 := num_len32 ha2
        have lt3 := num_len32 hb2
        have e1 : (Str.ofString "/").length = 1 := by decide +kernel
        refine ⟨log31 ha, ?_⟩
        walk_at "rd"
        tm_at "ix 0"
        refine ⟨.inl ⟨by decide, by decide⟩, ?_⟩
        walk_at "rd"
        refine ⟨lg ha2, ?_⟩
        walk_at "rd"
        refine ⟨sz (by rw [e1]; omega), ?_⟩
        walk_at "rd"
        tm_at "ix 1"
        refine ⟨.inl ⟨by decide, by decide⟩, ?_⟩
        walk_at "rd"
        refine ⟨lg hb2, ?_⟩
        walk_at "rd"
        refine ⟨sz (by rw [app_len, e1]; omega), ?_⟩
        walk_at "rd"
        refine ⟨sz (by rw [show (Str.ofString "/0").length = 2 by decide +kernel]; omega), ?_⟩
        walk_at "rd"
        refine ⟨sz (by rw [show (Str.ofString "/1").length = 2 by decide +kernel]; omega), ?_⟩
        walk_at "rd"
        refine ⟨sz (by rw [show (Str.ofString "/-2").length = 3 by decide +kernel]; omega), ?_⟩
        walk_at "rd"
        refine ⟨sz (by rw [e1]; omega), ?_⟩
        walk_at "rd"
        tm_at "al G"
        refine draw_of (lim := 8) (src_same hA sG) (by decide) fun r H1 a0 a1 b1 A1 => ?_
        have hG1 := b1 _ _ (src_ne hA nG).symm hG
        obtain ⟨u, hu, hm⟩ := at_of (xs := _) a0 (show r < ([V.str (Str.ofString (toString a) ++ Str.ofString "/0"), V.str (Str.ofString (toString a) ++ Str.ofString "/1"), V.str (Str.ofString (toString (2 * a)) ++ Str.ofString "/" ++ Str.ofString (toString (2 * b))),
          V.str (Str.ofString (toString a) ++ Str.ofString "/-2"), V.str (Str.ofString "0/5"), V.str (Str.ofString ""), V.str (Str.ofString "-"), V.str (Str.ofString (toString a) ++ Str.ofString "/")].length : Nat) from a1)
        obtain ⟨z, rfl, hz⟩ : ∃ z, u = .str z ∧ BadT wL n z := by
          simp only [List.mem_cons, List.not_mem_nil, or_false] at hm
          have k : ∀ s : String, okFrac (Str.ofString s) = false → (tl (Str.ofString s)).all (fun c => decide (32 < c ∧ c < 128)) = true → (Str.ofString s).length ≤ 40 → BadT wL n (Str.ofString s) := fun s h1 h2 h3 => bad_frac h1 (ch_of h2) h3
          rcases hm with h | h | h | h | h | h | h | h
          · exact ⟨_, h, bad_tail (l := [48]) ha (by decide +kernel) (.inr (by decide +kernel)) (ch_of (by decide +kernel)) (by decide +kernel)⟩
          · exact ⟨_, h, bad_tail (l := [49]) ha (by decide +kernel) (.inr (by decide +kernel)) (ch_of (by decide +kernel)) (by decide +kernel)⟩
          · exact ⟨_, h, bad_doubled ha2 h1 h40⟩
          · exact ⟨_, h, bad_tail (l := [45, 50]) ha (by decide +kernel) (.inr (by decide +kernel)) (ch_of (by decide +kernel)) (by decide +kernel)⟩
          · exact ⟨_, h, k "0/5" (by decide +kernel) (by decide +kernel) (by decide +kernel)⟩
          · exact ⟨_, h, k "" (by decide +kernel) (by decide +kernel) (by decide +kernel)⟩
          · exact ⟨_, h, k "-" (by decide +kernel) (by decide +kernel) (by decide +kernel)⟩
          · exact ⟨_, h, bad_tail (l := []) ha (by decide +kernel) (.inl (by decide +kernel)) (ch_of (by decide +kernel)) (by decide +kernel)⟩
        exact ⟨_, _, _, _, rfl, rfl, sq hG1, hu, q z H1 (SameBut.trans (Bx.Same.but sG) b1) A1 hz⟩
    walk_at "rd"
    tm_at "eqs x words nW"
    · cases a with
      | num i => exact absurd nW hg.2.1
      | frac a b =>
        have := hg.1
        rw [nW] at this
        exact absurd this (by decide +kernel)
      | «let» z =>
        subst nW
        obtain rfl := hv
        obtain ⟨_, h1, h2⟩ := hg
        have zc : Ch z := fun c hc => by
          have := let_ch h1 c hc
          omega
        have e1 : ∀ s : String, (Str.ofString s).length ≤ 3 → z.length + (Str.ofString s).length ≤ sizeLine := fun s h => sz (by omega)
        have e2 : ∀ s : String, (Str.ofString s).length ≤ 3 → (Str.ofString s).length + z.length ≤ sizeLine := fun s h => sz (by omega)
        walk_at "rd"
        refine ⟨e1 "a" (by decide +kernel), ?_⟩
        walk_at "rd"
        refine ⟨e1 "c" (by decide +kernel), ?_⟩
        walk_at "rd"
        refine ⟨e2 "1" (by decide +kernel), ?_⟩
        walk_at "rd"
        refine ⟨e1 "=" (by decide +kernel), ?_⟩
        walk_at "rd"
        tm_at "al G"
        refine draw_of (lim := 4) (src_same hA sG) (by decide) fun r H1 a0 a1 b1 A1 => ?_
        have hG1 := b1 _ _ (src_ne hA nG).symm hG
        obtain ⟨u, hu, hm⟩ := at_of (xs := _) a0 (show r < ([V.str (z ++ Str.ofString "a"), V.str (z ++ Str.ofString "c"), V.str (Str.ofString "1" ++ z), V.str (z ++ Str.ofString "=")].length : Nat) from a1)
        obtain ⟨y, rfl, hz⟩ : ∃ y, u = .str y ∧ BadT wW n y := by
          simp only [List.mem_cons, List.not_mem_nil, or_false] at hm
          have k : ∀ s : String, (tl (Str.ofString s)).all (fun c => decide (32 < c ∧ c < 128)) = true → Ch (z ++ Str.ofString s) := fun s h => Ch.app zc (ch_of h)
          rcases hm with h | h | h | h
          · exact ⟨_, h, bad_words hn h1 h2 (.inr rfl) (k "a" (by decide +kernel))⟩
          · exact ⟨_, h, bad_words hn h1 h2 (.inl ⟨not_let (c := 99) (by rw [tl_append]; exact List.mem_append_right _ (by decide +kernel)) (by decide), by rw [app_len, show (Str.ofString "c").length = 1 by decide +kernel]; omega⟩) (k "c" (by decide +kernel))⟩
          · exact ⟨_, h, bad_words hn h1 h2 (.inl ⟨not_let (c := 49) (by rw [tl_append]; exact List.mem_append_left _ (by decide +kernel)) (by decide), by rw [app_len, show (Str.ofString "1").length = 1 by decide +kernel]; omega⟩) (Ch.app (ch_of (by decide +kernel)) zc)⟩
          · exact ⟨_, h, bad_words hn h1 h2 (.inl ⟨not_let (c := 61) (by rw [tl_append]; exact List.mem_append_right _ (by decide +kernel)) (by decide), by rw [app_len, show (Str.ofString "=").length = 1 by decide +kernel]; omega⟩) (k "=" (by decide +kernel))⟩
        exact ⟨_, _, _, _, rfl, rfl, sq hG1, hu, q y H1 (SameBut.trans (Bx.Same.but sG) b1) A1 hz⟩
    walk_at "rd"
    tm_at "al G"
    refine draw_of (lim := 6) (src_same hA sG) (by decide) fun r H1 a0 a1 b1 A1 => ?_
    have hG1 := b1 _ _ (src_ne hA nG).symm hG
    obtain ⟨u, hu, hm⟩ := at_of (xs := ["1/2", "", "--1", "-0", "1.0", "x"].map fun s => V.str (Str.ofString s)) a0 a1
    obtain ⟨z, rfl, hz⟩ := bad_other (n := n) nB nR nL nW hm
    exact ⟨_, _, _, _, rfl, rfl, sq hG1, hu, q z H1 (SameBut.trans (Bx.Same.but sG) b1) A1 hz⟩
end
end K06
namespace K06
open PySem PySem.Spec PyProof.Rows L2 Bx TL Dx Sup Er NdefX
local macro_rules | `(tactic| walk_at "rd") => `(tactic| repeat (first | refine ⟨rfl, ?_⟩ | refine ⟨_, rfl, ?_⟩ | refine ⟨_, _, rfl, rfl, ?_⟩ | refine ⟨⟨_, rfl⟩, ?_⟩))
local macro_rules
  | `(tactic| tm_at $s:str) => do
    let id (x : String) := Lean.mkIdent (Lean.Name.mkSimple x)
    match s.getString.splitOn " " with
    | ["rd"] => `(tactic| walk_at "rd")
    | ["sz"] => `(tactic| first | exact sz (by decide) | exact szl (by decide) | exact sz (by show _ ≤ 100000; decide) | ((first | refine sz ?_ | refine szl ?_); (try simp only [List.length_map, List.length_append, List.length_cons, List.length_nil, List.length_take, List.length_drop]); omega) | fail "sz: no bound")
    | ["gn", p, h] => `(tactic| (generalize hu : upd _ $(id p) _ = $(id ("H" ++ p)); obtain ⟨$(id ("s" ++ p)), $(id h)⟩ := Go.al $(id ("n" ++ p)) hu; clear hu))
    | ["al", p] => `(tactic| (refine ⟨by tm_at "sz", fun $(id p) $(id ("n" ++ p)) => ?_⟩; generalize hu : upd _ $(id p) _ = $(id ("H" ++ p)); obtain ⟨$(id ("s" ++ p)), $(id ("h" ++ p))⟩ := Go.al $(id ("n" ++ p)) hu; clear hu; tm_at "rd"))
    | ["al0", p] => `(tactic| (refine ⟨by tm_at "sz", fun $(id p) $(id ("n" ++ p)) => ?_⟩; generalize hu : upd _ $(id p) _ = $(id ("H" ++ p)); obtain ⟨$(id ("s" ++ p)), $(id ("h" ++ p))⟩ := Go.al $(id ("n" ++ p)) hu; clear hu; tm_at "rd"))
    | ["new", p] => `(tactic| (refine fun $(id p) $(id ("n" ++ p)) => ?_; generalize hu : upd _ $(id p) _ = $(id ("H" ++ p)); obtain ⟨$(id ("s" ++ p)), $(id ("h" ++ p))⟩ := Go.al $(id ("n" ++ p)) hu; clear hu; tm_at "rd"))
    | ["new0", p] => `(tactic| (refine fun $(id p) $(id ("n" ++ p)) => ?_; generalize hu : upd _ $(id p) _ = $(id ("H" ++ p)); obtain ⟨$(id ("s" ++ p)), $(id ("h" ++ p))⟩ := Go.al $(id ("n" ++ p)) hu; clear hu; tm_at "rd"))
    | ["up"] => `(tactic| first
        | assumption | exact sq (by assumption) | exact sqt (by assumption) | exact PlT.sq (by assumption)
        | (refine' Bx.Same.tup (by assumption) ?hh; (case hh => tm_at "up")) | (refine' Same.seq (by assumption) ?hh; (case hh => tm_at "up")) | (refine' Go.get (by assumption) ?hh; (case hh => tm_at "up")) | (refine' dpAll_same (by assumption) ?hh; (case hh => tm_at "up")) | (refine' dp_same (by assumption) ?hh; (case hh => tm_at "up")) | (refine' PlT.same (by assumption) ?hh; (case hh => tm_at "up")) | (refine' Go.srcS (by assumption) ?hh; (case hh => tm_at "up"))
        | (refine' Go.tupB (s := _) (by assumption) (by assumption) ?hh; (case hh => tm_at "up")) | (refine' Go.dkB (s := _) (by assumption) (by assumption) ?hh; (case hh => tm_at "up")) | (refine' Go.insB (s := _) (by assumption) (by assumption) ?hh; (case hh => tm_at "up")) | (refine' Go.pltB (s := _) (by assumption) (by assumption) ?hh; (case hh => tm_at "up"))
        | (refine' Go.getB (by assumption) (by first | assumption | exact Ne.symm (by assumption)) ?hh; (case hh => tm_at "up"))
        | (refine' sq ?hh; (case hh => tm_at "raw")) | (refine' sqt ?hh; (case hh => tm_at "raw")) | (refine' PlT.sq ?hh; (case hh => tm_at "raw")) | fail "up: no fact")
    | ["raw"] => `(tactic| first
        | assumption | (refine' Go.get (by assumption) ?hh; (case hh => tm_at "raw")) | (refine' PlT.same (by assumption) ?hh; (case hh => tm_at "raw")) | (refine' Go.pltB (s := _) (by assumption) (by assumption) ?hh; (case hh => tm_at "raw")) | (refine' Go.getB (by assumption) (by first | assumption | exact Ne.symm (by assumption)) ?hh; (case hh => tm_at "raw")) | fail "raw: no fact")
    | ["sq"] => `(tactic| first | exact .inl (by tm_at "up") | exact .inr (by tm_at "up") | fail "sq: no fact")
    | ["ix", j] => `(tactic| (refine ⟨_, _, _, _, rfl, rfl, by tm_at "up", by exact atI_nat (j := $(Lean.Syntax.mkNumLit j)) rfl, ?_⟩; tm_at "rd"))
    | ["ixh", h] => `(tactic| (refine ⟨_, _, _, _, rfl, rfl, by tm_at "up", by first | exact Go.at_mapV $(id h) | exact Go.at_mapZ $(id h) | exact atI_nat $(id h) | exact Go.at_nat0 $(id h), ?_⟩; tm_at "rd"))
    | ["len"] => `(tactic| (refine ⟨_, _, rfl, by tm_at "sq", ?_⟩; (try rw [List.length_map]); tm_at "rd"))
    | ["tp", p] => `(tactic| (refine ⟨_, _, rfl, .inl ⟨by tm_at "up", fun $(id p) $(id ("n" ++ p)) => ?_⟩⟩; generalize hu : upd _ $(id p) _ = $(id ("H" ++ p)); obtain ⟨$(id ("s" ++ p)), $(id ("h" ++ p))⟩ := Go.al $(id ("n" ++ p)) hu; clear hu; tm_at "rd"))
    | ["tp0", p] => `(tactic| (refine ⟨_, _, rfl, .inl ⟨by tm_at "up", fun $(id p) $(id ("n" ++ p)) => ?_⟩⟩; generalize hu : upd _ $(id p) _ = $(id ("H" ++ p)); obtain ⟨$(id ("s" ++ p)), $(id ("h" ++ p))⟩ := Go.al $(id ("n" ++ p)) hu; clear hu; tm_at "rd"))
    | ["ls", p] => `(tactic| (refine ⟨_, _, rfl, by tm_at "sq", fun $(id p) $(id ("n" ++ p)) => ?_⟩; generalize hu : upd _ $(id p) _ = $(id ("H" ++ p)); obtain ⟨$(id ("s" ++ p)), $(id ("h" ++ p))⟩ := Go.al $(id ("n" ++ p)) hu; clear hu; tm_at "rd"))
    | ["ls0", p] => `(tactic| (refine ⟨_, _, rfl, by tm_at "sq", fun $(id p) $(id ("n" ++ p)) => ?_⟩; generalize hu : upd _ $(id p) _ = $(id ("H" ++ p)); obtain ⟨$(id ("s" ++ p)), $(id ("h" ++ p))⟩ := Go.al $(id ("n" ++ p)) hu; clear hu; tm_at "rd"))
    | ["tf", p] => `(tactic| (refine ⟨_, _, rfl, by tm_at "up", fun $(id p) $(id ("o" ++ p)) $(id ("n" ++ p)) $(id ("d" ++ p)) => ?_⟩; generalize hu : upd _ $(id p) _ = $(id ("H" ++ p)); obtain ⟨$(id ("s" ++ p)), $(id ("h" ++ p))⟩ := Go.alF $(id ("n" ++ p)) $(id ("d" ++ p)) hu; clear hu; tm_at "rd"))
    | ["alF", p] => `(tactic| (refine ⟨by tm_at "sz", fun $(id p) $(id ("o" ++ p)) $(id ("n" ++ p)) $(id ("d" ++ p)) => ?_⟩; generalize hu : upd _ $(id p) _ = $(id ("H" ++ p)); obtain ⟨$(id ("s" ++ p)), $(id ("h" ++ p))⟩ := Go.alF $(id ("n" ++ p)) $(id ("d" ++ p)) hu; clear hu; tm_at "rd"))
    | ["bare", k] => `(tactic| (refine fun $(id k) $(id ("d" ++ k)) $(id ("n" ++ k)) $(id ("nd" ++ k)) $(id ("ne" ++ k)) => ?_; generalize hu : upd (upd _ $(id ("d" ++ k)) _) $(id k) _ = $(id ("H" ++ k)); obtain ⟨$(id ("s" ++ k)), $(id ("h" ++ k))⟩ := Go.bare $(id ("n" ++ k)) $(id ("nd" ++ k)) $(id ("ne" ++ k)) hu; clear hu; walk_at "rd"))
    | ["me"] => `(tactic| (refine ⟨_, _, _, rfl, by tm_at "up", rfl, ?_⟩; walk_at "rd"))
    | ["star"] => `(tactic| ((first | refine ⟨_, _, rfl, .inl (by tm_at "up"), ?_⟩ | refine ⟨_, _, rfl, .inr (by tm_at "up"), ?_⟩ | fail "star"); walk_at "rd"))
    | ["ap0"] => `(tactic| (refine ⟨.inl ⟨rfl, _, by tm_at "up"⟩, ?_⟩; tm_at "rd"))
    | ["ap"] => `(tactic| refine ⟨_, _, _, rfl, rfl, by tm_at "up", by tm_at "sz", ?_⟩)
    | ["un", n] => match n with
      | "2" => `(tactic| (refine ⟨_, _, rfl, by tm_at "up", rfl, _, _, rfl, _, _, rfl, rfl, ?_⟩; tm_at "rd"))
      | _ => `(tactic| (refine ⟨_, _, rfl, by tm_at "up", rfl, _, _, rfl, _, _, rfl, _, _, rfl, rfl, ?_⟩; tm_at "rd"))
    | _ => Lean.Macro.throwUnsupported
/-! ### a list of pairs; what is spoilt -/
theorem op_mul_str {X : Cx} : OpR X (binaryOp .Mult) (fun x y H Q => ∃ (z : Str) (i : Int), x = .str z ∧ y = .int i ∧ MulOk z i ∧ Q (.str (Txt.mul z i)) H) := by
  intro pins s σ H x y v u Q I rx ry h
  obtain ⟨i, j, rfl, rfl, hz, q⟩ := h
  obtain ⟨t, rfl⟩ := rx
  obtain ⟨t', rfl⟩ := ry
  exact SB.mul hz (fun t' tk => ⟨.str (Txt.mul i j), H, I.tok _, ⟨_, rfl⟩, q⟩)
theorem and_case {t u : TT} {σ : List (Option V)} {H : Hp} {Q : Bool → Hp → Prop} {b1 b2 : Bool} (h1 : ∀ R : Bool → Hp → Prop, R b1 H → t σ H R) (h2 : ∀ R : Bool → Hp → Prop, R b2 H → u σ H R) (q : Q (b1 && b2) H) : tAnd t u σ H Q := by
  cases b1 with
  | false => exact h1 _ q
  | true => exact h1 _ (h2 _ q)
theorem VaAt.but {H H' : Hp} {src : Addr} {v : V} {a : Va} (h : VaAt H v a) (s : SameBut src H H') (hs : Src H src) : VaAt H' v a := by
  cases a with
  | num i => exact h
  | «let» z => exact h
  | frac a b =>
    obtain ⟨p, e, h⟩ := h
    refine ⟨p, e, s p _ (fun e2 => ?_) h⟩
    obtain ⟨n, c, h2⟩ := hs
    rw [e2, h2] at h
    cases h
def PrAt (H : Hp) (u : V) (p : Str × Va) : Prop := ∃ r v, u = .ref r ∧ H r = some (.tup [.str p.1, v]) ∧ VaAt H v p.2
theorem PrAt.but {H H' : Hp} {src : Addr} {u : V} {p : Str × Va} (h : PrAt H u p) (s : SameBut src H H') (hs : Src H src) : PrAt H' u p := by
  obtain ⟨r, v, e, hr, hv⟩ := h
  refine ⟨r, v, e, s r _ (fun e2 => ?_) hr, hv.but s hs⟩
  obtain ⟨n, c, h2⟩ := hs
  rw [e2, h2] at hr
  cases hr
theorem PrAt.same {H H' : Hp} {u : V} {p : Str × Va} (h : PrAt H u p) (s : Same H H') : PrAt H' u p := by
  obtain ⟨r, v, e, hr, hv⟩ := h
  exact ⟨r, v, e, s r _ hr, hv.same s⟩
def PrsAt (H : Hp) (us : List V) (l : Asg) : Prop := Go.All2 (PrAt H) us l
theorem PrsAt.but {H H' : Hp} {src : Addr} {us : List V} {l : Asg} (h : PrsAt H us l) (s : SameBut src H H') (hs : Src H src) : PrsAt H' us l := all2_imp h fun _ _ h => h.but s hs
theorem PrsAt.same {H H' : Hp} {us : List V} {l : Asg} (h : PrsAt H us l) (s : Same H H') : PrsAt H' us l := all2_imp h fun _ _ h => h.same s
theorem all2_last {α : Type} {R : V → α → Prop} : ∀ {us : List V} {l : List α} {p : α}, Go.All2 R us (l ++ [p]) → ∃ us0 u, us = us0 ++ [u] ∧ R u p
  | _, [], p, h => by
    cases h with
    | cons h1 h2 =>
      cases h2
      exact ⟨[], _, rfl, h1⟩
  | _, x :: r, p, h => by
    cases h with
    | cons h1 h2 =>
      obtain ⟨us0, u, e, h3⟩ := all2_last (l := r) h2
      rw [e]
      exact ⟨_ :: us0, u, rfl, h3⟩
theorem cut_take (xs : List V) (k : Nat) : cutV xs none (some (k : Int)) = xs.take k := by
  unfold cutV
  rw [HT.sIx_none, HT.sIx_nat, List.drop_zero, Nat.sub_zero]
  rw [List.take_eq_take_iff]
  omega
theorem cut_drop (xs : List V) (k : Nat) (h : k ≤ xs.length) : cutV xs (some (k : Int)) none = xs.drop k := by
  unfold cutV
  rw [HT.sIx_none, HT.sIx_nat, Nat.min_eq_left h]
  exact List.take_of_length_le (by rw [List.length_drop]; exact Nat.le_refl _)
theorem cut_m1 (xs : List V) : cutV xs none (some (-1)) = xs.dropLast := by
  unfold cutV
  have e : HT.sIx xs.length xs.length (some (-1)) = xs.length - 1 := by
    unfold HT.sIx
    simp
    omega
  rw [e, HT.sIx_none, List.drop_zero, Nat.sub_zero, List.dropLast_eq_take]
def tk (p : Str × Va) : Str := tkn p.1 (txtV p.2)
def texts (x : Str) (n : Nat) (l : Asg) : List Str := grd x n ++ l.map tk
structure GoodL (x : Str) (n : Nat) (l : Asg) : Prop where
  all : ∀ p ∈ l, NameOk p.1 ∧ GoodVa x n p.2
  asc : Asc (l.map (·.1))
  len : l.length ≤ 4
  n8 : n ≤ 8
/-- a token as the law writes them -/
def Tokn (t : Str) : Prop := Ch t ∧ t.length ≤ 64
theorem tok_tkn {nm z : Str} (h : NameOk nm) (h2 : Ch z) (h3 : z.length ≤ 40) : Tokn (tkn nm z) := by
  refine ⟨Ch.app (Ch.app h.ch.1 ch_eq) h2, ?_⟩
  have := h.2.1
  unfold tkn
  rw [app_len, app_len, show (Str.ofString "=").length = 1 by decide +kernel]
  omega
theorem tok_gnd {i : Int} (h : i.natAbs < 10 ^ 31) : Tokn (gnd i) := by
  refine ⟨ch_gnd i, ?_⟩
  have := num_len31 h
  unfold gnd
  rw [app_len, show (Str.ofString "=").length = 1 by decide +kernel]
  omega
theorem tok_nil : Tokn (Str.ofString "") := ⟨fun c hc => (by cases hc), by decide +kernel⟩
theorem GoodL.tok {x : Str} {n : Nat} {l : Asg} (h : GoodL x n l) : ∀ t ∈ texts x n l, Tokn t ∧ t ≠ Str.ofString "" := fun t ht => by
  have ne : ∀ {t : Str} {c : Nat} {r : List Nat}, tl t = c :: r → t ≠ Str.ofString "" := fun {t c r} e h => by
    rw [h] at e
    cases e
  unfold texts grd at ht
  rcases List.mem_append.mp ht with ht | ht
  · split at ht
    · rw [List.mem_singleton.mp ht]
      have := h.n8
      exact ⟨tok_gnd (by omega), ne (tl_gnd _)⟩
    · cases ht
  · obtain ⟨p, hp, rfl⟩ := List.mem_map.mp ht
    obtain ⟨h1, h2⟩ := h.all p hp
    have := good_len h2 h.n8
    refine ⟨tok_tkn h1 (good_ch h2) (by omega), ?_⟩
    obtain ⟨c, r, e, _⟩ := h1.head
    exact ne (c := c) (r := r ++ 61 :: tl (txtV p.2)) (by show tl (tkn _ _) = _; rw [tl_tkn, e]; rfl)
def SpT (x z : Str) : Prop := okAsg x z = false ∧ z.length ≤ 640 ∧ ∀ d ∈ tl z, d < 0x110000
theorem joinL_len : ∀ {l : List (List Nat)} {b : Nat}, (∀ p ∈ l, p.length ≤ b) → (joinL [32] l).length ≤ (b + 1) * l.length
  | [], _, _ => Nat.zero_le _
  | [p], b, h => by
    have := h p List.mem_cons_self
    show p.length ≤ (b + 1) * 1
    omega
  | p :: q :: r, b, h => by
    have h1 := h p List.mem_cons_self
    have h2 := joinL_len (l := q :: r) fun p hp => h p (List.mem_cons_of_mem _ hp)
    show (p ++ ([32] ++ joinL [32] (q :: r))).length ≤ (b + 1) * ((q :: r).length + 1)
    rw [List.length_append, List.length_append, Nat.mul_add]
    show p.length + (1 + _) ≤ _
    omega
theorem joinL_mem : ∀ {l : List (List Nat)} {d : Nat}, d ∈ joinL [32] l → d = 32 ∨ ∃ p ∈ l, d ∈ p
  | [], _, h => by cases h
  | [p], d, h => .inr ⟨p, List.mem_cons_self, h⟩
  | p :: q :: r, d, h => by
    rcases List.mem_append.mp (show d ∈ p ++ ([32] ++ joinL [32] (q :: r)) from h) with h | h
    · exact .inr ⟨p, List.mem_cons_self, h⟩
    · rcases List.mem_append.mp h with h | h
      · exact .inl (List.mem_singleton.mp h)
      · rcases joinL_mem h with h | ⟨p2, h1, h2⟩
        · exact .inl h
        · exact .inr ⟨p2, List.mem_cons_of_mem _ h1, h2⟩
theorem joinT_small {ts : List Str} (h : ∀ t ∈ ts, Tokn t) : (joinT ts).length ≤ 65 * ts.length ∧ ∀ d ∈ tl (joinT ts), d < 0x110000 := by
  rw [len_tl, tl_joinT]
  constructor
  · have := joinL_len (l := ts.map tl) (b := 64) fun p hp => by
      obtain ⟨t, ht, rfl⟩ := List.mem_map.mp hp
      rw [← len_tl]
      exact (h t ht).2
    rwa [List.length_map] at this
  · intro d hd
    rcases joinL_mem hd with h1 | ⟨p, hp, h1⟩
    · omega
    · obtain ⟨t, ht, rfl⟩ := List.mem_map.mp hp
      have := (h t ht).1 d h1
      omega
theorem sp_join {x : Str} {ts : List Str} (h : ∀ t ∈ ts, Tokn t) (hl : ts.length ≤ 9) (ne : ts ≠ [Str.ofString ""]) (hb : okTs x ts = false) : SpT x (joinT ts) := by
  obtain ⟨h1, h2⟩ := joinT_small h
  refine ⟨?_, by omega, h2⟩
  unfold okAsg
  rw [toks_join (fun t ht => (h t ht).1.no) ne]
  exact hb
theorem sp_pre {x : Str} {ts : List Str} (h : ∀ t ∈ ts, Tokn t) (hl : ts.length ≤ 8) : SpT x (Str.ofString " " ++ joinT ts) := by
  obtain ⟨h1, h2⟩ := joinT_small h
  refine ⟨?_, ?_, fun d hd => ?_⟩
  · unfold okAsg
    rw [toks_pre fun t ht => (h t ht).1.no]
    exact ts_empty List.mem_cons_self
  · rw [app_len, show (Str.ofString " ").length = 1 by decide +kernel]
    omega
  · rw [tl_append] at hd
    rcases List.mem_append.mp hd with h | h
    · have : d = 32 := List.mem_singleton.mp h
      omega
    · exact h2 d h
theorem sp_suf {x : Str} {ts : List Str} (h : ∀ t ∈ ts, Tokn t) (hl : ts.length ≤ 8) : SpT x (joinT ts ++ Str.ofString " ") := by
  obtain ⟨h1, h2⟩ := joinT_small h
  refine ⟨?_, ?_, fun d hd => ?_⟩
  · unfold okAsg
    rw [toks_suf fun t ht => (h t ht).1.no]
    exact ts_empty (List.mem_append_right _ (List.mem_singleton.mpr rfl))
  · rw [app_len, show (Str.ofString " ").length = 1 by decide +kernel]
    omega
  · rw [tl_append] at hd
    rcases List.mem_append.mp hd with h | h
    · exact h2 d h
    · have : d = 32 := List.mem_singleton.mp h
      omega
theorem mul_a {n : Nat} (h : n ≤ 8) : MulOk (Str.ofString "a") (n : Int) ∧ okLet (Txt.mul (Str.ofString "a") (n : Int)) = true ∧ (Txt.mul (Str.ofString "a") (n : Int)).length = n := by
  have : n = 0 ∨ n = 1 ∨ n = 2 ∨ n = 3 ∨ n = 4 ∨ n = 5 ∨ n = 6 ∨ n = 7 ∨ n = 8 := by omega
  rcases this with rfl | rfl | rfl | rfl | rfl | rfl | rfl | rfl | rfl
  · exact ⟨⟨by decide, fun h => absurd (by decide) h, fun h => absurd (by decide) h⟩, by decide +kernel, by decide +kernel⟩
  all_goals exact ⟨⟨by decide, fun _ _ => by decide +kernel, fun _ _ => by decide +kernel⟩, by decide +kernel, by decide +kernel⟩
/-- the value with a sign too many -/
theorem plus_bad {x : Str} {n : Nat} {a : Va} {c : Nat} (h : GoodVa x n a) (hc : c = 43 ∨ c = 48) : Bad x n (⟨#[c]⟩ ++ txtV a) := by
  have num : ∀ {i : Int} {z : Str}, tl z = c :: numT i → okNum (tl z) = false := fun {i z} e => by
    rw [e]
    rcases hc with rfl | rfl
    · exact okNum_plus
    · exact okNum_zero (numT_ne i)
  unfold Bad
  cases a with
  | num i =>
    obtain ⟨h1, h2, _⟩ := h
    have e : tl ((⟨#[c]⟩ : Str) ++ txtV (.num i)) = c :: numT i := by
      rw [tl_append]
      rfl
    have := num e
    rw [if_neg h2]
    unfold okVal okSmall
    rw [if_neg h1, if_neg h2, this]
    split
    · rfl
    · split <;> rfl
  | frac a b =>
    obtain ⟨rfl, _⟩ := h
    rw [if_neg (by decide +kernel), okVal_L]
    by_cases hb : b = 1
    · subst hb
      rw [tl_whole]
      have e : tl ((⟨#[c]⟩ : Str) ++ Str.ofString (toString a)) = c :: numT a := by
        rw [tl_append]
        rfl
      have n47 : 47 ∉ tl ((⟨#[c]⟩ : Str) ++ Str.ofString (toString a)) := by
        rw [e]
        intro hm
        rcases List.mem_cons.mp hm with h | h
        · omega
        · exact numT_no (by decide) h
      rw [(frac_no n47).1]
      exact num e
    · have e : tl ((⟨#[c]⟩ : Str) ++ txtV (.frac a b)) = (c :: numT a) ++ 47 :: numT b := by
        rw [tl_append, tl_frac hb]
        rfl
      have n47 : 47 ∉ c :: numT a := fun hm => by
        rcases List.mem_cons.mp hm with h | h
        · omega
        · exact numT_no (by decide) h
      rw [(frac_at e n47).1, num (z := ⟨(c :: numT a).toArray⟩) rfl, Bool.false_and, Bool.false_and]
  | «let» z =>
    obtain ⟨rfl, _⟩ := h
    rw [if_pos rfl]
    exact .inl (not_let (c := c) (by rw [tl_append]; exact List.mem_append_left _ (List.mem_singleton.mpr rfl)) (by omega))
end K06
namespace K06
open PySem PySem.Spec PyProof.Rows L2 Bx TL Dx Sup Er NdefX
local macro_rules | `(tactic| walk_at "rd") => `(tactic| repeat (first | refine ⟨rfl, ?_⟩ | refine ⟨_, rfl, ?_⟩ | refine ⟨_, _, rfl, rfl, ?_⟩ | refine ⟨⟨_, rfl⟩, ?_⟩))
local macro_rules
  | `(tactic| tm_at $s:str) => do
    let id (x : String) := Lean.mkIdent (Lean.Name.mkSimple x)
    match s.getString.splitOn " " with
    | ["rd"] => `(tactic| walk_at "rd")
    | ["sz"] => `(tactic| first | exact sz (by decide) | exact szl (by decide) | exact sz (by show _ ≤ 100000; decide) | ((first | refine sz ?_ | refine szl ?_); (try simp only [List.length_map, List.length_append, List.length_cons, List.length_nil, List.length_take, List.length_drop]); omega) | fail "sz: no bound")
    | ["gn", p, h] => `(tactic| (generalize hu : upd _ $(id p) _ = $(id ("H" ++ p)); obtain ⟨$(id ("s" ++ p)), $(id h)⟩ := Go.al $(id ("n" ++ p)) hu; clear hu))
    | ["al", p] => `(tactic| (refine ⟨by tm_at "sz", fun $(id p) $(id ("n" ++ p)) => ?_⟩; generalize hu : upd _ $(id p) _ = $(id ("H" ++ p)); obtain ⟨$(id ("s" ++ p)), $(id ("h" ++ p))⟩ := Go.al $(id ("n" ++ p)) hu; clear hu; tm_at "rd"))
    | ["al0", p] => `(tactic| (refine ⟨by tm_at "sz", fun $(id p) $(id ("n" ++ p)) => ?_⟩; generalize hu : upd _ $(id p) _ = $(id ("H" ++ p)); obtain ⟨$(id ("s" ++ p)), $(id ("h" ++ p))⟩ := Go.al $(id ("n" ++ p)) hu; clear hu; tm_at "rd"))
    | ["new", p] => `(tactic| (refine fun $(id p) $(id ("n" ++ p)) => ?_; generalize hu : upd _ $(id p) _ = $(id ("H" ++ p)); obtain ⟨$(id ("s" ++ p)), $(id ("h" ++ p))⟩ := Go.al $(id ("n" ++ p)) hu; clear hu; tm_at "rd"))
    | ["new0", p] => `(tactic| (refine fun $(id p) $(id ("n" ++ p)) => ?_; generalize hu : upd _ $(id p) _ = $(id ("H" ++ p)); obtain ⟨$(id ("s" ++ p)), $(id ("h" ++ p))⟩ := Go.al $(id ("n" ++ p)) hu; clear hu; tm_at "rd"))
    | ["up"] => `(tactic| first
        | assumption | exact sq (by assumption) | exact sqt (by assumption) | exact PlT.sq (by assumption)
        | (refine' Bx.Same.tup (by assumption) ?hh; (case hh => tm_at "up")) | (refine' Same.seq (by assumption) ?hh; (case hh => tm_at "up")) | (refine' Go.get (by assumption) ?hh; (case hh => tm_at "up")) | (refine' dpAll_same (by assumption) ?hh; (case hh => tm_at "up")) | (refine' dp_same (by assumption) ?hh; (case hh => tm_at "up")) | (refine' PlT.same (by assumption) ?hh; (case hh => tm_at "up")) | (refine' Go.srcS (by assumption) ?hh; (case hh => tm_at "up"))
        | (refine' Go.tupB (s := _) (by assumption) (by assumption) ?hh; (case hh => tm_at "up")) | (refine' Go.dkB (s := _) (by assumption) (by assumption) ?hh; (case hh => tm_at "up")) | (refine' Go.insB (s := _) (by assumption) (by assumption) ?hh; (case hh => tm_at "up")) | (refine' Go.pltB (s := _) (by assumption) (by assumption) ?hh; (case hh => tm_at "up"))
        | (refine' Go.getB (by assumption) (by first | assumption | exact Ne.symm (by assumption)) ?hh; (case hh => tm_at "up"))
        | (refine' sq ?hh; (case hh => tm_at "raw")) | (refine' sqt ?hh; (case hh => tm_at "raw")) | (refine' PlT.sq ?hh; (case hh => tm_at "raw")) | fail "up: no fact")
    | ["raw"] => `(tactic| first
        | assumption | (refine' Go.get (by assumption) ?hh; (case hh => tm_at "raw")) | (refine' PlT.same (by assumption) ?hh; (case hh => tm_at "raw")) | (refine' Go.pltB (s := _) (by assumption) (by assumption) ?hh; (case hh => tm_at "raw")) | (refine' Go.getB (by assumption) (by first | assumption | exact Ne.symm (by assumption)) ?hh; (case hh => tm_at "raw")) | fail "raw: no fact")
    | ["sq"] => `(tactic| first | exact .inl (by tm_at "up") | exact .inr (by tm_at "up") | fail "sq: no fact")
    | ["ix", j] => `(tactic| (refine ⟨_, _, _, _, rfl, rfl, by tm_at "up", by exact atI_nat (j := $(Lean.Syntax.mkNumLit j)) rfl, ?_⟩; tm_at "rd"))
    | ["ixh", h] => `(tactic| (refine ⟨_, _, _, _, rfl, rfl, by tm_at "up", by first | exact Go.at_mapV $(id h) | exact Go.at_mapZ $(id h) | exact atI_nat $(id h) | exact Go.at_nat0 $(id h), ?_⟩; tm_at "rd"))
    | ["len"] => `(tactic| (refine ⟨_, _, rfl, by tm_at "sq", ?_⟩; (try rw [List.length_map]); tm_at "rd"))
    | ["tp", p] => `(tactic| (refine ⟨_, _, rfl, .inl ⟨by tm_at "up", fun $(id p) $(id ("n" ++ p)) => ?_⟩⟩; generalize hu : upd _ $(id p) _ = $(id ("H" ++ p)); obtain ⟨$(id ("s" ++ p)), $(id ("h" ++ p))⟩ := Go.al $(id ("n" ++ p)) hu; clear hu; tm_at "rd"))
    | ["tp0", p] => `(tactic| (refine ⟨_, _, rfl, .inl ⟨by tm_at "up", fun $(id p) $(id ("n" ++ p)) => ?_⟩⟩; generalize hu : upd _ $(id p) _ = $(id ("H" ++ p)); obtain ⟨$(id ("s" ++ p)), $(id ("h" ++ p))⟩ := Go.al $(id ("n" ++ p)) hu; clear hu; tm_at "rd"))
    | ["ls", p] => `(tactic| (refine ⟨_, _, rfl, by tm_at "sq", fun $(id p) $(id ("n" ++ p)) => ?_⟩; generalize hu : upd _ $(id p) _ = $(id ("H" ++ p)); obtain ⟨$(id ("s" ++ p)), $(id ("h" ++ p))⟩ := Go.al $(id ("n" ++ p)) hu; clear hu; tm_at "rd"))
    | ["ls0", p] => `(tactic| (refine ⟨_, _, rfl, by tm_at "sq", fun $(id p) $(id ("n" ++ p)) => ?_⟩; generalize hu : upd _ $(id p) _ = $(id ("H" ++ p)); obtain ⟨$(id ("s" ++ p)), $(id ("h" ++ p))⟩ := Go.al $(id ("n" ++ p)) hu; clear hu; tm_at "rd"))
    | ["tf", p] => `(tactic| (refine ⟨_, _, rfl, by tm_at "up", fun $(id p) $(id ("o" ++ p)) $(id ("n" ++ p)) $(id ("d" ++ p)) => ?_⟩; generalize hu : upd _ $(id p) _ = $(id ("H" ++ p)); obtain ⟨$(id ("s" ++ p)), $(id ("h" ++ p))⟩ := Go.alF $(id ("n" ++ p)) $(id ("d" ++ p)) hu; clear hu; tm_at "rd"))
    | ["alF", p] => `(tactic| (refine ⟨by tm_at "sz", fun $(id p) $(id ("o" ++ p)) $(id ("n" ++ p)) $(id ("d" ++ p)) => ?_⟩; generalize hu : upd _ $(id p) _ = $(id ("H" ++ p)); obtain ⟨$(id ("s" ++ p)), $(id ("h" ++ p))⟩ := Go.alF $(id ("n" ++ p)) $(id ("d" ++ p)) hu; clear hu; tm_at "rd"))
    | ["bare", k] => `(tactic| (refine fun $(id k) $(id ("d" ++ k)) $(id ("n" ++ k)) $(id ("nd" ++ k)) $(id ("ne" ++ k)) => ?_; generalize hu : upd (upd _ $(id ("d" ++ k)) _) $(id k) _ = $(id ("H" ++ k)); obtain ⟨$(id ("s" ++ k)), $(id ("h" ++ k))⟩ := Go.bare $(id ("n" ++ k)) $(id ("nd" ++ k)) $(id ("ne" ++ k)) hu; clear hu; walk_at "rd"))
    | ["me"] => `(tactic| (refine ⟨_, _, _, rfl, by tm_at "up", rfl, ?_⟩; walk_at "rd"))
    | ["star"] => `(tactic| ((first | refine ⟨_, _, rfl, .inl (by tm_at "up"), ?_⟩ | refine ⟨_, _, rfl, .inr (by tm_at "up"), ?_⟩ | fail "star"); walk_at "rd"))
    | ["ap0"] => `(tactic| (refine ⟨.inl ⟨rfl, _, by tm_at "up"⟩, ?_⟩; tm_at "rd"))
    | ["ap"] => `(tactic| refine ⟨_, _, _, rfl, rfl, by tm_at "up", by tm_at "sz", ?_⟩)
    | ["un", n] => match n with
      | "2" => `(tactic| (refine ⟨_, _, rfl, by tm_at "up", rfl, _, _, rfl, _, _, rfl, rfl, ?_⟩; tm_at "rd"))
      | _ => `(tactic| (refine ⟨_, _, rfl, by tm_at "up", rfl, _, _, rfl, _, _, rfl, _, _, rfl, rfl, ?_⟩; tm_at "rd"))
    | ["eqs", x, t, e] => `(tactic| (by_cases $(id e):ident : $(id x) = Str.ofString $(Lean.Syntax.mkStrLit t) <;> first | rw [decide_eq_true (show V.str $(id x) = V.str (Str.ofString $(Lean.Syntax.mkStrLit t)) by rw [$(id e):ident])] | rw [decide_eq_false (show ¬ V.str $(id x) = V.str (Str.ofString $(Lean.Syntax.mkStrLit t)) from fun h => $(id e) (V.str.inj h))]))
    | ["eqi", x, n, e] => `(tactic| (by_cases $(id e):ident : $(id x) = $(Lean.Syntax.mkNumLit n) <;> first | rw [decide_eq_true (show V.int $(id x) = V.int $(Lean.Syntax.mkNumLit n) by rw [$(id e):ident])] | rw [decide_eq_false (show ¬ V.int $(id x) = V.int $(Lean.Syntax.mkNumLit n) from fun h => $(id e) (V.int.inj h))]))
    | _ => Lean.Macro.throwUnsupported
/-! ### the law's spoilt text -/
theorem bnd {ts : List Str} (h : ∀ t ∈ ts, Tokn t) (hl : ts.length ≤ 20) : (ts.map (·.length)).sum + ts.length * (Str.ofString " ").length ≤ 16777216 := by
  have := sum_le fun t ht => (h t ht).2
  rw [show (Str.ofString " ").length = 1 by decide +kernel]
  omega
theorem str_assoc (a b c : Str) : a ++ b ++ c = a ++ (b ++ c) := TL.ext_tl (by rw [tl_append, tl_append, tl_append, tl_append, List.append_assoc])
theorem texts_w (n : Nat) (l : Asg) : texts wW n l = gnd n :: l.map tk := by
  unfold texts grd
  rw [if_pos rfl]
  rfl
theorem grd_len (x : Str) (n : Nat) : (grd x n).length ≤ 1 := by
  unfold grd
  split
  · exact Nat.le_refl _
  · exact Nat.zero_le _
theorem set_c {D : Ends} {σ : List (Option V)} {H : Hp} {v : V} {i : Nat} {rest : TS} (h : rest D (σ.set i (some v)) H) : tSeq (tAsg (tC v) (gName i)) rest D σ H := h
section
variable {P : Program} {w : World} {K : PySem.W.Frag} {mg : Str → Option Value} {base : Heap}
@[irreducible] def spSpoilt : Sp := fun vs H Q _ => ∃ (src pl tx : Addr) (x : Str) (n : Nat) (l : Asg) (us : List V), vs = [.ref src, .str x, .ref pl, .ref tx, .int (n : Int)] ∧ Src H src ∧ src ≠ pl ∧ src ≠ tx ∧ H pl = some (.lst us) ∧ PrsAt H us l ∧ H tx = some (.lst ((texts x n l).map V.str)) ∧ GoodL x n l ∧
  ∀ z H', SameBut src H H' → Src H' src → SpT x z → Q (.str z) H'
set_option maxHeartbeats 2000000 in
theorem ok_spoilt {f : Addr} {fd : FuncData} (F : Fun K "_law_spoilt" "_law_spoilt" s__law_spoilt f fd) (m_str : mg "str" = none) (m_int : mg "int" = none) (m_len : mg "len" = none) (C__law_draw : CDraw P w K mg base) (C__law_value_text : Cal P w K mg base "_law_value_text" 1 ["_law_word", "_law_value_here"] spVText)
    (C__law_bad_value : Cal P w K mg base "_law_bad_value" 2 ["_law_word", "_law_source_here", "_law_value_here"] spBad) : FnOk P w K mg base CX0 3 f fd ["_law_source_here", "_law_word", "_law_pairs", "_law_texts", "_law_size"] spSpoilt := by
  refine F.ok sc__law_spoilt (fun vs H Q E h => ?_) (fun cdv A outer s H vs Q E hr h => ?_)
  · unfold spSpoilt at h
    obtain ⟨src, pl, tx, x, n, l, us, rfl, _⟩ := h
    rfl
  · unfold spSpoilt at h
    obtain ⟨src, pl, tx, x, n, l, us, rfl, hA, npl, ntx, hpl, hus, htx, hg, q⟩ := h
    refine ⟨_, (pss_cons (ps_set (i := 5) sc__law_spoilt.nd rfl (Or.inl rfl) (pe_cal C__law_draw (hr.mono (by decide)) (pa_cons (pv 0) (pa_cons pe_int pa_nil))))
    (pss_cons (ps_set (i := 6) sc__law_spoilt.nd rfl (Or.inl rfl) pe_str)
    (pss_cons (ps_set (i := 7) sc__law_spoilt.nd rfl (Or.inl rfl) pe_int)
    (pss_cons (ps_if (pt_cmpR op_eq (pv 1) pe_str (nomark _))
      (pss_one (ps_set (i := 7) sc__law_spoilt.nd rfl (Or.inl rfl) (pe_tup (pa_cons pe_int (pa_cons pe_int pa_nil)))))
      pss_nil)
    (pss_cons (ps_if (pt_cmpR op_eq (pv 1) pe_str (nomark _))
      (pss_one (ps_set (i := 7) sc__law_spoilt.nd rfl (Or.inl rfl) (pe_op op_mul_str pe_str (pv 4))))
      pss_nil)
    (pss_cons (ps_set (i := 8) sc__law_spoilt.nd rfl (Or.inl rfl) (pe_slice sl_list (pv 3) po_none (po_some (pe_callTy (T := "int") call_int1 (by rfl) m_int (by decide +kernel) (pa_cons (pe_cmpR op_eq (pv 1) pe_str (nomark _)) pa_nil)))))
    (pss_cons (ps_if (pt_cmpR op_gt (pe_callB call_len_seq (by rfl) m_len PySem.boot_len (pa_cons (pv 2) pa_nil)) pe_int (nomark _))
      (pss_cons (ps_set (i := 6) sc__law_spoilt.nd rfl (Or.inl rfl) (pe_ix ix_tup (pe_ix ix_list (pv 2) (pe_un un_neg pe_int) (fun _ _ => rfl)) pe_int (fun _ _ => rfl)))
    (pss_one (ps_set (i := 7) sc__law_spoilt.nd rfl (Or.inl rfl) (pe_ix ix_tup (pe_ix ix_list (pv 2) (pe_un un_neg pe_int) (fun _ _ => rfl)) pe_int (fun _ _ => rfl)))))
      pss_nil)
    (pss_cons (ps_set (i := 9) sc__law_spoilt.nd rfl (Or.inl rfl) (pe_op op_cat (pv 8) (pe_slice sl_list (pe_slice sl_list (pv 3) (po_some (pe_callB call_len_seq (by rfl) m_len PySem.boot_len (pa_cons (pv 8) pa_nil))) po_none) po_none (po_some (pe_un un_neg pe_int)))))
    (pss_cons (ps_set (i := 10) sc__law_spoilt.nd rfl (Or.inl rfl) (pe_cal C__law_value_text (hr.mono (by decide)) (pa_cons (pv 1) (pa_cons (pv 7) pa_nil))))
    (pss_cons (ps_if (pt_cmpR op_eq (pv 5) pe_int (nomark _))
      (pss_one (ps_ret (pe_op op_add_str pe_str (pe_join pe_str (pv 3)))))
      pss_nil)
    (pss_cons (ps_if (pt_cmpR op_eq (pv 5) pe_int (nomark _))
      (pss_one (ps_ret (pe_op op_add_str (pe_join pe_str (pv 3)) pe_str)))
      pss_nil)
    (pss_cons (ps_if (PW.pt (pw_and (pt_cmpR op_eq (pv 5) pe_int (nomark _)) (pw_and1 (pt_cmpR op_gt (pe_callB call_len_seq (by rfl) m_len PySem.boot_len (pa_cons (pv 3) pa_nil)) pe_int (nomark _)))))
      (pss_cons (ps_set (i := 11) sc__law_spoilt.nd rfl (Or.inl rfl) (pe_cal C__law_draw (hr.mono (by decide)) (pa_cons (pv 0) (pa_cons (pe_callB call_len_seq (by rfl) m_len PySem.boot_len (pa_cons (pv 3) pa_nil)) pa_nil))))
    (pss_one (ps_ret (pe_join pe_str (pe_op op_cat (pe_op op_cat (pe_slice sl_list (pv 3) po_none (po_some (pv 11))) (pe_lst (pa_cons pe_str pa_nil))) (pe_slice sl_list (pv 3) (po_some (pv 11)) po_none))))))
      pss_nil)
    (pss_cons (ps_if (pt_cmpR op_lt (pv 5) pe_int (nomark _))
      (pss_one (ps_ret (pe_join pe_str (pe_op op_cat (pv 9) (pe_lst (pa_cons (pe_op op_add_str (pe_op op_add_str (pe_op op_add_str (pv 6) pe_str) (pe_ix ix_str pe_str (pe_callTy (T := "int") call_int1 (by rfl) m_int (by decide +kernel) (pa_cons (pe_cmpR op_eq (pv 5) pe_int (nomark _)) pa_nil)) (fun _ _ => rfl))) (pv 10)) pa_nil))))))
      pss_nil)
    (pss_cons (ps_if (pt_cmpR op_eq (pv 5) pe_int (nomark _))
      (pss_one (ps_ret (pe_join pe_str (pe_op op_cat (pv 9) (pe_lst (pa_cons (pe_op op_add_str (pe_op op_add_str (pv 6) pe_str) (pv 10)) (pa_cons (pe_op op_add_str (pe_op op_add_str (pv 6) pe_str) (pv 10)) pa_nil)))))))
      pss_nil)
    (pss_cons (ps_if (PW.pt (pw_and (pt_cmpR op_eq (pv 5) pe_int (nomark _)) (pw_and1 (pt_cmpR op_eq (pv 1) pe_str (nomark _)))))
      (pss_one (ps_ret (pe_join pe_str (pe_slice sl_list (pv 3) (po_some pe_int) po_none))))
      pss_nil)
    (pss_cons (ps_if (PW.pt (pw_and (pt_cmpR op_eq (pv 5) pe_int (nomark _)) (pw_and (pt_cmpR op_eq (pv 1) pe_str (nomark _)) (pw_and1 (pt_cmpR op_gt (pe_callB call_len_seq (by rfl) m_len PySem.boot_len (pa_cons (pv 2) pa_nil)) pe_int (nomark _))))))
      (pss_one (ps_ret (pe_join pe_str (pe_op op_cat (pe_lst (pa_cons (pe_op op_add_str pe_str (pe_callTy (T := "str") call_str_int (by rfl) m_str (by decide +kernel) (pa_cons (pe_op op_add (pe_callB call_len_str (by rfl) m_len PySem.boot_len (pa_cons (pv 7) pa_nil)) pe_int) pa_nil))) pa_nil)) (pe_slice sl_list (pv 3) (po_some pe_int) po_none)))))
      pss_nil)
    (pss_cons (ps_if (PW.pt (pw_and (pt_cmpR op_lt (pv 5) pe_int (nomark _)) (pw_and1 (pt_cmpR op_ne (pv 1) pe_str (nomark _)))))
      (pss_one (ps_ret (pe_join pe_str (pe_op op_cat (pe_lst (pa_cons (pe_op op_add_str pe_str (pe_callTy (T := "str") call_str_int (by rfl) m_str (by decide +kernel) (pa_cons (pe_cal C__law_draw (hr.mono (by decide)) (pa_cons (pv 0) (pa_cons pe_int pa_nil))) pa_nil))) pa_nil)) (pv 3)))))
      pss_nil)
    (pss_one (ps_ret (pe_join pe_str (pe_op op_cat (pv 9) (pe_lst (pa_cons (pe_op op_add_str (pe_op op_add_str (pv 6) pe_str) (pe_cal C__law_bad_value (hr.mono (by decide)) (pa_cons (pv 1) (pa_cons (pv 0) (pa_cons (pv 7) pa_nil))))) pa_nil))))))))))))))))))))))), ?_⟩
    have hn8 := hg.n8
    walk_at "rd"
    refine draw_of (lim := 9) hA (by decide) fun ch H1 ch0 ch1 b1 A1 => ?_
    have hpl := b1 _ _ npl.symm hpl
    have htx := b1 _ _ ntx.symm htx
    have hus := hus.but b1 hA
    dsimp only [gName]
    refine set_c ?_
    refine set_c ?_
    -- the value where there is no pair
    refine Go.st_gi (i := 7) (fun v H' => Same H1 H' ∧ (x = wL → VaAt H' v (.frac 1 2)) ∧ (x ≠ wL → v = .int 0)) (fun D' hD' _ => ?_) ?_
    · walk_at "rd"
      tm_at "eqs x lines nL"
      · walk_at "rd"
        tm_at "al p"
        exact hD' _ Hp ⟨sp, fun _ => ⟨p, rfl, hp⟩, fun h => absurd nL h⟩
      · walk_at "rd"
        exact hD' (.int 0) H1 ⟨Same.refl H1, fun h => absurd h nL, fun _ => rfl⟩
    rintro v1 H2 ⟨s2, vL, vN⟩
    refine Go.st_gi (i := 7) (fun v H' => Same H1 H' ∧ ∃ a, VaAt H' v a ∧ GoodVa x n a) (fun D' hD' _ => ?_) ?_
    · walk_at "rd"
      tm_at "eqs x words nW"
      · obtain ⟨m1, m2, m3⟩ := mul_a hn8
        walk_at "rd"
        exact ⟨m1, hD' _ H2 ⟨s2, .let _, rfl, nW, m2, m3⟩⟩
      · walk_at "rd"
        by_cases nL : x = wL
        · exact hD' v1 H2 ⟨s2, .frac 1 2, vL nL, nL, by decide, by decide, by decide, by decide⟩
        · exact hD' v1 H2 ⟨s2, .num 0, vN nL, nL, nW, fun _ => ⟨by decide, by decide⟩, fun _ => ⟨by decide, by decide⟩, by decide⟩
    rintro v2 H3 ⟨s3, a0, hv2, hg2⟩
    clear vL vN s2
    have hpl := s3 _ _ hpl
    have htx := s3 _ _ htx
    have hus := hus.same s3
    have A3 := src_same A1 s3
    have b3 : SameBut src H H3 := SameBut.trans b1 (Bx.Same.but s3)
    unfold tNoPart
    walk_at "rd"
    refine .inr ⟨_, rfl, ?_⟩
    walk_at "rd"
    refine ⟨tx, _, rfl, sq htx, fun fp nfp => ?_⟩
    have ec : cutV ((texts x n l).map V.str) none (some (if (decide (V.str x = V.str (Str.ofString "words"))) = true then 1 else 0)) = (grd x n).map V.str := by
      unfold texts grd
      by_cases e : x = wW
      · rw [decide_eq_true (show V.str x = V.str (Str.ofString "words") by rw [e]), if_pos rfl, if_pos e]
        exact cut_take _ 1
      · rw [decide_eq_false (show ¬ V.str x = V.str (Str.ofString "words") from fun h => e (V.str.inj h)), if_neg e, if_neg (by decide)]
        exact cut_take _ 0
    rw [ec]
    tm_at "gn fp hfp"
    have hpl := sfp _ _ hpl
    have htx := sfp _ _ htx
    have hus := hus.same sfp
    have A4 := src_same A3 sfp
    have b4 : SameBut src H Hfp := SameBut.trans b3 (Bx.Same.but sfp)
    have hv2 := hv2.same sfp
    dsimp only [gName]
    refine Go.st_ss (fun σ' H' => H' = Hfp ∧ ∃ nm v a, σ' = [some (.ref src), some (.str x), some (.ref pl), some (.ref tx), some (.int (n : Int)), some (.int ch), some (.str nm), some v, some (.ref fp), none, none, none] ∧ NameOk nm ∧ VaAt Hfp v a ∧ GoodVa x n a ∧ (l ≠ [] → ∃ A, l = A ++ [(nm, a)])) (fun D' hD' _ => ?_) ?_
    · walk_at "rd"
      refine ⟨pl, us, rfl, .inl (sq hpl), ?_⟩
      walk_at "rd"
      have ul : us.length = l.length := hus.len
      rcases List.eq_nil_or_concat l with el | ⟨A, p, el⟩
      · have e0 : us.length = 0 := by rw [ul, el]; rfl
        rw [e0]
        walk_at "rd"
        exact hD' _ Hfp ⟨rfl, Str.ofString "x", v2, a0, rfl, Plain.name ⟨120, [], by decide +kernel, by decide, (fun d hd => by cases hd), by decide⟩, hv2, hg2, fun h => absurd el h⟩
      · rw [List.concat_eq_append] at el
        subst el
        obtain ⟨us0, u, eu, r, v, rfl, hr, hv⟩ := all2_last hus
        have e1 : decide ((0 : Int) < (us.length : Nat)) = true := by
          rw [ul, List.length_append]
          exact decide_eq_true (by show (0 : Int) < ((A.length + 1 : Nat) : Int); omega)
        have ea : atI us (-1) = some (.ref r) := by
          rw [eu]
          exact atI_last _ _
        rw [e1]
        walk_at "rd"
        refine ⟨_, _, _, _, rfl, rfl, sq hpl, ea, ?_⟩
        walk_at "rd"
        refine ⟨_, _, _, _, rfl, rfl, sqt hr, atI_nat (j := 0) rfl, ?_⟩
        walk_at "rd"
        refine ⟨_, _, _, _, rfl, rfl, sq hpl, ea, ?_⟩
        walk_at "rd"
        refine ⟨_, _, _, _, rfl, rfl, sqt hr, atI_nat (j := 1) rfl, ?_⟩
        obtain ⟨g1, g2⟩ := hg.all p (List.mem_append_right _ (List.mem_singleton.mpr rfl))
        exact hD' _ Hfp ⟨rfl, p.1, v, p.2, rfl, g1, hv, g2, fun _ => ⟨A, rfl⟩⟩
    rintro σ1 H4 ⟨rfl, nm, v, a, rfl, hnm, hv, hgv, hlast⟩
    clear hv2 hg2
    walk_at "rd"
    refine ⟨fp, _, rfl, .inl (sq hfp), ?_⟩
    walk_at "rd"
    have gl := grd_len x n
    have ll := hg.len
    have ec2 : cutV ((texts x n l).map V.str) (some (((grd x n).map V.str).length : Nat)) none = (l.map tk).map V.str := by
      unfold texts
      rw [cut_drop _ _ (by rw [List.length_map, List.length_map, List.length_append]; omega), List.map_append, List.drop_left]
    refine ⟨tx, _, rfl, sq htx, fun gp ngp => ?_⟩
    rw [ec2]
    tm_at "gn gp hgp"
    walk_at "rd"
    refine ⟨gp, _, rfl, sq hgp, fun kp nkp => ?_⟩
    rw [cut_m1]
    tm_at "gn kp hkp"
    refine ⟨fp, kp, _, _, rfl, rfl, skp _ _ (sgp _ _ hfp), hkp, ?_, fun bp nbp0 => ?_⟩
    · have : ((l.map tk).map V.str).dropLast.length ≤ 4 := by
        rw [List.length_dropLast, List.length_map, List.length_map]
        omega
      rw [List.length_map]
      exact sz (by omega)
    have eb : (grd x n).map V.str ++ ((l.map tk).map V.str).dropLast = (grd x n ++ (l.map tk).dropLast).map V.str := by
      rw [List.map_append, List.map_dropLast]
    rw [eb]
    generalize hu : upd _ bp _ = Hbp
    obtain ⟨sbp, hbp⟩ := Go.al nbp0 hu
    clear hu
    have s47 := (sgp.trans skp).trans sbp
    walk_at "rd"
    unfold spVText
    refine ⟨x, v, a, rfl, hv.same s47, hgv.ok hn8, fun H5 s5 => ?_⟩
    have s45 := s47.trans s5
    have hbp := s5 _ _ hbp
    have htx := s45 _ _ htx
    have hpl := s45 _ _ hpl
    have hv := hv.same s45
    have A5 := src_same A4 s45
    have b5 : SameBut src H H5 := SameBut.trans b4 (Bx.Same.but s45)
    have tokT := hg.tok
    have lenT : (texts x n l).length ≤ 5 := by
      unfold texts
      rw [List.length_append, List.length_map]
      omega
    have tokB : ∀ t ∈ grd x n ++ (l.map tk).dropLast, Tokn t := fun t ht => (tokT t (by
      unfold texts
      rcases List.mem_append.mp ht with h | h
      · exact List.mem_append_left _ h
      · exact List.mem_append_right _ (List.dropLast_subset _ h))).1
    have lenB : (grd x n ++ (l.map tk).dropLast).length ≤ 5 := by
      rw [List.length_append, List.length_dropLast, List.length_map]
      omega
    have l1 : (Str.ofString "=").length = 1 := by decide +kernel
    have ls : (Str.ofString " ").length = 1 := by decide +kernel
    have lnm : nm.length ≤ 17 := hnm.2.1
    have lv : (txtV a).length ≤ 36 := good_len hgv hn8
    have nbp : src ≠ bp := fun e => by
      obtain ⟨n0, c0, h0⟩ := A5
      rw [e, hbp] at h0
      have h1 := HO.lst.inj (Option.some.inj h0)
      cases e2 : grd x n ++ (l.map tk).dropLast with
      | nil =>
        rw [e2] at h1
        cases h1
      | cons t r =>
        rw [e2] at h1
        cases h1
    clear hfp hgp hkp s47 skp sgp sbp s5 s45 nkp ngp ec2 eb ec A4 b4 b3 A3 b1 A1 hA s3 sfp nfp
    walk_at "rd"
    tm_at "eqi ch 0 e0"
    · walk_at "rd"
      refine ⟨_, _, texts x n l, rfl, rfl, .inl (sq htx), bnd (fun t h => (tokT t h).1) (by omega), ?_⟩
      have jl := (joinT_small fun t h => (tokT t h).1).1
      unfold joinT at jl
      refine ⟨_, _, rfl, rfl, sz (by rw [ls]; omega), ?_⟩
      have z := q _ H5 b5 A5 (sp_pre (x := x) (ts := texts x n l) (fun t h => (tokT t h).1) (by omega))
      unfold joinT at z
      exact z
    walk_at "rd"
    tm_at "eqi ch 1 e1"
    · walk_at "rd"
      refine ⟨_, _, texts x n l, rfl, rfl, .inl (sq htx), bnd (fun t h => (tokT t h).1) (by omega), ?_⟩
      have jl := (joinT_small fun t h => (tokT t h).1).1
      unfold joinT at jl
      refine ⟨_, _, rfl, rfl, sz (by rw [ls]; omega), ?_⟩
      have z := q _ H5 b5 A5 (sp_suf (x := x) (ts := texts x n l) (fun t h => (tokT t h).1) (by omega))
      unfold joinT at z
      exact z
    have fin : ∀ (A : List Str), (∀ t ∈ A, Tokn t) → A.length ≤ 7 → A ≠ [Str.ofString ""] → okTs x A = false → ∀ H', SameBut src H H' → Src H' src → Q (.str (Txt.join (Str.ofString " ") A)) H' := fun A h1 h2 h3 h4 H' b A' => by
      have z := q _ H' b A' (sp_join (x := x) h1 (by omega) h3 h4)
      unfold joinT at z
      exact z
    have one : ∀ z, Ch z → z.length ≤ 40 → Bad x n z → (∀ t ∈ grd x n ++ (l.map tk).dropLast ++ [nm ++ Str.ofString "=" ++ z], Tokn t) ∧ ∀ H', SameBut src H H' → Src H' src → Q (.str (Txt.join (Str.ofString " ") (grd x n ++ (l.map tk).dropLast ++ [nm ++ Str.ofString "=" ++ z]))) H' := fun z h1 h2 h3 => by
      have hk : ∀ t ∈ grd x n ++ (l.map tk).dropLast ++ [nm ++ Str.ofString "=" ++ z], Tokn t := fun t ht => by
        rcases List.mem_append.mp ht with h | h
        · exact tokB t h
        · rw [List.mem_singleton.mp h]
          exact tok_tkn hnm h1 h2
      refine ⟨hk, fin _ hk (by simp only [List.length_append, List.length_cons, List.length_nil] at lenB ⊢; omega) (fun e => ?_) ?_⟩
      · have e2 : nm ++ Str.ofString "=" ++ z ∈ [Str.ofString ""] := by
          rw [← e]
          exact List.mem_append_right _ (List.mem_singleton.mpr rfl)
        have e3 := congrArg Str.length (List.mem_singleton.mp e2)
        rw [app_len, app_len, l1, show (Str.ofString "").length = 0 by decide +kernel] at e3
        omega
      · rw [List.append_assoc]
        exact ts_bad hnm h3
    have fbad : ∀ z, BadT x n z → (∀ t ∈ grd x n ++ (l.map tk).dropLast ++ [nm ++ Str.ofString "=" ++ z], Tokn t) ∧ ∀ H', SameBut src H H' → Src H' src → Q (.str (Txt.join (Str.ofString " ") (grd x n ++ (l.map tk).dropLast ++ [nm ++ Str.ofString "=" ++ z]))) H' := fun z h => one z h.2.1 h.2.2 h.1
    have fplus : ∀ c : Nat, (c = 43 ∨ c = 48) → (∀ t ∈ grd x n ++ (l.map tk).dropLast ++ [nm ++ Str.ofString "=" ++ (⟨#[c]⟩ : Str) ++ txtV a], Tokn t) ∧ ∀ H', SameBut src H H' → Src H' src → Q (.str (Txt.join (Str.ofString " ") (grd x n ++ (l.map tk).dropLast ++ [nm ++ Str.ofString "=" ++ (⟨#[c]⟩ : Str) ++ txtV a]))) H' := fun c hc => by
      rw [str_assoc (nm ++ Str.ofString "=")]
      refine one _ (Ch.app ?_ (good_ch hgv)) ?_ (plus_bad hgv hc)
      · intro d hd
        have : d = c := List.mem_singleton.mp hd
        omega
      · rw [app_len]
        show 1 + _ ≤ 40
        omega
    have hch : ch = 2 ∨ ch = 3 ∨ ch = 4 ∨ ch = 5 ∨ ch = 6 ∨ ch = 7 ∨ ch = 8 := by omega
    rcases hch with rfl | rfl | rfl | rfl | rfl | rfl | rfl
    · walk_at "rd"
      refine ⟨tx, _, rfl, .inl (sq htx), ?_⟩
      walk_at "rd"
      by_cases hT : texts x n l = []
      · rw [hT]
        walk_at "rd"
        refine ⟨sz (by rw [l1]; omega), ?_⟩
        walk_at "rd"
        refine .inr ⟨_, rfl, ?_⟩
        walk_at "rd"
        refine ⟨_, _, _, rfl, rfl, (by decide), (show atI (Str.ofString "+0").cps.toList _ = some 43 by decide +kernel), ?_⟩
        walk_at "rd"
        refine ⟨sz (by rw [app_len, l1]; show _ + 1 ≤ _; omega), ?_⟩
        walk_at "rd"
        refine ⟨sz (by rw [app_len, app_len, l1]; show _ + 1 + 1 + _ ≤ _; omega), ?_⟩
        walk_at "rd"
        tm_at "al p1"
        refine ⟨bp, p1, _, _, rfl, rfl, sp1 _ _ hbp, hp1, by rw [List.length_map]; exact sz (by simp only [List.length_cons, List.length_nil]; omega), fun p2 np2 => ?_⟩
        tm_at "gn p2 hp2"
        walk_at "rd"
        obtain ⟨f1, f2⟩ := fplus 43 (by decide)
        refine ⟨_, p2, grd x n ++ (l.map tk).dropLast ++ [nm ++ Str.ofString "=" ++ (⟨#[43]⟩ : Str) ++ txtV a], rfl, rfl, .inl (sq (by simp only [hp2, List.map_append, List.map_cons, List.map_nil])), bnd f1 (by simp only [List.length_append, List.length_cons, List.length_nil] at lenB ⊢; omega), ?_⟩
        exact f2 _ (SameBut.trans b5 (Bx.Same.but (sp1.trans sp2))) (src_same A5 (sp1.trans sp2))
      · have hT2 : 0 < (texts x n l).length := List.length_pos_iff.mpr hT
        rw [show decide ((0 : Int) < (((texts x n l).map V.str).length : Nat)) = true from decide_eq_true (by rw [List.length_map]; omega)]
        walk_at "rd"
        refine ⟨tx, _, rfl, .inl (sq htx), ?_⟩
        walk_at "rd"
        refine draw_of (lim := (((texts x n l).map V.str).length : Nat)) A5 ⟨by rw [List.length_map]; omega, by rw [List.length_map]; omega⟩ fun r H6 r0 r1 b6 A6 => ?_
        have htx := b6 _ _ ntx.symm htx
        obtain ⟨k, rfl⟩ := Int.eq_ofNat_of_zero_le r0
        walk_at "rd"
        refine ⟨tx, _, rfl, sq htx, fun p1 np1 => ?_⟩
        rw [cut_take]
        tm_at "gn p1 hp1"
        walk_at "rd"
        tm_at "al p2"
        refine ⟨p1, p2, _, _, rfl, rfl, sp2 _ _ hp1, hp2, sz (by rw [List.length_take, List.length_map]; simp only [List.length_cons, List.length_nil]; omega), fun p3 np3 => ?_⟩
        tm_at "gn p3 hp3"
        walk_at "rd"
        refine ⟨tx, _, rfl, sq (sp3 _ _ (sp2 _ _ (sp1 _ _ htx))), fun p4 np4 => ?_⟩
        rw [cut_drop _ _ (by omega)]
        tm_at "gn p4 hp4"
        refine ⟨p3, p4, _, _, rfl, rfl, sp4 _ _ hp3, hp4, sz (by rw [List.length_append, List.length_take, List.length_drop, List.length_map]; simp only [List.length_cons, List.length_nil]; omega), fun p5 np5 => ?_⟩
        tm_at "gn p5 hp5"
        walk_at "rd"
        have f1 : ∀ t ∈ (texts x n l).take k ++ [Str.ofString ""] ++ (texts x n l).drop k, Tokn t := fun t ht => by
          rcases List.mem_append.mp ht with h | h
          · rcases List.mem_append.mp h with h | h
            · exact (tokT t (List.mem_of_mem_take h)).1
            · rw [List.mem_singleton.mp h]
              exact tok_nil
          · exact (tokT t (List.mem_of_mem_drop h)).1
        have f2 : ((texts x n l).take k ++ [Str.ofString ""] ++ (texts x n l).drop k).length = (texts x n l).length + 1 := by
          rw [List.length_map] at r1
          rw [List.length_append, List.length_append, List.length_take, List.length_drop]
          simp only [List.length_cons, List.length_nil]
          omega
        refine ⟨_, p5, (texts x n l).take k ++ [Str.ofString ""] ++ (texts x n l).drop k, rfl, rfl, .inl (sq (by simp only [hp5, List.map_append, List.map_cons, List.map_nil, List.map_take, List.map_drop])), bnd f1 (by omega), ?_⟩
        have s15 := (((sp1.trans sp2).trans sp3).trans sp4).trans sp5
        exact fin _ f1 (by omega) (fun e => by rw [e] at f2; simp only [List.length_cons, List.length_nil] at f2; omega) (ts_empty (List.mem_append_left _ (List.mem_append_right _ (List.mem_singleton.mpr rfl)))) _ ((SameBut.trans b5 b6).trans (Bx.Same.but s15)) (src_same A6 s15)
    ·
      walk_at "rd"
      refine ⟨sz (by rw [l1]; omega), ?_⟩
      walk_at "rd"
      refine .inr ⟨_, rfl, ?_⟩
      walk_at "rd"
      refine ⟨_, _, _, rfl, rfl, (by decide), (show atI (Str.ofString "+0").cps.toList _ = some 43 by decide +kernel), ?_⟩
      walk_at "rd"
      refine ⟨sz (by rw [app_len, l1]; show _ + 1 ≤ _; omega), ?_⟩
      walk_at "rd"
      refine ⟨sz (by rw [app_len, app_len, l1]; show _ + 1 + 1 + _ ≤ _; omega), ?_⟩
      walk_at "rd"
      tm_at "al p1"
      refine ⟨bp, p1, _, _, rfl, rfl, sp1 _ _ hbp, hp1, by rw [List.length_map]; exact sz (by simp only [List.length_cons, List.length_nil]; omega), fun p2 np2 => ?_⟩
      tm_at "gn p2 hp2"
      walk_at "rd"
      obtain ⟨f1, f2⟩ := fplus 43 (by decide)
      refine ⟨_, p2, grd x n ++ (l.map tk).dropLast ++ [nm ++ Str.ofString "=" ++ (⟨#[43]⟩ : Str) ++ txtV a], rfl, rfl, .inl (sq (by simp only [hp2, List.map_append, List.map_cons, List.map_nil])), bnd f1 (by simp only [List.length_append, List.length_cons, List.length_nil] at lenB ⊢; omega), ?_⟩
      exact f2 _ (SameBut.trans b5 (Bx.Same.but (sp1.trans sp2))) (src_same A5 (sp1.trans sp2))
    ·
      walk_at "rd"
      refine ⟨sz (by rw [l1]; omega), ?_⟩
      walk_at "rd"
      refine .inr ⟨_, rfl, ?_⟩
      walk_at "rd"
      refine ⟨_, _, _, rfl, rfl, (by decide), (show atI (Str.ofString "+0").cps.toList _ = some 48 by decide +kernel), ?_⟩
      walk_at "rd"
      refine ⟨sz (by rw [app_len, l1]; show _ + 1 ≤ _; omega), ?_⟩
      walk_at "rd"
      refine ⟨sz (by rw [app_len, app_len, l1]; show _ + 1 + 1 + _ ≤ _; omega), ?_⟩
      walk_at "rd"
      tm_at "al p1"
      refine ⟨bp, p1, _, _, rfl, rfl, sp1 _ _ hbp, hp1, by rw [List.length_map]; exact sz (by simp only [List.length_cons, List.length_nil]; omega), fun p2 np2 => ?_⟩
      tm_at "gn p2 hp2"
      walk_at "rd"
      obtain ⟨f1, f2⟩ := fplus 48 (by decide)
      refine ⟨_, p2, grd x n ++ (l.map tk).dropLast ++ [nm ++ Str.ofString "=" ++ (⟨#[48]⟩ : Str) ++ txtV a], rfl, rfl, .inl (sq (by simp only [hp2, List.map_append, List.map_cons, List.map_nil])), bnd f1 (by simp only [List.length_append, List.length_cons, List.length_nil] at lenB ⊢; omega), ?_⟩
      exact f2 _ (SameBut.trans b5 (Bx.Same.but (sp1.trans sp2))) (src_same A5 (sp1.trans sp2))
    · walk_at "rd"
      refine ⟨sz (by rw [l1]; omega), ?_⟩
      walk_at "rd"
      refine ⟨sz (by rw [app_len, l1]; omega), ?_⟩
      walk_at "rd"
      refine ⟨sz (by rw [l1]; omega), ?_⟩
      walk_at "rd"
      refine ⟨sz (by rw [app_len, l1]; omega), ?_⟩
      walk_at "rd"
      tm_at "al p1"
      refine ⟨bp, p1, _, _, rfl, rfl, sp1 _ _ hbp, hp1, by rw [List.length_map]; exact sz (by simp only [List.length_cons, List.length_nil]; omega), fun p2 np2 => ?_⟩
      tm_at "gn p2 hp2"
      walk_at "rd"
      have tt : Tokn (nm ++ Str.ofString "=" ++ txtV a) := tok_tkn hnm (good_ch hgv) (by omega)
      have f1 : ∀ t ∈ grd x n ++ (l.map tk).dropLast ++ [nm ++ Str.ofString "=" ++ txtV a, nm ++ Str.ofString "=" ++ txtV a], Tokn t := fun t ht => by
        rcases List.mem_append.mp ht with h | h
        · exact tokB t h
        · simp only [List.mem_cons, List.not_mem_nil, or_false, or_self] at h
          rw [h]
          exact tt
      have f2 : (grd x n ++ (l.map tk).dropLast ++ [nm ++ Str.ofString "=" ++ txtV a, nm ++ Str.ofString "=" ++ txtV a]).length = (grd x n ++ (l.map tk).dropLast).length + 2 := by
        rw [List.length_append]
        rfl
      refine ⟨_, p2, grd x n ++ (l.map tk).dropLast ++ [nm ++ Str.ofString "=" ++ txtV a, nm ++ Str.ofString "=" ++ txtV a], rfl, rfl, .inl (sq (by simp only [hp2, List.map_append, List.map_cons, List.map_nil])), bnd f1 (by omega), ?_⟩
      exact fin _ f1 (by omega) (fun e => by rw [e] at f2; simp only [List.length_cons, List.length_nil] at f2; omega) (by rw [List.append_assoc]; exact ts_twice) _ (SameBut.trans b5 (Bx.Same.but (sp1.trans sp2))) (src_same A5 (sp1.trans sp2))
    · walk_at "rd"
      tm_at "eqs x words nW"
      · subst nW
        walk_at "rd"
        refine ⟨tx, _, rfl, sq htx, fun p1 np1 => ?_⟩
        have ec3 : cutV ((texts wW n l).map V.str) (some ((1 : Nat) : Int)) none = (l.map tk).map V.str := by
          rw [texts_w, cut_drop _ _ (by simp only [List.map_cons, List.length_cons]; omega)]
          rfl
        rw [show cutV ((texts wW n l).map V.str) (some 1) none = (l.map tk).map V.str from ec3]
        tm_at "gn p1 hp1"
        walk_at "rd"
        have f1 : ∀ t ∈ l.map tk, Tokn t ∧ t ≠ Str.ofString "" := fun t ht => tokT t (by rw [texts_w]; exact List.mem_cons_of_mem _ ht)
        refine ⟨_, p1, l.map tk, rfl, rfl, .inl (sq hp1), bnd (fun t h => (f1 t h).1) (by rw [List.length_map]; omega), ?_⟩
        refine fin _ (fun t h => (f1 t h).1) (by rw [List.length_map]; omega) (fun e => (f1 (Str.ofString "") (by rw [e]; exact List.mem_singleton.mpr rfl)).2 rfl) ?_ _ (SameBut.trans b5 (Bx.Same.but sp1)) (src_same A5 sp1)
        have := ts_none (l := l.map fun p => (p.1, txtV p.2)) (fun p hp => by
          obtain ⟨p2, h2, rfl⟩ := List.mem_map.mp hp
          exact (hg.all p2 h2).1)
        rw [List.map_map] at this
        exact this
      · walk_at "rd"
        tm_at "eqs x words nW2"
        · exact absurd nW2 nW
        walk_at "rd"
        refine draw_of (lim := 4) A5 (by decide) fun r H6 r0 r1 b6 A6 => ?_
        have htx := b6 _ _ ntx.symm htx
        walk_at "rd"
        refine ⟨log31 (by omega), ?_⟩
        walk_at "rd"
        have ln := num_len31 (i := r) (by omega)
        refine ⟨sz (by rw [l1]; omega), ?_⟩
        walk_at "rd"
        tm_at "al p1"
        refine ⟨p1, tx, _, _, rfl, rfl, hp1, sp1 _ _ htx, by rw [List.length_map]; exact sz (by simp only [List.length_cons, List.length_nil]; omega), fun p2 np2 => ?_⟩
        tm_at "gn p2 hp2"
        walk_at "rd"
        have f1 : ∀ t ∈ gnd r :: texts x n l, Tokn t := fun t ht => by
          rcases List.mem_cons.mp ht with rfl | h
          · exact tok_gnd (by omega)
          · exact (tokT t h).1
        refine ⟨_, p2, gnd r :: texts x n l, rfl, rfl, .inl (sq (by rw [hp2]; rfl)), bnd f1 (by rw [List.length_cons]; omega), ?_⟩
        have z := q _ _ ((SameBut.trans b5 b6).trans (Bx.Same.but (sp1.trans sp2))) (src_same A6 (sp1.trans sp2)) (sp_join (x := x) f1 (by rw [List.length_cons]; omega) (fun e => absurd (congrArg (fun z => (z.map tl).head?) e) (by simp only [List.map_cons, List.head?_cons, tl_gnd]; exact fun h => nomatch (Option.some.inj h))) (ts_ground nW))
        unfold joinT at z
        exact z
    · walk_at "rd"
      tm_at "eqs x words nW"
      · subst nW
        walk_at "rd"
        refine ⟨pl, us, rfl, .inl (sq hpl), ?_⟩
        walk_at "rd"
        have ul : us.length = l.length := hus.len
        by_cases hl0 : l = []
        · rw [show decide ((0 : Int) < (us.length : Nat)) = false from decide_eq_false (by rw [ul, hl0]; decide)]
          walk_at "rd"
          walk_at "rd"
          refine ⟨sz (by rw [l1]; omega), ?_⟩
          walk_at "rd"
          unfold spBad
          refine ⟨wW, src, v, n, a, rfl, A5, hv, hgv, hn8, fun z H6 b6 A6 hz => ?_⟩
          have lz := hz.2.2
          have hbp := b6 _ _ nbp.symm hbp
          walk_at "rd"
          refine ⟨sz (by rw [app_len, l1]; omega), ?_⟩
          walk_at "rd"
          tm_at "al p1"
          refine ⟨bp, p1, _, _, rfl, rfl, sp1 _ _ hbp, hp1, by rw [List.length_map]; exact sz (by simp only [List.length_cons, List.length_nil]; omega), fun p2 np2 => ?_⟩
          tm_at "gn p2 hp2"
          walk_at "rd"
          obtain ⟨f1, f2⟩ := fbad z hz
          refine ⟨_, p2, grd (Str.ofString "words") n ++ (l.map tk).dropLast ++ [nm ++ Str.ofString "=" ++ z], rfl, rfl, .inl (sq (by simp only [hp2, List.map_append, List.map_cons, List.map_nil])), bnd f1 (by simp only [List.length_append, List.length_cons, List.length_nil] at lenB ⊢; omega), ?_⟩
          exact f2 _ ((SameBut.trans b5 b6).trans (Bx.Same.but (sp1.trans sp2))) (src_same A6 (sp1.trans sp2))
        · have hl1 : 0 < l.length := List.length_pos_iff.mpr hl0
          rw [show decide ((0 : Int) < (us.length : Nat)) = true from decide_eq_true (by rw [ul]; omega)]
          obtain ⟨A, eA⟩ := hlast hl0
          cases a with
          | num i => exact absurd rfl hgv.2.1
          | frac a b => exact absurd hgv.1 (by decide +kernel)
          | «let» z =>
            obtain rfl := hv
            have hzl : z.length = n := hgv.2.2
            walk_at "rd"
            refine ⟨sz (by omega), ?_⟩
            walk_at "rd"
            refine ⟨log31 (by omega), ?_⟩
            walk_at "rd"
            have ln := num_len31 (i := (z.length : Int) + 1) (by omega)
            refine ⟨sz (by rw [l1]; omega), ?_⟩
            walk_at "rd"
            tm_at "al p1"
            refine ⟨tx, _, rfl, sq (sp1 _ _ htx), fun p2 np2 => ?_⟩
            have ec3 : cutV ((texts wW n l).map V.str) (some ((1 : Nat) : Int)) none = (l.map tk).map V.str := by
              rw [texts_w, cut_drop _ _ (by simp only [List.map_cons, List.length_cons]; omega)]
              rfl
            rw [show cutV ((texts wW n l).map V.str) (some 1) none = (l.map tk).map V.str from ec3]
            tm_at "gn p2 hp2"
            refine ⟨p1, p2, _, _, rfl, rfl, sp2 _ _ hp1, hp2, by rw [List.length_map, List.length_map]; exact sz (by simp only [List.length_cons, List.length_nil]; omega), fun p3 np3 => ?_⟩
            tm_at "gn p3 hp3"
            walk_at "rd"
            have f1 : ∀ t ∈ gnd ((z.length : Int) + 1) :: l.map tk, Tokn t := fun t ht => by
              rcases List.mem_cons.mp ht with rfl | h
              · exact tok_gnd (by omega)
              · exact (tokT t (by rw [texts_w]; exact List.mem_cons_of_mem _ h)).1
            refine ⟨_, p3, gnd ((z.length : Int) + 1) :: l.map tk, rfl, rfl, .inl (sq (by rw [hp3]; rfl)), bnd f1 (by rw [List.length_cons, List.length_map]; omega), ?_⟩
            have s13 := (sp1.trans sp2).trans sp3
            refine fin _ f1 (by rw [List.length_cons, List.length_map]; omega) (fun e => absurd (congrArg List.length e) (by rw [List.length_cons, List.length_map]; simp only [List.length_cons, List.length_nil]; omega)) ?_ _ (SameBut.trans b5 (Bx.Same.but s13)) (src_same A5 s13)
            rw [hzl]
            refine ts_great hnm (z := z) ?_ hzl
            rw [eA, List.map_append]
            exact List.mem_append_right _ (List.mem_singleton.mpr rfl)
      · walk_at "rd"
        tm_at "eqs x words nW2"
        · exact absurd nW2 nW
        walk_at "rd"
        refine draw_of (lim := 4) A5 (by decide) fun r H6 r0 r1 b6 A6 => ?_
        have htx := b6 _ _ ntx.symm htx
        walk_at "rd"
        refine ⟨log31 (by omega), ?_⟩
        walk_at "rd"
        have ln := num_len31 (i := r) (by omega)
        refine ⟨sz (by rw [l1]; omega), ?_⟩
        walk_at "rd"
        tm_at "al p1"
        refine ⟨p1, tx, _, _, rfl, rfl, hp1, sp1 _ _ htx, by rw [List.length_map]; exact sz (by simp only [List.length_cons, List.length_nil]; omega), fun p2 np2 => ?_⟩
        tm_at "gn p2 hp2"
        walk_at "rd"
        have f1 : ∀ t ∈ gnd r :: texts x n l, Tokn t := fun t ht => by
          rcases List.mem_cons.mp ht with rfl | h
          · exact tok_gnd (by omega)
          · exact (tokT t h).1
        refine ⟨_, p2, gnd r :: texts x n l, rfl, rfl, .inl (sq (by rw [hp2]; rfl)), bnd f1 (by rw [List.length_cons]; omega), ?_⟩
        have z := q _ _ ((SameBut.trans b5 b6).trans (Bx.Same.but (sp1.trans sp2))) (src_same A6 (sp1.trans sp2)) (sp_join (x := x) f1 (by rw [List.length_cons]; omega) (fun e => absurd (congrArg (fun z => (z.map tl).head?) e) (by simp only [List.map_cons, List.head?_cons, tl_gnd]; exact fun h => nomatch (Option.some.inj h))) (ts_ground nW))
        unfold joinT at z
        exact z
    ·
      walk_at "rd"
      refine ⟨sz (by rw [l1]; omega), ?_⟩
      walk_at "rd"
      unfold spBad
      refine ⟨x, src, v, n, a, rfl, A5, hv, hgv, hn8, fun z H6 b6 A6 hz => ?_⟩
      have lz := hz.2.2
      have hbp := b6 _ _ nbp.symm hbp
      walk_at "rd"
      refine ⟨sz (by rw [app_len, l1]; omega), ?_⟩
      walk_at "rd"
      tm_at "al p1"
      refine ⟨bp, p1, _, _, rfl, rfl, sp1 _ _ hbp, hp1, by rw [List.length_map]; exact sz (by simp only [List.length_cons, List.length_nil]; omega), fun p2 np2 => ?_⟩
      tm_at "gn p2 hp2"
      walk_at "rd"
      obtain ⟨f1, f2⟩ := fbad z hz
      refine ⟨_, p2, grd x n ++ (l.map tk).dropLast ++ [nm ++ Str.ofString "=" ++ z], rfl, rfl, .inl (sq (by simp only [hp2, List.map_append, List.map_cons, List.map_nil])), bnd f1 (by simp only [List.length_append, List.length_cons, List.length_nil] at lenB ⊢; omega), ?_⟩
      exact f2 _ ((SameBut.trans b5 b6).trans (Bx.Same.but (sp1.trans sp2))) (src_same A6 (sp1.trans sp2))
end
end K06
namespace K06
open PySem PySem.Spec PyProof.Rows L2 Bx TL Dx Sup Er NdefX Zx
local macro_rules | `(tactic| walk_at "rd") => `(tactic| repeat (first | refine ⟨rfl, ?_⟩ | refine ⟨_, rfl, ?_⟩ | refine ⟨_, _, rfl, rfl, ?_⟩ | refine ⟨⟨_, rfl⟩, ?_⟩))
local macro_rules
  | `(tactic| tm_at $s:str) => do
    let id (x : String) := Lean.mkIdent (Lean.Name.mkSimple x)
    match s.getString.splitOn " " with
    | ["rd"] => `(tactic| walk_at "rd")
    | ["sz"] => `(tactic| first | exact sz (by decide) | exact szl (by decide) | exact sz (by show _ ≤ 100000; decide) | ((first | refine sz ?_ | refine szl ?_); (try simp only [List.length_map, List.length_append, List.length_cons, List.length_nil, List.length_take, List.length_drop]); omega) | fail "sz: no bound")
    | ["gn", p, h] => `(tactic| (generalize hu : upd _ $(id p) _ = $(id ("H" ++ p)); obtain ⟨$(id ("s" ++ p)), $(id h)⟩ := Go.al $(id ("n" ++ p)) hu; clear hu))
    | ["al", p] => `(tactic| (refine ⟨by tm_at "sz", fun $(id p) $(id ("n" ++ p)) => ?_⟩; generalize hu : upd _ $(id p) _ = $(id ("H" ++ p)); obtain ⟨$(id ("s" ++ p)), $(id ("h" ++ p))⟩ := Go.al $(id ("n" ++ p)) hu; clear hu; tm_at "rd"))
    | ["al0", p] => `(tactic| (refine ⟨by tm_at "sz", fun $(id p) $(id ("n" ++ p)) => ?_⟩; generalize hu : upd _ $(id p) _ = $(id ("H" ++ p)); obtain ⟨$(id ("s" ++ p)), $(id ("h" ++ p))⟩ := Go.al $(id ("n" ++ p)) hu; clear hu; tm_at "rd"))
    | ["new", p] => `(tactic| (refine fun $(id p) $(id ("n" ++ p)) => ?_; generalize hu : upd _ $(id p) _ = $(id ("H" ++ p)); obtain ⟨$(id ("s" ++ p)), $(id ("h" ++ p))⟩ := Go.al $(id ("n" ++ p)) hu; clear hu; tm_at "rd"))
    | ["new0", p] => `(tactic| (refine fun $(id p) $(id ("n" ++ p)) => ?_; generalize hu : upd _ $(id p) _ = $(id ("H" ++ p)); obtain ⟨$(id ("s" ++ p)), $(id ("h" ++ p))⟩ := Go.al $(id ("n" ++ p)) hu; clear hu; tm_at "rd"))
    | ["up"] => `(tactic| first
        | assumption | exact sq (by assumption) | exact sqt (by assumption) | exact PlT.sq (by assumption)
        | (refine' Bx.Same.tup (by assumption) ?hh; (case hh => tm_at "up")) | (refine' Same.seq (by assumption) ?hh; (case hh => tm_at "up")) | (refine' Go.get (by assumption) ?hh; (case hh => tm_at "up")) | (refine' dpAll_same (by assumption) ?hh; (case hh => tm_at "up")) | (refine' dp_same (by assumption) ?hh; (case hh => tm_at "up")) | (refine' PlT.same (by assumption) ?hh; (case hh => tm_at "up")) | (refine' Go.srcS (by assumption) ?hh; (case hh => tm_at "up"))
        | (refine' Go.tupB (s := _) (by assumption) (by assumption) ?hh; (case hh => tm_at "up")) | (refine' Go.dkB (s := _) (by assumption) (by assumption) ?hh; (case hh => tm_at "up")) | (refine' Go.insB (s := _) (by assumption) (by assumption) ?hh; (case hh => tm_at "up")) | (refine' Go.pltB (s := _) (by assumption) (by assumption) ?hh; (case hh => tm_at "up"))
        | (refine' Go.getB (by assumption) (by first | assumption | exact Ne.symm (by assumption)) ?hh; (case hh => tm_at "up"))
        | (refine' sq ?hh; (case hh => tm_at "raw")) | (refine' sqt ?hh; (case hh => tm_at "raw")) | (refine' PlT.sq ?hh; (case hh => tm_at "raw")) | fail "up: no fact")
    | ["raw"] => `(tactic| first
        | assumption | (refine' Go.get (by assumption) ?hh; (case hh => tm_at "raw")) | (refine' PlT.same (by assumption) ?hh; (case hh => tm_at "raw")) | (refine' Go.pltB (s := _) (by assumption) (by assumption) ?hh; (case hh => tm_at "raw")) | (refine' Go.getB (by assumption) (by first | assumption | exact Ne.symm (by assumption)) ?hh; (case hh => tm_at "raw")) | fail "raw: no fact")
    | ["sq"] => `(tactic| first | exact .inl (by tm_at "up") | exact .inr (by tm_at "up") | fail "sq: no fact")
    | ["ix", j] => `(tactic| (refine ⟨_, _, _, _, rfl, rfl, by tm_at "up", by exact atI_nat (j := $(Lean.Syntax.mkNumLit j)) rfl, ?_⟩; tm_at "rd"))
    | ["ixh", h] => `(tactic| (refine ⟨_, _, _, _, rfl, rfl, by tm_at "up", by first | exact Go.at_mapV $(id h) | exact Go.at_mapZ $(id h) | exact atI_nat $(id h) | exact Go.at_nat0 $(id h), ?_⟩; tm_at "rd"))
    | ["len"] => `(tactic| (refine ⟨_, _, rfl, by tm_at "sq", ?_⟩; (try rw [List.length_map]); tm_at "rd"))
    | ["tp", p] => `(tactic| (refine ⟨_, _, rfl, .inl ⟨by tm_at "up", fun $(id p) $(id ("n" ++ p)) => ?_⟩⟩; generalize hu : upd _ $(id p) _ = $(id ("H" ++ p)); obtain ⟨$(id ("s" ++ p)), $(id ("h" ++ p))⟩ := Go.al $(id ("n" ++ p)) hu; clear hu; tm_at "rd"))
    | ["tp0", p] => `(tactic| (refine ⟨_, _, rfl, .inl ⟨by tm_at "up", fun $(id p) $(id ("n" ++ p)) => ?_⟩⟩; generalize hu : upd _ $(id p) _ = $(id ("H" ++ p)); obtain ⟨$(id ("s" ++ p)), $(id ("h" ++ p))⟩ := Go.al $(id ("n" ++ p)) hu; clear hu; tm_at "rd"))
    | ["ls", p] => `(tactic| (refine ⟨_, _, rfl, by tm_at "sq", fun $(id p) $(id ("n" ++ p)) => ?_⟩; generalize hu : upd _ $(id p) _ = $(id ("H" ++ p)); obtain ⟨$(id ("s" ++ p)), $(id ("h" ++ p))⟩ := Go.al $(id ("n" ++ p)) hu; clear hu; tm_at "rd"))
    | ["ls0", p] => `(tactic| (refine ⟨_, _, rfl, by tm_at "sq", fun $(id p) $(id ("n" ++ p)) => ?_⟩; generalize hu : upd _ $(id p) _ = $(id ("H" ++ p)); obtain ⟨$(id ("s" ++ p)), $(id ("h" ++ p))⟩ := Go.al $(id ("n" ++ p)) hu; clear hu; tm_at "rd"))
    | ["tf", p] => `(tactic| (refine ⟨_, _, rfl, by tm_at "up", fun $(id p) $(id ("o" ++ p)) $(id ("n" ++ p)) $(id ("d" ++ p)) => ?_⟩; generalize hu : upd _ $(id p) _ = $(id ("H" ++ p)); obtain ⟨$(id ("s" ++ p)), $(id ("h" ++ p))⟩ := Go.alF $(id ("n" ++ p)) $(id ("d" ++ p)) hu; clear hu; tm_at "rd"))
    | ["alF", p] => `(tactic| (refine ⟨by tm_at "sz", fun $(id p) $(id ("o" ++ p)) $(id ("n" ++ p)) $(id ("d" ++ p)) => ?_⟩; generalize hu : upd _ $(id p) _ = $(id ("H" ++ p)); obtain ⟨$(id ("s" ++ p)), $(id ("h" ++ p))⟩ := Go.alF $(id ("n" ++ p)) $(id ("d" ++ p)) hu; clear hu; tm_at "rd"))
    | ["bare", k] => `(tactic| (refine fun $(id k) $(id ("d" ++ k)) $(id ("n" ++ k)) $(id ("nd" ++ k)) $(id ("ne" ++ k)) => ?_; generalize hu : upd (upd _ $(id ("d" ++ k)) _) $(id k) _ = $(id ("H" ++ k)); obtain ⟨$(id ("s" ++ k)), $(id ("h" ++ k))⟩ := Go.bare $(id ("n" ++ k)) $(id ("nd" ++ k)) $(id ("ne" ++ k)) hu; clear hu; walk_at "rd"))
    | ["me"] => `(tactic| (refine ⟨_, _, _, rfl, by tm_at "up", rfl, ?_⟩; walk_at "rd"))
    | ["star"] => `(tactic| ((first | refine ⟨_, _, rfl, .inl (by tm_at "up"), ?_⟩ | refine ⟨_, _, rfl, .inr (by tm_at "up"), ?_⟩ | fail "star"); walk_at "rd"))
    | ["ap0"] => `(tactic| (refine ⟨.inl ⟨rfl, _, by tm_at "up"⟩, ?_⟩; tm_at "rd"))
    | ["ap"] => `(tactic| refine ⟨_, _, _, rfl, rfl, by tm_at "up", by tm_at "sz", ?_⟩)
    | ["un", n] => match n with
      | "2" => `(tactic| (refine ⟨_, _, rfl, by tm_at "up", rfl, _, _, rfl, _, _, rfl, rfl, ?_⟩; tm_at "rd"))
      | _ => `(tactic| (refine ⟨_, _, rfl, by tm_at "up", rfl, _, _, rfl, _, _, rfl, _, _, rfl, rfl, ?_⟩; tm_at "rd"))
    | _ => Lean.Macro.throwUnsupported
/-! ### equal values; reading with a try -/
def eqOk (k : Nat) : Va → Prop
  | .frac _ _ => 1 ≤ k
  | _ => True
section
variable {P : Program} {w : World} {K : PySem.W.Frag} {mg : Str → Option Value} {base : Heap}
def spEq : Nat → Sp
  | 0 => fun _ _ _ _ => False
  | k + 1 => fun vs H Q _ => ∃ (u v : V) (a : Va), vs = [u, v] ∧ VaAt H u a ∧ VaAt H v a ∧ eqOk k a ∧ ∀ H', Same H H' → Q (.bl true) H'
theorem ok_equal {f : Addr} {fd : FuncData} (F : Fun K "_law_equal" "_law_equal" s__law_equal f fd) (m_isinstance : mg "isinstance" = none) (m_tuple : mg "tuple" = none) (m_int : mg "int" = none) (m_bool : mg "bool" = none) (m_str : mg "str" = none) (m_len : mg "len" = none)
    (gS : mg "_law_equal" = some (.ref f)) (kS : PySem.W.keepIn K (.ref f) = true) (bS : Binds K fd ["_law_actual", "_law_expected"] []) : ∀ k : Nat, FnOk P w K mg base CX0 (k + 1) f fd ["_law_actual", "_law_expected"] (spEq k)
  | 0 => F.ok sc__law_equal (fun vs H Q E h => h.elim) (fun cdv A outer s H vs Q E hr h => h.elim)
  | k + 1 => by
    have C__law_equal : Cal P w K mg base "_law_equal" (k + 1) ["_law_actual", "_law_expected"] (spEq k) := ⟨_, _, ok_equal F m_isinstance m_tuple m_int m_bool m_str m_len gS kS bS k, gS, kS, bS⟩
    refine F.ok sc__law_equal (fun vs H Q E h => ?_) (fun cdv A outer s H vs Q E hr h => ?_)
    · obtain ⟨u, v, a, rfl, _⟩ := h
      rfl
    · obtain ⟨u, v, a, rfl, hu1, hv1, ok, q⟩ := h
      refine ⟨_, (pss_cons (ps_if (pt_val (pe_callB (id := "isinstance") call_isi (by rfl) m_isinstance (by decide +kernel) (pa_cons (pv 1) (pa_cons (pe_bltn (v := .ty "tuple") (by rfl) m_tuple (by decide +kernel) rfl) pa_nil))))
      (pss_cons (ps_if (PW.pt (pw_or (pt_not (pt_val (pe_callB (id := "isinstance") call_isi (by rfl) m_isinstance (by decide +kernel) (pa_cons (pv 0) (pa_cons (pe_bltn (v := .ty "tuple") (by rfl) m_tuple (by decide +kernel) rfl) pa_nil))))) (pw_or1 (pt_cmpR op_ne (pe_callB call_len_seq (by rfl) m_len PySem.boot_len (pa_cons (pv 0) pa_nil)) pe_int (nomark _)))))
      (pss_one (ps_ret pe_bl))
      pss_nil)
    (pss_one (ps_ret (pe_and (pe_cal C__law_equal (hr.mono (by omega)) (pa_cons (pe_ix ix_tup (pv 0) pe_int (fun _ _ => rfl)) (pa_cons (pe_ix ix_tup (pv 1) pe_int (fun _ _ => rfl)) pa_nil))) (pe_one (pe_cal C__law_equal (hr.mono (by omega)) (pa_cons (pe_ix ix_tup (pv 0) pe_int (fun _ _ => rfl)) (pa_cons (pe_ix ix_tup (pv 1) pe_int (fun _ _ => rfl)) pa_nil))))))))
      pss_nil)
    (pss_cons (ps_if (pt_val (pe_callB (id := "isinstance") call_isi (by rfl) m_isinstance (by decide +kernel) (pa_cons (pv 1) (pa_cons (pe_bltn (v := .ty "int") (by rfl) m_int (by decide +kernel) rfl) pa_nil))))
      (pss_one (ps_ret (pe_and (pe_callB (id := "isinstance") call_isi (by rfl) m_isinstance (by decide +kernel) (pa_cons (pv 0) (pa_cons (pe_bltn (v := .ty "int") (by rfl) m_int (by decide +kernel) rfl) pa_nil))) (pe_and (pe_not (pe_callB (id := "isinstance") call_isi (by rfl) m_isinstance (by decide +kernel) (pa_cons (pv 0) (pa_cons (pe_bltn (v := .ty "bool") (by rfl) m_bool (by decide +kernel) rfl) pa_nil)))) (pe_one (pe_cmpR op_eq (pv 0) (pv 1) (nomark _)))))))
      pss_nil)
    (pss_one (ps_ret (pe_and (pe_callB (id := "isinstance") call_isi (by rfl) m_isinstance (by decide +kernel) (pa_cons (pv 0) (pa_cons (pe_bltn (v := .ty "str") (by rfl) m_str (by decide +kernel) rfl) pa_nil))) (pe_one (pe_cmpR op_eq (pv 0) (pv 1) (nomark _)))))))), ?_⟩
      walk_at "rd"
      cases a with
      | num i =>
        obtain rfl := hu1
        obtain rfl := hv1
        refine ⟨_, _, _, _, false, rfl, .ty "tuple", .base (.int _), kit_ty (by decide +kernel), ?_⟩
        walk_at "rd"
        refine ⟨_, _, _, _, true, rfl, .ty "int", .base (.int _), kit_ty (by decide +kernel), ?_⟩
        walk_at "rd"
        refine ⟨_, _, _, _, true, rfl, .ty "int", .base (.int _), kit_ty (by decide +kernel), ?_⟩
        walk_at "rd"
        refine ⟨_, _, _, _, false, rfl, .ty "bool", .base (.int _), kit_ty (by decide +kernel), ?_⟩
        walk_at "rd"
        rw [decide_eq_true rfl]
        exact q H (Same.refl H)
      | «let» z =>
        obtain rfl := hu1
        obtain rfl := hv1
        refine ⟨_, _, _, _, false, rfl, .ty "tuple", .base (.str _), kit_ty (by decide +kernel), ?_⟩
        walk_at "rd"
        refine ⟨_, _, _, _, false, rfl, .ty "int", .base (.str _), kit_ty (by decide +kernel), ?_⟩
        walk_at "rd"
        refine ⟨_, _, _, _, true, rfl, .ty "str", .base (.str _), kit_ty (by decide +kernel), ?_⟩
        walk_at "rd"
        rw [decide_eq_true rfl]
        exact q H (Same.refl H)
      | frac i j =>
        obtain ⟨a, rfl, ha⟩ := hu1
        obtain ⟨b, rfl, hb⟩ := hv1
        cases k with
        | zero => exact absurd (show 1 ≤ 0 from ok) (by decide)
        | succ k =>
        refine ⟨_, _, _, _, true, rfl, .ty "tuple", ty_tup (sqt hb), kit_ty (by decide +kernel), ?_⟩
        walk_at "rd"
        refine ⟨_, _, _, _, true, rfl, .ty "tuple", ty_tup (sqt ha), kit_ty (by decide +kernel), ?_⟩
        walk_at "rd"
        refine ⟨a, _, rfl, .inr (sqt ha), ?_⟩
        walk_at "rd"
        tm_at "ix 0"
        tm_at "ix 0"
        refine ⟨_, _, .num i, rfl, rfl, rfl, True.intro, fun H1 s1 => ?_⟩
        walk_at "rd"
        tm_at "ix 1"
        tm_at "ix 1"
        refine ⟨_, _, .num j, rfl, rfl, rfl, True.intro, fun H2 s2 => ?_⟩
        exact q H2 (Same.trans s1 s2)
@[irreducible] def spLRead : Sp := fun vs H Q _ => ∃ (x z : Str) (i : Int), vs = [.str x, .str z, .int i] ∧ z.length ≤ 640 ∧ (∀ d ∈ tl z, d < 0x110000) ∧ i.natAbs.log2 < 1920 ∧
  (okAsg x z = true → ∀ p H', Same H H' → H p = none → DA H' p (asgOf x z) → Q (.ref p) H') ∧ (okAsg x z = false → ∀ r H', Same H H' → H' r = some (.lst [.str (Str.ofString "refused"), .int i]) → Q (.ref r) H')
theorem ok_lread {f C : Addr} {fd : FuncData} (F : Fun K "_law_read" "_law_read" s__law_read f fd) (CN_parse_assignment : Rc.CalN P w K mg base "parse_assignment" "line" 2 8 ["word", "text", "line"] (.int 1) (spParseA C))
    (E_InvalidText : Err P w K mg base "InvalidText" C "line" "line" okI 1) : FnOk P w K mg base CX0 9 f fd ["_law_word", "_law_text", "_law_at"] spLRead := by
  refine F.ok sc__law_read (fun vs H Q E h => ?_) (fun cdv A outer s H vs Q E hr h => ?_)
  · unfold spLRead at h
    obtain ⟨x, z, i, rfl, _⟩ := h
    rfl
  · unfold spLRead at h
    obtain ⟨x, z, i, rfl, hz, hd, hi, q1, q2⟩ := h
    refine ⟨_, (pss_one (ps_try_as (i := 3) rfl rfl sc__law_read.nd rfl rfl ⟨rfl, by decide, .inl E_InvalidText.g⟩ takes0 (fun W pn xe tk po =>
      (pss_cons (ps_if (pt_cmpR op_eq (pv 2) pe_int (nomark _))
      (pss_one (ps_ret (Rc.pe_calN CN_parse_assignment tk (hr.mono (by decide)) (pa_cons (pv 0) (pa_cons (pv 1) pa_nil)))))
      pss_nil)
    (pss_one (ps_ret (Rc.pe_calNK CN_parse_assignment tk (hr.mono (by decide)) (pa_cons (pv 0) (pa_cons (pv 1) pa_nil)) (pk_cons (pv 2) pk_nil))))))
      (fun a oe cls d pn hz hf =>
      (pss_one (ps_ret (pe_lst (pa_cons pe_str (pa_cons (pe_xf E_InvalidText.xf E_InvalidText.no hz hf (pv 3)) pa_nil)))))))), ?_⟩
    walk_at "rd"
    rw [dec_int]
    refine ite2 (fun h1 => ?_) (fun h1 => ?_)
    · have e1 : i = 1 := of_decide_eq_true h1
      walk_at "rd"
      unfold spParseA
      refine ⟨x, z, 1, rfl, hz, hd, by decide, q1, fun hk d H1 s1 hd => ⟨true, E_InvalidText.te, fun _ a na => ?_, fun h => nomatch h⟩⟩
      walk_at "rd"
      refine ⟨d, _, _, rfl, hd, rfl, ?_⟩
      tm_at "al r"
      exact q2 hk r Hr (s1.trans sr) (by rw [e1]; exact hr)
    · walk_at "rd"
      unfold spParseA
      refine ⟨x, z, i, rfl, hz, hd, hi, q1, fun hk d H1 s1 hd => ⟨true, E_InvalidText.te, fun _ a na => ?_, fun h => nomatch h⟩⟩
      walk_at "rd"
      refine ⟨d, _, _, rfl, hd, rfl, ?_⟩
      tm_at "al r"
      exact q2 hk r Hr (s1.trans sr) hr
@[irreducible] def spLReadV : Sp := fun vs H Q _ => ∃ (x z : Str) (i : Int), vs = [.str x, .str z, .int i] ∧ z.length ≤ 640 ∧ (∀ d ∈ tl z, d < 0x110000) ∧ i.natAbs.log2 < 1920 ∧
  (okVal x z = true → ∀ v H', Same H H' → VaAt H' v (valOf x z) → Q v H') ∧ (okVal x z = false → ∀ r H', Same H H' → H' r = some (.lst [.str (Str.ofString "refused"), .int i]) → Q (.ref r) H')
theorem ok_lreadv {f C : Addr} {fd : FuncData} (F : Fun K "_law_read_value" "_law_read_value" s__law_read_value f fd) (CN_parse_value : Rc.CalN P w K mg base "parse_value" "line" 2 5 ["word", "text", "line"] (.int 1) (spValue C))
    (E_InvalidText : Err P w K mg base "InvalidText" C "line" "line" okI 1) : FnOk P w K mg base CX0 6 f fd ["_law_word", "_law_text", "_law_at"] spLReadV := by
  refine F.ok sc__law_read_value (fun vs H Q E h => ?_) (fun cdv A outer s H vs Q E hr h => ?_)
  · unfold spLReadV at h
    obtain ⟨x, z, i, rfl, _⟩ := h
    rfl
  · unfold spLReadV at h
    obtain ⟨x, z, i, rfl, hz, hd, hi, q1, q2⟩ := h
    refine ⟨_, (pss_one (ps_try_as (i := 3) rfl rfl sc__law_read_value.nd rfl rfl ⟨rfl, by decide, .inl E_InvalidText.g⟩ takes0 (fun W pn xe tk po =>
      (pss_cons (ps_if (pt_cmpR op_eq (pv 2) pe_int (nomark _))
      (pss_one (ps_ret (Rc.pe_calN CN_parse_value tk (hr.mono (by decide)) (pa_cons (pv 0) (pa_cons (pv 1) pa_nil)))))
      pss_nil)
    (pss_one (ps_ret (Rc.pe_calNK CN_parse_value tk (hr.mono (by decide)) (pa_cons (pv 0) (pa_cons (pv 1) pa_nil)) (pk_cons (pv 2) pk_nil))))))
      (fun a oe cls d pn hz hf =>
      (pss_one (ps_ret (pe_lst (pa_cons pe_str (pa_cons (pe_xf E_InvalidText.xf E_InvalidText.no hz hf (pv 3)) pa_nil)))))))), ?_⟩
    walk_at "rd"
    rw [dec_int]
    refine ite2 (fun h1 => ?_) (fun h1 => ?_)
    · have e1 : i = 1 := of_decide_eq_true h1
      walk_at "rd"
      unfold spValue
      refine ⟨x, z, 1, rfl, hz, hd, by decide, q1, fun hk d H1 s1 hd => ⟨true, E_InvalidText.te, fun _ a na => ?_, fun h => nomatch h⟩⟩
      walk_at "rd"
      refine ⟨d, _, _, rfl, hd, rfl, ?_⟩
      tm_at "al r"
      exact q2 hk r Hr (s1.trans sr) (by rw [e1]; exact hr)
    · walk_at "rd"
      unfold spValue
      refine ⟨x, z, i, rfl, hz, hd, hi, q1, fun hk d H1 s1 hd => ⟨true, E_InvalidText.te, fun _ a na => ?_, fun h => nomatch h⟩⟩
      walk_at "rd"
      refine ⟨d, _, _, rfl, hd, rfl, ?_⟩
      tm_at "al r"
      exact q2 hk r Hr (s1.trans sr) hr
/-! ### equal dicts -/
theorem DA.at {H : Hp} {a : Addr} {l : Asg} (h : DA H a l) : ∃ us, H a = some (.dK (asK (l.map (·.1)) us)) ∧ Go.All2 (VaAt H) us (l.map (·.2)) ∧ us.length = l.length := by
  obtain ⟨us, h1, h2⟩ := h
  refine ⟨us, h1, h2, ?_⟩
  have := h2.len
  rwa [List.length_map] at this
@[irreducible] def spSame : Sp := fun vs H Q _ => ∃ (a b : Addr) (l m : Asg), vs = [.ref a, .ref b] ∧ a ≠ b ∧ DA H a l ∧ DA H b m ∧ l.Perm m ∧ (l.map (·.1)).Nodup ∧ l.length ≤ 20 ∧ (∀ p ∈ l, PyData.strOk p.1 = true) ∧ ∀ H', Same H H' → Q (.bl true) H'
theorem ok_same {f : Addr} {fd : FuncData} (F : Fun K "_law_same" "_law_same" s__law_same f fd) (m_isinstance : mg "isinstance" = none) (m_dict : mg "dict" = none) (m_sorted : mg "sorted" = none) (C__law_equal : Cal P w K mg base "_law_equal" 4 ["_law_actual", "_law_expected"] (spEq 3)) : FnOk P w K mg base CX0 5 f fd ["_law_actual", "_law_expected"] spSame := by
  refine F.ok sc__law_same (fun vs H Q E h => ?_) (fun cdv A outer s H vs Q E hr h => ?_)
  · unfold spSame at h
    obtain ⟨a, b, l, m, rfl, _⟩ := h
    rfl
  · unfold spSame at h
    obtain ⟨a, b, l, m, rfl, nab, ha, hb, pm, nd, hl, ok, q⟩ := h
    have hu := hu_of hr
    obtain ⟨us, ha, hua, ul⟩ := ha.at
    obtain ⟨ws, hb, hwb, wl⟩ := hb.at
    have ml : m.length = l.length := pm.length_eq.symm
    have ndm : (m.map (·.1)).Nodup := (pm.map (·.1)).nodup_iff.mp nd
    refine ⟨_, (pss_cons (ps_if (PW.pt (pw_or (pt_not (pt_val (pe_callB (id := "isinstance") call_isi (by rfl) m_isinstance (by decide +kernel) (pa_cons (pv 0) (pa_cons (pe_bltn (v := .ty "dict") (by rfl) m_dict (by decide +kernel) rfl) pa_nil))))) (pw_or1 (pt_cmpR (op_neD hr.units) (pe_callB (id := "sorted") (call_sortedD rfl) (by rfl) m_sorted (by decide +kernel) (pa_cons (pv 0) pa_nil)) (pe_callB (id := "sorted") (call_sortedD rfl) (by rfl) m_sorted (by decide +kernel) (pa_cons (pv 1) pa_nil)) (nomark _)))))
      (pss_one (ps_ret pe_bl))
      pss_nil)
    (pss_cons (ps_lock (ps_for PassesOwn.never rfl (pi_keys (pv 1)) (pg_name (i := 2) sc__law_same.nd rfl (Or.inl rfl))
      (pss_one (ps_if (pt_not (pt_val (pe_cal C__law_equal (hr.mono (by decide)) (pa_cons (pe_dget hu (pv 0) (pv 2) (fun _ _ => rfl)) (pa_cons (pe_dget hu (pv 1) (pv 2) (fun _ _ => rfl)) pa_nil)))))
      (pss_one (ps_ret pe_bl))
      pss_nil))))
    (pss_one (ps_ret pe_bl)))), ?_⟩
    walk_at "rd"
    refine ⟨_, _, _, _, true, rfl, .ty "dict", .base (.dK ha), kit_ty (by decide +kernel), ?_⟩
    walk_at "rd"
    refine ⟨a, _, l.map (·.1), rfl, .inl ha, asK_keys (by rw [List.length_map]; exact ul), by rw [List.length_map]; omega, fun ys p pm2 st np => ?_⟩
    tm_at "gn p hp"
    walk_at "rd"
    refine ⟨b, _, m.map (·.1), rfl, .inl (sp _ _ hb), asK_keys (by rw [List.length_map]; exact wl), by rw [List.length_map]; omega, fun zs r pm3 st3 nr => ?_⟩
    tm_at "gn r hr2"
    have ndy : ys.Nodup := pm2.nodup_iff.mpr nd
    have ndz : zs.Nodup := pm3.nodup_iff.mpr ndm
    have eyz : ys = zs := asc_eq (asc_of st ndy) (asc_of st3 ndz) fun z => pm2.mem_iff.trans ((pm.map (·.1)).mem_iff.trans pm3.mem_iff.symm)
    subst eyz
    have lay : Lay 1 (.list (ys.map PyData.str)) := lay_list (lays_strs fun x hx => by
      obtain ⟨p, hp, rfl⟩ := List.mem_map.mp (pm2.mem_iff.mp hx)
      exact ok p hp)
    walk_at "rd"
    refine ⟨_, _, .lst (sq (sr _ _ hp)) (dp_strs ys), .lst (sq hr2) (dp_strs ys), shape lay (by decide), shape lay (by decide), ?_⟩
    rw [eq_refl lay]
    have s2 := sp.trans sr
    have ha2 := s2 _ _ ha
    have hb2 := s2 _ _ hb
    have hua2 := all2_imp hua fun _ _ h => h.same s2
    have hwb2 := all2_imp hwb fun _ _ h => h.same s2
    walk_at "rd"
    refine ⟨b, _, hb2, trivial, fun od => ?_⟩
    have hdl := upd_same (H := Hr) (a := b) (o := .frz od (.dK (asK (m.map (·.1)) ws)))
    have hot : ∀ c, c ≠ b → upd Hr b (.frz od (.dK (asK (m.map (·.1)) ws))) c = Hr c := fun c h => upd_ne h
    have hua3 := all2_imp hua2 fun _ _ h => h.updD (o := .frz od (.dK (asK (m.map (·.1)) ws))) hb2
    have hwb3 := all2_imp hwb2 fun _ _ h => h.updD (o := .frz od (.dK (asK (m.map (·.1)) ws))) hb2
    generalize upd Hr b (.frz od _) = HL at hdl hot hua3 hwb3 ⊢
    have ha3 : HL a = _ := (hot a nab).trans ha2
    walk_at "rd"
    refine ⟨b, od, rfl, .inl ⟨_, hdl, ?_⟩⟩
    have kl : (asK (m.map (·.1)) ws).length = m.length := by
      unfold asK
      rw [List.length_zip, List.length_map, List.length_map]
      omega
    refine for_it walk_keys (fun i σ H' => ∃ o2 : Option V, σ = [some (.ref a), some (.ref b), o2] ∧ Same HL H') ⟨none, rfl, Same.refl HL⟩ (fun i σ H' _ ⟨_, _, h⟩ => h _ _ hdl) ?_ ?_
    · rintro i x σ H5 H5' hi ⟨o2, rfl, s5⟩ ⟨rfl, kk, y, hk, rfl⟩
      rw [kl] at hi
      obtain ⟨pr, hpr⟩ : ∃ pr, m[i]? = some pr := ⟨m[i], List.getElem?_eq_getElem hi⟩
      have hz : ((m.map (·.1)).map fun n => (Sum.inr n : Key))[i]? = some kk := (List.getElem?_zip_eq_some.mp hk).1
      obtain rfl : kk = .inr pr.1 := by
        rw [List.getElem?_map, List.getElem?_map, hpr] at hz
        exact (Option.some.inj hz).symm
      have hm := List.mem_of_getElem? hpr
      obtain ⟨u1, g1, g2⟩ := asK_get nd hua3 (show (pr.1, pr.2) ∈ l from pm.mem_iff.mpr hm)
      obtain ⟨u2, g3, g4⟩ := asK_get ndm hwb3 (show (pr.1, pr.2) ∈ m from hm)
      walk_at "rd"
      refine ⟨a, u1, rfl, by rw [← g1]; exact DGet.k (k := .inr pr.1) (s5 _ _ ha3), ?_⟩
      walk_at "rd"
      refine ⟨b, u2, rfl, .inl ⟨_, .inr pr.1, .inr ⟨od, s5 _ _ hdl⟩, rfl, g3.symm⟩, ?_⟩
      refine ⟨u1, u2, pr.2, rfl, g2.same s5, g4.same s5, (by cases pr.2 <;> first | exact True.intro | (show 1 ≤ 2; decide)), fun H6 s6 => ?_⟩
      walk_at "rd"
      exact s5.trans s6
    · rintro σ H5 ⟨o2, rfl, s5⟩
      walk_at "rd"
      refine ⟨s5 _ _ hdl, ?_⟩
      walk_at "rd"
      refine q _ fun c o e => ?_
      by_cases hc : c = b
      · subst hc
        rw [upd_same, ← e, hb]
      · rw [upd_ne hc]
        exact s5 c o (by rw [hot c hc]; exact s2 _ _ e)
end
end K06
namespace K06
open PySem PySem.Spec PyProof.Rows L2 Bx TL Dx Sup Er NdefX Zx
/-! ### what the law has in hand -/
theorem VaAt.updL {H : Hp} {R : Addr} {xs : List V} {o : HO} {v : V} {a : Va} (h : VaAt H v a) (hR : H R = some (.lst xs)) : VaAt (upd H R o) v a := by
  cases a with
  | num i => exact h
  | «let» z => exact h
  | frac i j =>
    obtain ⟨p, e, h⟩ := h
    refine ⟨p, e, ?_⟩
    rw [upd_ne (fun e => by rw [e, hR] at h; cases h)]
    exact h
theorem PrAt.updL {H : Hp} {R : Addr} {xs : List V} {o : HO} {u : V} {p : Str × Va} (h : PrAt H u p) (hR : H R = some (.lst xs)) : PrAt (upd H R o) u p := by
  obtain ⟨r, v, e, hr, hv⟩ := h
  refine ⟨r, v, e, ?_, hv.updL hR⟩
  rw [upd_ne (fun e => by rw [e, hR] at hr; cases hr)]
  exact hr
theorem PrAt.updD {H : Hp} {R : Addr} {kvs : List (Key × V)} {o : HO} {u : V} {p : Str × Va} (h : PrAt H u p) (hR : H R = some (.dK kvs)) : PrAt (upd H R o) u p := by
  obtain ⟨r, v, e, hr, hv⟩ := h
  refine ⟨r, v, e, ?_, hv.updD hR⟩
  rw [upd_ne (fun e => by rw [e, hR] at hr; cases hr)]
  exact hr
theorem DA.but {H H' : Hp} {src a : Addr} {l : Asg} (h : DA H a l) (s : SameBut src H H') (hs : Src H src) : DA H' a l := by
  obtain ⟨us, h1, h2⟩ := h
  refine ⟨us, s _ _ (fun e => ?_) h1, all2_imp h2 fun _ _ h => h.but s hs⟩
  obtain ⟨n, c, h3⟩ := hs
  rw [e, h3] at h1
  cases h1
theorem DA.updD {H : Hp} {a R : Addr} {l : Asg} {kvs : List (Key × V)} {o : HO} (h : DA H a l) (ne : a ≠ R) (hR : H R = some (.dK kvs)) : DA (upd H R o) a l := by
  obtain ⟨us, h1, h2⟩ := h
  exact ⟨us, by rw [upd_ne ne]; exact h1, all2_imp h2 fun _ _ h => h.updD hR⟩
theorem DA.updL {H : Hp} {a R : Addr} {l : Asg} {xs : List V} {o : HO} (h : DA H a l) (hR : H R = some (.lst xs)) : DA (upd H R o) a l := by
  obtain ⟨us, h1, h2⟩ := h
  refine ⟨us, ?_, all2_imp h2 fun _ _ h => h.updL hR⟩
  rw [upd_ne (fun e => by rw [e, hR] at h1; cases h1)]
  exact h1
theorem asK_put {ns : List Str} {us : List V} {t : Str} {v : V} (hl : us.length = ns.length) (hn : t ∉ ns) : putK (asK ns us) (Sum.inr t) v = asK (ns ++ [t]) (us ++ [v]) := by
  unfold putK
  rw [if_neg]
  · unfold asK
    rw [List.map_append, List.zip_append (by rw [List.length_map, hl])]
    rfl
  · rw [List.any_eq_true]
    rintro ⟨kv, hk, e⟩
    obtain ⟨t2, h2, e2⟩ := List.mem_map.mp (List.of_mem_zip hk).1
    refine hn ?_
    rw [← Sum.inr.inj (e2.trans (of_decide_eq_true e))]
    exact h2
/-- d[z] = v -/
theorem DA.put {H : Hp} {a : Addr} {l : Asg} {z : Str} {v : V} {x : Va} (h : DA H a l) (hz : z ∉ l.map (·.1)) (hv : VaAt H v x) : ∃ kvs, H a = some (.dK kvs) ∧ kvs.length = l.length ∧ DA (upd H a (.dK (putK kvs (.inr z) v))) a (l ++ [(z, x)]) := by
  obtain ⟨us, h1, h2⟩ := h
  have ul : us.length = (l.map (·.1)).length := by
    have := h2.len
    rw [List.length_map] at this ⊢
    exact this
  refine ⟨_, h1, ?_, us ++ [v], ?_, ?_⟩
  · unfold asK
    rw [List.length_zip, List.length_map, List.length_map]
    rw [List.length_map] at ul
    omega
  · rw [upd_same, asK_put ul hz, List.map_append]
    rfl
  · rw [List.map_append]
    exact all2_snoc (all2_imp h2 fun _ _ h => h.updD h1) (hv.updD h1)
structure Bun (H : Hp) (src pl E P T : Addr) (us : List V) (l le lp : Asg) (ts : List Str) : Prop where
  A : Src H src
  npl : src ≠ pl
  nT : src ≠ T
  plT : pl ≠ T
  EP : E ≠ P
  hpl : H pl = some (.lst us)
  hus : PrsAt H us l
  hE : DA H E le
  hP : DA H P lp
  hT : H T = some (.lst (ts.map V.str))
theorem Bun.same {H H' : Hp} {src pl E P T : Addr} {us : List V} {l le lp : Asg} {ts : List Str} (h : Bun H src pl E P T us l le lp ts) (s : Same H H') : Bun H' src pl E P T us l le lp ts :=
  ⟨src_same h.A s, h.npl, h.nT, h.plT, h.EP, s _ _ h.hpl, h.hus.same s, h.hE.same s, h.hP.same s, s _ _ h.hT⟩
theorem Bun.but {H H' : Hp} {src pl E P T : Addr} {us : List V} {l le lp : Asg} {ts : List Str} (h : Bun H src pl E P T us l le lp ts) (s : SameBut src H H') (A : Src H' src) : Bun H' src pl E P T us l le lp ts :=
  ⟨A, h.npl, h.nT, h.plT, h.EP, s _ _ h.npl.symm h.hpl, h.hus.but s h.A, h.hE.but s h.A, h.hP.but s h.A, s _ _ h.nT.symm h.hT⟩
theorem src_dk {H : Hp} {src a : Addr} {kvs : List (Key × V)} {o : HO} (h : Src H src) (ha : H a = some (.dK kvs)) : Src (upd H a o) src := by
  obtain ⟨n, c, h⟩ := h
  refine ⟨n, c, ?_⟩
  rw [upd_ne (fun e => by rw [e, ha] at h; cases h)]
  exact h
theorem Bun.putE {H : Hp} {src pl E P T : Addr} {us : List V} {l le lp : Asg} {ts : List Str} (h : Bun H src pl E P T us l le lp ts) {z : Str} {v : V} {x : Va} (hz : z ∉ le.map (·.1)) (hv : VaAt H v x) :
    ∃ kvs, H E = some (.dK kvs) ∧ kvs.length = le.length ∧ Bun (upd H E (.dK (putK kvs (.inr z) v))) src pl E P T us l (le ++ [(z, x)]) lp ts := by
  obtain ⟨kvs, h1, hl, h2⟩ := h.hE.put hz hv
  refine ⟨kvs, h1, hl, src_dk h.A h1, h.npl, h.nT, h.plT, h.EP, ?_, all2_imp h.hus fun _ _ h => h.updD h1, h2, h.hP.updD h.EP.symm h1, ?_⟩
  · rw [upd_ne (fun e => by have := h.hpl; rw [e, h1] at this; cases this)]
    exact h.hpl
  · rw [upd_ne (fun e => by have := h.hT; rw [e, h1] at this; cases this)]
    exact h.hT
theorem Bun.putP {H : Hp} {src pl E P T : Addr} {us : List V} {l le lp : Asg} {ts : List Str} (h : Bun H src pl E P T us l le lp ts) {z : Str} {v : V} {x : Va} (hz : z ∉ lp.map (·.1)) (hv : VaAt H v x) :
    ∃ kvs, H P = some (.dK kvs) ∧ kvs.length = lp.length ∧ Bun (upd H P (.dK (putK kvs (.inr z) v))) src pl E P T us l le (lp ++ [(z, x)]) ts := by
  obtain ⟨kvs, h1, hl, h2⟩ := h.hP.put hz hv
  refine ⟨kvs, h1, hl, src_dk h.A h1, h.npl, h.nT, h.plT, h.EP, ?_, all2_imp h.hus fun _ _ h => h.updD h1, h.hE.updD h.EP h1, h2, ?_⟩
  · rw [upd_ne (fun e => by have := h.hpl; rw [e, h1] at this; cases this)]
    exact h.hpl
  · rw [upd_ne (fun e => by have := h.hT; rw [e, h1] at this; cases this)]
    exact h.hT
theorem Bun.addT {H : Hp} {src pl E P T : Addr} {us : List V} {l le lp : Asg} {ts : List Str} (h : Bun H src pl E P T us l le lp ts) (t : Str) :
    Bun (upd H T (.lst (ts.map V.str ++ [V.str t]))) src pl E P T us l le lp (ts ++ [t]) := by
  refine ⟨src_upd h.A h.nT, h.npl, h.nT, h.plT, h.EP, ?_, all2_imp h.hus fun _ _ k => k.updL h.hT, h.hE.updL h.hT, h.hP.updL h.hT, ?_⟩
  · rw [upd_ne h.plT]
    exact h.hpl
  · rw [upd_same, List.map_append]
    rfl
/-! the right reading of the law's text -/
theorem good_ts {x : Str} {n : Nat} {l : Asg} (h : GoodL x n l) : okTs x (texts x n l) = true ∧ tsOf x (texts x n l) = (if x = wW then [(Str.ofString "", Va.num n)] else []) ++ l := by
  have h61 : ∀ p ∈ l, 61 ∉ tl p.1 := fun p hp => (h.all p hp).1.ch.2
  have hl : ∀ p ∈ l, lft (tk p) = p.1 := fun p hp => lft_tkn (h61 p hp)
  have hr : ∀ p ∈ l, rgt (tk p) = txtV p.2 := fun p hp => rgt_tkn (h61 p hp)
  have ml : (l.map tk).map lft = l.map (·.1) := by
    rw [List.map_map]
    exact List.map_congr_left fun p hp => hl p hp
  have ents : okEnts x (l.map tk) = true := by
    unfold okEnts namesB
    rw [ml]
    refine Bool.and_eq_true_iff.mpr ⟨List.all_eq_true.mpr fun t ht => ?_, Bool.and_eq_true_iff.mpr ⟨Bool.and_eq_true_iff.mpr ⟨List.all_eq_true.mpr fun z hz => ?_, ascB_iff.mpr h.asc⟩, List.all_eq_true.mpr fun t ht => ?_⟩⟩
    · obtain ⟨p, hp, rfl⟩ := List.mem_map.mp ht
      exact has_tkn
    · obtain ⟨p, hp, rfl⟩ := List.mem_map.mp hz
      exact (h.all p hp).1.1
    · obtain ⟨p, hp, rfl⟩ := List.mem_map.mp ht
      rw [hr p hp]
      exact (good_reads (h.all p hp).2).1
  have vals : (l.map tk).map (fun t => (lft t, valOf x (rgt t))) = l := by
    rw [List.map_map]
    conv => rhs; rw [← List.map_id l]
    refine List.map_congr_left fun p hp => ?_
    show (lft (tk p), valOf x (rgt (tk p))) = p
    rw [hl p hp, hr p hp, (good_reads (h.all p hp).2).2]
  unfold okTs tsOf texts grd
  by_cases e : x = wW
  · subst e
    rw [if_pos rfl, if_pos rfl, if_pos rfl, if_pos rfl]
    constructor
    · show (Txt.startswith (gnd n) (Str.ofString "=") && (okNum (tl (cut1 (gnd n))) && (okEnts wW (l.map tk) && (decide (0 ≤ numOf (tl (cut1 (gnd n)))) && (l.map tk).all fun t => decide (((rgt t).length : Int) = numOf (tl (cut1 (gnd n)))))))) = true
      rw [starts_eq, tl_gnd, cut_gnd, ents, (numT_ok _).1, (numT_ok _).2, decide_eq_true (show (0 : Int) ≤ (n : Int) by omega)]
      refine Bool.and_eq_true_iff.mpr ⟨rfl, Bool.and_eq_true_iff.mpr ⟨rfl, Bool.and_eq_true_iff.mpr ⟨rfl, Bool.and_eq_true_iff.mpr ⟨rfl, List.all_eq_true.mpr fun t ht => ?_⟩⟩⟩⟩
      obtain ⟨p, hp, rfl⟩ := List.mem_map.mp ht
      rw [hr p hp]
      have g := (h.all p hp).2
      refine decide_eq_true ?_
      cases e2 : p.2 with
      | num i =>
        rw [e2] at g
        exact absurd rfl g.2.1
      | frac a b =>
        rw [e2] at g
        exact absurd g.1 (by decide +kernel)
      | «let» z =>
        rw [e2] at g
        show ((z.length : Nat) : Int) = n
        rw [g.2.2]
    · show (Str.ofString "", Va.num (numOf (tl (cut1 (gnd n))))) :: (l.map tk).map (fun t => (lft t, Va.let (rgt t))) = _
      rw [cut_gnd, (numT_ok _).2]
      refine congrArg _ ?_
      have : (fun t : Str => (lft t, Va.let (rgt t))) = fun t => (lft t, valOf wW (rgt t)) := funext fun t => by rw [valOf_w]
      rw [this]
      exact vals
  · rw [if_neg e, if_neg e, if_neg e, if_neg e]
    exact ⟨ents, vals⟩
theorem good_asg {x : Str} {n : Nat} {l : Asg} (h : GoodL x n l) : okAsg x (joinT (texts x n l)) = true ∧ asgOf x (joinT (texts x n l)) = (if x = wW then [(Str.ofString "", Va.num n)] else []) ++ l := by
  have e : toks (joinT (texts x n l)) = texts x n l := toks_join (fun t ht => (h.tok t ht).1.1.no) (fun e => (h.tok (Str.ofString "") (by rw [e]; exact List.mem_singleton.mpr rfl)).2 rfl)
  unfold okAsg asgOf
  rw [e]
  exact good_ts h
end K06
namespace K06
open PySem PySem.Spec PyProof.Rows L2 Bx TL Dx Sup Er NdefX Zx
local macro_rules | `(tactic| walk_at "rd") => `(tactic| repeat (first | refine ⟨rfl, ?_⟩ | refine ⟨_, rfl, ?_⟩ | refine ⟨_, _, rfl, rfl, ?_⟩ | refine ⟨⟨_, rfl⟩, ?_⟩))
local macro_rules
  | `(tactic| tm_at $s:str) => do
    let id (x : String) := Lean.mkIdent (Lean.Name.mkSimple x)
    match s.getString.splitOn " " with
    | ["rd"] => `(tactic| walk_at "rd")
    | ["sz"] => `(tactic| first | exact sz (by decide) | exact szl (by decide) | exact sz (by show _ ≤ 100000; decide) | ((first | refine sz ?_ | refine szl ?_); (try simp only [List.length_map, List.length_append, List.length_cons, List.length_nil, List.length_take, List.length_drop]); omega) | fail "sz: no bound")
    | ["gn", p, h] => `(tactic| (generalize hu : upd _ $(id p) _ = $(id ("H" ++ p)); obtain ⟨$(id ("s" ++ p)), $(id h)⟩ := Go.al $(id ("n" ++ p)) hu; clear hu))
    | ["al", p] => `(tactic| (refine ⟨by tm_at "sz", fun $(id p) $(id ("n" ++ p)) => ?_⟩; generalize hu : upd _ $(id p) _ = $(id ("H" ++ p)); obtain ⟨$(id ("s" ++ p)), $(id ("h" ++ p))⟩ := Go.al $(id ("n" ++ p)) hu; clear hu; tm_at "rd"))
    | ["al0", p] => `(tactic| (refine ⟨by tm_at "sz", fun $(id p) $(id ("n" ++ p)) => ?_⟩; generalize hu : upd _ $(id p) _ = $(id ("H" ++ p)); obtain ⟨$(id ("s" ++ p)), $(id ("h" ++ p))⟩ := Go.al $(id ("n" ++ p)) hu; clear hu; tm_at "rd"))
    | ["new", p] => `(tactic| (refine fun $(id p) $(id ("n" ++ p)) => ?_; generalize hu : upd _ $(id p) _ = $(id ("H" ++ p)); obtain ⟨$(id ("s" ++ p)), $(id ("h" ++ p))⟩ := Go.al $(id ("n" ++ p)) hu; clear hu; tm_at "rd"))
    | ["new0", p] => `(tactic| (refine fun $(id p) $(id ("n" ++ p)) => ?_; generalize hu : upd _ $(id p) _ = $(id ("H" ++ p)); obtain ⟨$(id ("s" ++ p)), $(id ("h" ++ p))⟩ := Go.al $(id ("n" ++ p)) hu; clear hu; tm_at "rd"))
    | ["up"] => `(tactic| first
        | assumption | exact sq (by assumption) | exact sqt (by assumption) | exact PlT.sq (by assumption)
        | (refine' Bx.Same.tup (by assumption) ?hh; (case hh => tm_at "up")) | (refine' Same.seq (by assumption) ?hh; (case hh => tm_at "up")) | (refine' Go.get (by assumption) ?hh; (case hh => tm_at "up")) | (refine' dpAll_same (by assumption) ?hh; (case hh => tm_at "up")) | (refine' dp_same (by assumption) ?hh; (case hh => tm_at "up")) | (refine' PlT.same (by assumption) ?hh; (case hh => tm_at "up")) | (refine' Go.srcS (by assumption) ?hh; (case hh => tm_at "up"))
        | (refine' Go.tupB (s := _) (by assumption) (by assumption) ?hh; (case hh => tm_at "up")) | (refine' Go.dkB (s := _) (by assumption) (by assumption) ?hh; (case hh => tm_at "up")) | (refine' Go.insB (s := _) (by assumption) (by assumption) ?hh; (case hh => tm_at "up")) | (refine' Go.pltB (s := _) (by assumption) (by assumption) ?hh; (case hh => tm_at "up"))
        | (refine' Go.getB (by assumption) (by first | assumption | exact Ne.symm (by assumption)) ?hh; (case hh => tm_at "up"))
        | (refine' sq ?hh; (case hh => tm_at "raw")) | (refine' sqt ?hh; (case hh => tm_at "raw")) | (refine' PlT.sq ?hh; (case hh => tm_at "raw")) | fail "up: no fact")
    | ["raw"] => `(tactic| first
        | assumption | (refine' Go.get (by assumption) ?hh; (case hh => tm_at "raw")) | (refine' PlT.same (by assumption) ?hh; (case hh => tm_at "raw")) | (refine' Go.pltB (s := _) (by assumption) (by assumption) ?hh; (case hh => tm_at "raw")) | (refine' Go.getB (by assumption) (by first | assumption | exact Ne.symm (by assumption)) ?hh; (case hh => tm_at "raw")) | fail "raw: no fact")
    | ["sq"] => `(tactic| first | exact .inl (by tm_at "up") | exact .inr (by tm_at "up") | fail "sq: no fact")
    | ["ix", j] => `(tactic| (refine ⟨_, _, _, _, rfl, rfl, by tm_at "up", by exact atI_nat (j := $(Lean.Syntax.mkNumLit j)) rfl, ?_⟩; tm_at "rd"))
    | ["ixh", h] => `(tactic| (refine ⟨_, _, _, _, rfl, rfl, by tm_at "up", by first | exact Go.at_mapV $(id h) | exact Go.at_mapZ $(id h) | exact atI_nat $(id h) | exact Go.at_nat0 $(id h), ?_⟩; tm_at "rd"))
    | ["len"] => `(tactic| (refine ⟨_, _, rfl, by tm_at "sq", ?_⟩; (try rw [List.length_map]); tm_at "rd"))
    | ["tp", p] => `(tactic| (refine ⟨_, _, rfl, .inl ⟨by tm_at "up", fun $(id p) $(id ("n" ++ p)) => ?_⟩⟩; generalize hu : upd _ $(id p) _ = $(id ("H" ++ p)); obtain ⟨$(id ("s" ++ p)), $(id ("h" ++ p))⟩ := Go.al $(id ("n" ++ p)) hu; clear hu; tm_at "rd"))
    | ["tp0", p] => `(tactic| (refine ⟨_, _, rfl, .inl ⟨by tm_at "up", fun $(id p) $(id ("n" ++ p)) => ?_⟩⟩; generalize hu : upd _ $(id p) _ = $(id ("H" ++ p)); obtain ⟨$(id ("s" ++ p)), $(id ("h" ++ p))⟩ := Go.al $(id ("n" ++ p)) hu; clear hu; tm_at "rd"))
    | ["ls", p] => `(tactic| (refine ⟨_, _, rfl, by tm_at "sq", fun $(id p) $(id ("n" ++ p)) => ?_⟩; generalize hu : upd _ $(id p) _ = $(id ("H" ++ p)); obtain ⟨$(id ("s" ++ p)), $(id ("h" ++ p))⟩ := Go.al $(id ("n" ++ p)) hu; clear hu; tm_at "rd"))
    | ["ls0", p] => `(tactic| (refine ⟨_, _, rfl, by tm_at "sq", fun $(id p) $(id ("n" ++ p)) => ?_⟩; generalize hu : upd _ $(id p) _ = $(id ("H" ++ p)); obtain ⟨$(id ("s" ++ p)), $(id ("h" ++ p))⟩ := Go.al $(id ("n" ++ p)) hu; clear hu; tm_at "rd"))
    | ["tf", p] => `(tactic| (refine ⟨_, _, rfl, by tm_at "up", fun $(id p) $(id ("o" ++ p)) $(id ("n" ++ p)) $(id ("d" ++ p)) => ?_⟩; generalize hu : upd _ $(id p) _ = $(id ("H" ++ p)); obtain ⟨$(id ("s" ++ p)), $(id ("h" ++ p))⟩ := Go.alF $(id ("n" ++ p)) $(id ("d" ++ p)) hu; clear hu; tm_at "rd"))
    | ["alF", p] => `(tactic| (refine ⟨by tm_at "sz", fun $(id p) $(id ("o" ++ p)) $(id ("n" ++ p)) $(id ("d" ++ p)) => ?_⟩; generalize hu : upd _ $(id p) _ = $(id ("H" ++ p)); obtain ⟨$(id ("s" ++ p)), $(id ("h" ++ p))⟩ := Go.alF $(id ("n" ++ p)) $(id ("d" ++ p)) hu; clear hu; tm_at "rd"))
    | ["bare", k] => `(tactic| (refine fun $(id k) $(id ("d" ++ k)) $(id ("n" ++ k)) $(id ("nd" ++ k)) $(id ("ne" ++ k)) => ?_; generalize hu : upd (upd _ $(id ("d" ++ k)) _) $(id k) _ = $(id ("H" ++ k)); obtain ⟨$(id ("s" ++ k)), $(id ("h" ++ k))⟩ := Go.bare $(id ("n" ++ k)) $(id ("nd" ++ k)) $(id ("ne" ++ k)) hu; clear hu; walk_at "rd"))
    | ["me"] => `(tactic| (refine ⟨_, _, _, rfl, by tm_at "up", rfl, ?_⟩; walk_at "rd"))
    | ["star"] => `(tactic| ((first | refine ⟨_, _, rfl, .inl (by tm_at "up"), ?_⟩ | refine ⟨_, _, rfl, .inr (by tm_at "up"), ?_⟩ | fail "star"); walk_at "rd"))
    | ["ap0"] => `(tactic| (refine ⟨.inl ⟨rfl, _, by tm_at "up"⟩, ?_⟩; tm_at "rd"))
    | ["ap"] => `(tactic| refine ⟨_, _, _, rfl, rfl, by tm_at "up", by tm_at "sz", ?_⟩)
    | ["un", n] => match n with
      | "2" => `(tactic| (refine ⟨_, _, rfl, by tm_at "up", rfl, _, _, rfl, _, _, rfl, rfl, ?_⟩; tm_at "rd"))
      | _ => `(tactic| (refine ⟨_, _, rfl, by tm_at "up", rfl, _, _, rfl, _, _, rfl, _, _, rfl, rfl, ?_⟩; tm_at "rd"))
    | ["eqs", x, t, e] => `(tactic| (by_cases $(id e):ident : $(id x) = Str.ofString $(Lean.Syntax.mkStrLit t) <;> first | rw [decide_eq_true (show V.str $(id x) = V.str (Str.ofString $(Lean.Syntax.mkStrLit t)) by rw [$(id e):ident])] | rw [decide_eq_false (show ¬ V.str $(id x) = V.str (Str.ofString $(Lean.Syntax.mkStrLit t)) from fun h => $(id e) (V.str.inj h))]))
    | ["eqi", x, n, e] => `(tactic| (by_cases $(id e):ident : $(id x) = $(Lean.Syntax.mkNumLit n) <;> first | rw [decide_eq_true (show V.int $(id x) = V.int $(Lean.Syntax.mkNumLit n) by rw [$(id e):ident])] | rw [decide_eq_false (show ¬ V.int $(id x) = V.int $(Lean.Syntax.mkNumLit n) from fun h => $(id e) (V.int.inj h))]))
    | _ => Lean.Macro.throwUnsupported
/-! ### one kind -/
def gasg (x : Str) (n : Nat) : Asg := if x = wW then [(Str.ofString "", Va.num n)] else []
theorem all2_rev {α : Type} {R : V → α → Prop} {us : List V} {l : List α} (h : Go.All2 R us l) : Go.All2 R us.reverse l.reverse := by
  induction h with
  | nil => exact .nil
  | cons h _ ih =>
    rw [List.reverse_cons, List.reverse_cons]
    exact all2_snoc ih h
theorem all2_at {α : Type} {R : V → α → Prop} : ∀ {us : List V} {l : List α} {i : Nat} {u : V}, Go.All2 R us l → us[i]? = some u → ∃ p, l[i]? = some p ∧ R u p
  | _, _, i, u, .nil, h => by cases i <;> cases h
  | _, _, 0, u, .cons h1 _, h => ⟨_, rfl, by cases h; exact h1⟩
  | _, _, i + 1, u, .cons _ h2, h => all2_at (i := i) h2 h
theorem nd_take {l : Asg} {i : Nat} {p : Str × Va} (nd : (l.map (·.1)).Nodup) (h : l[i]? = some p) : p.1 ∉ (l.take i).map (·.1) := fun hm => by
  have h2 := nd.sublist ((List.take_sublist (i + 1) l).map (·.1))
  rw [List.take_add_one, h, List.map_append] at h2
  exact (List.nodup_append.mp h2).2.2 _ hm _ (List.mem_singleton.mpr rfl) rfl
theorem name_ne {z : Str} (h : NameOk z) : z ≠ Str.ofString "" := fun e => by
  obtain ⟨c, r, e2, _⟩ := h.head
  rw [e] at e2
  cases e2
theorem lay_refused {i : Int} : Lay 1 (.list [.str (Str.ofString "refused"), .int i]) := lay_list (lays_cons (lay_str (by decide +kernel)) (lays_cons lay_int lays_nil))
theorem dp_refused {K : PySem.W.Frag} {H : Hp} {r : Addr} {i : Int} (h : H r = some (.lst [.str (Str.ofString "refused"), .int i])) : Dp K H (.ref r) (.list [.str (Str.ofString "refused"), .int i]) := .lst (sq h) (.cons (.str _) (da_one (.int _)))
theorem asgT_eq (x : Str) (n : Nat) (l : Asg) : asgT (gasg x n ++ l) = joinT (texts x n l) := by
  unfold asgT texts gasg grd
  rw [List.map_append]
  have h1 : l.map (fun p => entV p.1 p.2) = l.map tk := List.map_congr_left fun p _ => entV_tkn p.1 p.2
  rw [h1]
  split
  · rw [show ([(Str.ofString "", Va.num n)] : Asg).map (fun p => entV p.1 p.2) = [gnd n] from congrArg (fun z => [z]) (TL.ext_tl (by show tl (entV (Str.ofString "") (Va.num n)) = _; rw [tl_gnd, entV_tkn, tl_tkn]; rfl))]
  · rfl
theorem gasg_asc {x : Str} {n : Nat} {l : Asg} (h : GoodL x n l) : Asc ((gasg x n ++ l).map (·.1)) := by
  rw [List.map_append]
  unfold gasg
  split
  · refine List.pairwise_cons.mpr ⟨fun z hz => ?_, h.asc⟩
    obtain ⟨p, hp, rfl⟩ := List.mem_map.mp hz
    obtain ⟨c, r, e, _⟩ := (h.all p hp).1.head
    show ([] : List Nat) < tl p.1
    rw [e]
    exact List.Lex.nil
  · exact h.asc
theorem gasg_len (x : Str) (n : Nat) : (gasg x n).length ≤ 1 := by
  unfold gasg
  split
  · exact Nat.le_refl _
  · exact Nat.zero_le _
theorem name_ok {z : Str} (h : NameOk z) : PyData.strOk z = true := strOk_of fun c hc => by
  have := h.ch.1 c hc
  omega
theorem gasg_all {x : Str} {n : Nat} {l : Asg} (h : GoodL x n l) : ∀ p ∈ gasg x n ++ l, OkVa x p.2 ∧ p.1.length ≤ 100 ∧ (p.1 = Str.ofString "" → x ≠ Str.ofString "lines") ∧ PyData.strOk p.1 = true := fun p hp => by
  rcases List.mem_append.mp hp with h1 | h1
  · unfold gasg at h1
    split at h1
    · rename_i e
      rw [List.mem_singleton.mp h1]
      have := h.n8
      have nl : x ≠ Str.ofString "lines" := by rw [e]; decide +kernel
      exact ⟨⟨nl, log31 (by omega)⟩, (by show (Str.ofString "").length ≤ 100; decide +kernel), fun _ => nl, (by show PyData.strOk (Str.ofString "") = true; decide +kernel)⟩
    · cases h1
  · obtain ⟨g1, g2⟩ := h.all p h1
    exact ⟨g2.ok h.n8, by have := g1.2.1; omega, fun e => absurd e (name_ne g1), name_ok g1⟩
theorem gasg_no {x z : Str} {n : Nat} (h : NameOk z) : z ∉ (gasg x n).map (·.1) := fun hm => by
  unfold gasg at hm
  split at hm
  · exact name_ne h (List.mem_singleton.mp hm)
  · cases hm
section
variable {P : Program} {w : World} {K : PySem.W.Frag} {mg : Str → Option Value} {base : Heap}
@[irreducible] def spRight : Sp := fun vs H Q _ => ∃ (x : Str) (src : Addr), vs = [.str x, .ref src] ∧ Src H src ∧ ∀ H', SameBut src H H' → Q (.bl true) H'
set_option maxHeartbeats 2000000 in
theorem ok_right {f : Addr} {fd : FuncData} (F : Fun K "_law_right" "_law_right" s__law_right f fd) (m_str : mg "str" = none) (C__law_draw : CDraw P w K mg base) (C__law_names : Cal P w K mg base "_law_names" 2 ["_law_source_here", "_law_most"] (spNames K))
    (C__law_value : Cal P w K mg base "_law_value" 3 ["_law_word", "_law_source_here", "_law_size"] spLValue) (C__law_value_text : Cal P w K mg base "_law_value_text" 1 ["_law_word", "_law_value_here"] spVText) (C__law_bad_value : Cal P w K mg base "_law_bad_value" 2 ["_law_word", "_law_source_here", "_law_value_here"] spBad)
    (C_format_value : Cal P w K mg base "format_value" 1 ["word", "value"] spFormat) (C_format_assignment : Cal P w K mg base "format_assignment" 3 ["word", "assignment"] spFormatA) (C__law_equal : Cal P w K mg base "_law_equal" 4 ["_law_actual", "_law_expected"] (spEq 3))
    (C__law_read_value : Cal P w K mg base "_law_read_value" 6 ["_law_word", "_law_text", "_law_at"] spLReadV) (C__law_read : Cal P w K mg base "_law_read" 9 ["_law_word", "_law_text", "_law_at"] spLRead) (C__law_same : Cal P w K mg base "_law_same" 5 ["_law_actual", "_law_expected"] spSame)
    (C__law_spoilt : Cal P w K mg base "_law_spoilt" 3 ["_law_source_here", "_law_word", "_law_pairs", "_law_texts", "_law_size"] spSpoilt) : FnOk P w K mg base CX0 10 f fd ["_law_word", "_law_source_here"] spRight := by
  refine F.ok sc__law_right (fun vs H Q E h => ?_) (fun cdv A outer s H vs Q E hr h => ?_)
  · unfold spRight at h
    obtain ⟨x, src, rfl, _⟩ := h
    rfl
  · unfold spRight at h
    obtain ⟨x, src, rfl, hA, q⟩ := h
    have hu := hu_of hr
    refine ⟨_, (pss_cons (ps_set (i := 2) sc__law_right.nd rfl (Or.inr rfl) (pe_ix ix_list (pe_lst (pa_cons pe_int (pa_cons pe_int (pa_cons pe_int (pa_cons (pe_cal C__law_draw (hr.mono (by decide)) (pa_cons (pv 1) (pa_cons pe_int pa_nil))) pa_nil))))) (pe_cal C__law_draw (hr.mono (by decide)) (pa_cons (pv 1) (pa_cons pe_int pa_nil))) (fun _ _ => rfl)))
    (pss_cons (ps_setLc (i := 3) (own := [("_law_name", 11)]) (tt := tYes) rfl sc__law_right.nd rfl rfl (sw_true rfl rfl rfl (by decide +kernel)) (pi_tup (pe_cal C__law_names (hr.mono (by decide)) (pa_cons (pv 1) (pa_cons pe_int pa_nil)))) (blkOk_by (N := n__law_right) (sc := defScope s__law_right) (by decide +kernel)) (fun _ _ _ _ _ => pg_name (i := 11) sc__law_right.nd rfl (Or.inl rfl)) (fun _ _ _ _ _ => pts_nil) (fun _ _ _ _ _ => (pe_tup (pa_cons (pv 11) (pa_cons (pe_cal C__law_value (hr.mono (by decide)) (pa_cons (pv 0) (pa_cons (pv 1) (pa_cons (pv 2) pa_nil)))) pa_nil)))))
    (pss_cons (ps_set (i := 4) sc__law_right.nd rfl (Or.inl rfl) pe_dnewK)
    (pss_cons (ps_set (i := 5) sc__law_right.nd rfl (Or.inl rfl) pe_dnewK)
    (pss_cons (ps_set (i := 6) sc__law_right.nd rfl (Or.inl rfl) (pe_lst pa_nil))
    (pss_cons (ps_if (pt_cmpR op_eq (pv 0) pe_str (nomark _))
      (pss_cons (ps_dput hu (pv 4) pe_str (pv 2) rfl)
    (pss_one (ps_set (i := 6) sc__law_right.nd rfl (Or.inl rfl) (pe_lst (pa_cons (pe_op op_add_str pe_str (pe_callTy (T := "str") call_str_int (by rfl) m_str (by decide +kernel) (pa_cons (pv 2) pa_nil))) pa_nil)))))
      pss_nil)
    (pss_cons (ps_for PassesOwn.never rfl (pi_list (pe_revL (pv 3))) (pg_name (i := 7) sc__law_right.nd rfl (Or.inl rfl))
      (pss_cons (ps_dput hu (pv 5) (pe_ix ix_tup (pv 7) pe_int (fun _ _ => rfl)) (pe_ix ix_tup (pv 7) pe_int (fun _ _ => rfl)) rfl)
    (pss_one (ps_dput hu (pv 4) (pe_ix ix_tup (pv 7) pe_int (fun _ _ => rfl)) (pe_ix ix_tup (pv 7) pe_int (fun _ _ => rfl)) rfl))))
    (pss_cons (ps_if (pt_cmpR op_eq (pv 0) pe_str (nomark _))
      (pss_one (ps_dput hu (pv 5) pe_str (pv 2) rfl))
      pss_nil)
    (pss_cons (ps_set (i := 8) sc__law_right.nd rfl (Or.inl rfl) (pe_op op_add pe_int (pe_op op_mul (pe_cal C__law_draw (hr.mono (by decide)) (pa_cons (pv 1) (pa_cons pe_int pa_nil))) (pe_cal C__law_draw (hr.mono (by decide)) (pa_cons (pv 1) (pa_cons (pe_op op_pow pe_int pe_int) pa_nil))))))
    (pss_cons (ps_for PassesOwn.never rfl (pi_list (pv 3)) (pg_name (i := 7) sc__law_right.nd rfl (Or.inl rfl))
      (pss_cons (ps_set (i := 9) sc__law_right.nd rfl (Or.inl rfl) (pe_cal C__law_value_text (hr.mono (by decide)) (pa_cons (pv 0) (pa_cons (pe_ix ix_tup (pv 7) pe_int (fun _ _ => rfl)) pa_nil))))
    (pss_cons (ps_expr (pe_bm PySem.F.plainAttrs_list PySem.F.slot_list_append PySem.F.type_list_append mt_append (pv 6) (pa_cons (pe_op op_add_str (pe_op op_add_str (pe_ix ix_tup (pv 7) pe_int (fun _ _ => rfl)) pe_str) (pv 9)) pa_nil)))
    (pss_cons (ps_if (pt_not (pt_val (pe_cal C__law_equal (hr.mono (by decide)) (pa_cons (pe_cal C_format_value (hr.mono (by decide)) (pa_cons (pv 0) (pa_cons (pe_ix ix_tup (pv 7) pe_int (fun _ _ => rfl)) pa_nil))) (pa_cons (pv 9) pa_nil)))))
      (pss_one (ps_ret pe_bl))
      pss_nil)
    (pss_cons (ps_if (pt_not (pt_val (pe_cal C__law_equal (hr.mono (by decide)) (pa_cons (pe_cal C__law_read_value (hr.mono (by decide)) (pa_cons (pv 0) (pa_cons (pv 9) (pa_cons (pv 8) pa_nil)))) (pa_cons (pe_ix ix_tup (pv 7) pe_int (fun _ _ => rfl)) pa_nil)))))
      (pss_one (ps_ret pe_bl))
      pss_nil)
    (pss_cons (ps_set (i := 10) sc__law_right.nd rfl (Or.inl rfl) (pe_cal C__law_bad_value (hr.mono (by decide)) (pa_cons (pv 0) (pa_cons (pv 1) (pa_cons (pe_ix ix_tup (pv 7) pe_int (fun _ _ => rfl)) pa_nil)))))
    (pss_one (ps_if (PW.pt (pw_and (pt_cmpR op_ne (pv 0) pe_str (nomark _)) (pw_and1 (pt_cmpR (op_neD hr.units) (pe_cal C__law_read_value (hr.mono (by decide)) (pa_cons (pv 0) (pa_cons (pv 10) (pa_cons (pv 8) pa_nil)))) (pe_lst (pa_cons pe_str (pa_cons (pv 8) pa_nil))) (nomark _)))))
      (pss_one (ps_ret pe_bl))
      pss_nil))))))))
    (pss_cons (ps_if (PW.pt (pw_or (pt_not (pt_val (pe_cal C__law_equal (hr.mono (by decide)) (pa_cons (pe_cal C_format_assignment (hr.mono (by decide)) (pa_cons (pv 0) (pa_cons (pv 5) pa_nil))) (pa_cons (pe_join pe_str (pv 6)) pa_nil))))) (pw_or1 (pt_not (pt_val (pe_cal C__law_same (hr.mono (by decide)) (pa_cons (pv 5) (pa_cons (pv 4) pa_nil))))))))
      (pss_one (ps_ret pe_bl))
      pss_nil)
    (pss_cons (ps_if (pt_not (pt_val (pe_cal C__law_same (hr.mono (by decide)) (pa_cons (pe_cal C__law_read (hr.mono (by decide)) (pa_cons (pv 0) (pa_cons (pe_join pe_str (pv 6)) (pa_cons (pv 8) pa_nil)))) (pa_cons (pv 4) pa_nil)))))
      (pss_one (ps_ret pe_bl))
      pss_nil)
    (pss_one (ps_ret (pe_cmpR (op_eqD hr.units) (pe_cal C__law_read (hr.mono (by decide)) (pa_cons (pv 0) (pa_cons (pe_cal C__law_spoilt (hr.mono (by decide)) (pa_cons (pv 1) (pa_cons (pv 0) (pa_cons (pv 3) (pa_cons (pv 6) (pa_cons (pv 2) pa_nil)))))) (pa_cons (pv 8) pa_nil)))) (pe_lst (pa_cons pe_str (pa_cons (pv 8) pa_nil))) (nomark _)))))))))))))))), ?_⟩
    walk_at "rd"
    refine draw_of (lim := 9) hA (by decide) fun r1 H1 a0 a1 b1 A1 => ?_
    walk_at "rd"
    tm_at "al G"
    refine draw_of (lim := 4) (src_same A1 sG) (by decide) fun r2 H2 c0 c1 b2 A2 => ?_
    have hG2 := b2 _ _ (src_ne A1 nG).symm hG
    obtain ⟨v, hv, hm⟩ := at_of (xs := [V.int 0, V.int 1, V.int 3, V.int r1]) c0 c1
    have hv2 : ∃ n : Nat, v = .int (n : Int) ∧ n ≤ 8 := by
      simp only [List.mem_cons, List.not_mem_nil, or_false] at hm
      rcases hm with rfl | rfl | rfl | rfl
      · exact ⟨0, rfl, by decide⟩
      · exact ⟨1, rfl, by decide⟩
      · exact ⟨3, rfl, by decide⟩
      · exact ⟨r1.toNat, by rw [Int.toNat_of_nonneg a0], by omega⟩
    obtain ⟨n, rfl, hn8⟩ := hv2
    refine ⟨_, _, _, _, rfl, rfl, sq hG2, hv, ?_⟩
    have b02 : SameBut src H H2 := b1.trans (SameBut.trans (Bx.Same.but sG) b2)
    clear hm hv hG2 hG sG nG b2 b1 A1
    dsimp only [gName]
    walk_at "rd"
    unfold spNames
    refine ⟨src, 4, rfl, A2, by decide, fun np ns H3 b3 A3 hnp asc hns hnl => ?_⟩
    walk_at "rd"
    refine ⟨⟨_, hnp⟩, fun D nD => ?_⟩
    have sD : src ≠ D := src_ne A3 nD
    refine lc_it walk_tup (fun i H' => ∃ us l, H' D = some (.lst us) ∧ PrsAt H' us l ∧ l.map (·.1) = ns.take i ∧ (∀ p ∈ l, NameOk p.1 ∧ GoodVa x n p.2) ∧ SqT K H' np (ns.map V.str) ∧ SameBut src H3 H' ∧ Src H' src)
      ⟨[], [], upd_same, .nil, rfl, (fun p h => by cases h), Bx.Same.tup (same_new nD) hnp, Bx.Same.but (same_new nD), src_upd A3 sD⟩ (fun _ _ _ ⟨_, _, _, _, _, _, h, _⟩ => h) ?_ ?_
    · rintro i y H4a H4 hi ⟨us, l, hD, hus, hl, hg, hnp4, b4, A4⟩ ⟨rfl, hy⟩
      rw [List.length_map] at hi
      obtain ⟨nm, hnm⟩ : ∃ nm, ns[i]? = some nm := ⟨ns[i], List.getElem?_eq_getElem hi⟩
      obtain rfl : y = .str nm := by
        rw [List.getElem?_map, hnm] at hy
        exact (Option.some.inj hy).symm
      have ll : l.length = i := by
        have := congrArg List.length hl
        rw [List.length_map, List.length_take] at this
        omega
      have ul : us.length = l.length := hus.len
      refine ⟨rfl, ?_⟩
      walk_at "rd"
      unfold spLValue
      refine ⟨x, src, n, rfl, A4, hn8, fun v a H5 b5 A5 hv hgv => ?_⟩
      have hus5 := hus.but b5 A4
      have hnp5 := Go.tupB A4 b5 hnp4
      have hD5 := b5 _ _ sD.symm hD
      walk_at "rd"
      tm_at "al t"
      have hDt := st _ _ hD5
      refine ⟨us, hDt, szl (by omega), us ++ [.ref t], l ++ [(nm, a)], upd_same, ?_, ?_, ?_, Go.tk_lst hDt _ _ (Bx.Same.tup st hnp5), ?_, src_upd (src_same A5 st) sD⟩
      · exact all2_snoc (all2_imp (hus5.same st) fun _ _ h => h.updL hDt) (PrAt.updL ⟨t, v, rfl, ht, hv.same st⟩ hDt)
      · rw [List.map_append, hl, List.take_add_one, hnm]
        rfl
      · intro p hp
        rcases List.mem_append.mp hp with h | h
        · exact hg p h
        · rw [List.mem_singleton.mp h]
          exact ⟨hns nm (List.mem_of_getElem? hnm), hgv⟩
      · exact but_at nD (b4.trans (SameBut.trans b5 (Bx.Same.but st)))
    rintro H4 ⟨us, l, hD, hus, hl, hg, _, b4, A4⟩
    rw [List.length_map, List.take_length] at hl
    have gl : GoodL x n l := ⟨hg, by rw [hl]; exact asc, by have := congrArg List.length hl; rw [List.length_map] at this; omega, hn8⟩
    have ndl : (l.map (·.1)).Nodup := asc_nodup gl.asc
    have b04 : SameBut src H H4 := (b02.trans b3).trans b4
    clear b4 b3 b02 A3 A2 hnp hns hnl asc hl
    dsimp only [gName]
    walk_at "rd"
    tm_at "new Ed"
    tm_at "new Pd"
    refine ⟨by tm_at "sz", fun T nT => ?_⟩
    generalize hu2 : upd _ T _ = HT
    obtain ⟨sT, hT⟩ := Go.al nT hu2
    clear hu2
    have s47 := (sEd.trans sPd).trans sT
    have B0 : Bun HT src D Ed Pd T us l [] [] [] := ⟨src_same A4 s47, sD, src_ne (src_same A4 (sEd.trans sPd)) nT, (fun e => by rw [← e, (sEd.trans sPd) _ _ hD] at nT; cases nT), (fun e => by rw [← e, hEd] at nPd; cases nPd), s47 _ _ hD, hus.same s47, ⟨[], (sPd.trans sT) _ _ hEd, .nil⟩, ⟨[], sT _ _ hPd, .nil⟩, hT⟩
    have b07 : SameBut src H HT := SameBut.trans b04 (Bx.Same.but s47)
    have fEd : H Ed = none := but_free b04 (src_ne A4 nEd).symm nEd
    have fPd : H Pd = none := but_free (SameBut.trans b04 (Bx.Same.but sEd)) (src_ne (src_same A4 sEd) nPd).symm nPd
    have fT : H T = none := but_free (SameBut.trans b04 (Bx.Same.but (sEd.trans sPd))) (src_ne (src_same A4 (sEd.trans sPd)) nT).symm nT
    clear s47 sEd sPd sT hEd hPd hT nEd nPd nT hD hus A4 b04
    dsimp only [gName]
    refine Go.st_ss (fun σ' H' => ∃ T', σ' = [some (.str x), some (.ref src), some (.int (n : Int)), some (.ref D), some (.ref Ed), some (.ref Pd), some (.ref T'), none, none, none, none, none] ∧ Bun H' src D Ed Pd T' us l (gasg x n) [] (grd x n) ∧ SameBut src H H' ∧ H T' = none) (fun D' hD' _ => ?_) ?_
    · walk_at "rd"
      tm_at "eqs x words nW"
      · subst nW
        walk_at "rd"
        obtain ⟨kvs, hk, kl, B1⟩ := B0.putE (z := Str.ofString "") (v := .int (n : Int)) (x := .num n) (fun h => by cases h) rfl
        refine ⟨Ed, _, rfl, DPut.k (k := .inr (Str.ofString "")) hk (szl (by rw [kl]; show 0 < 100000; decide)), ?_⟩
        have b8 := but_at (u := .dK (putK kvs (.inr (Str.ofString "")) (.int (n : Int)))) fEd b07
        generalize upd HT Ed _ = H8 at B1 b8 ⊢
        walk_at "rd"
        refine ⟨log31 (by omega), ?_⟩
        walk_at "rd"
        have ln := num_len31 (i := (n : Int)) (by omega)
        refine ⟨sz (by rw [show (Str.ofString "=").length = 1 by decide +kernel]; omega), ?_⟩
        walk_at "rd"
        tm_at "al T2"
        refine hD' _ HT2 ⟨T2, rfl, ⟨src_same B1.A sT2, B1.npl, src_ne B1.A nT2, (fun e => by rw [← e, B1.hpl] at nT2; cases nT2), B1.EP, sT2 _ _ B1.hpl, B1.hus.same sT2, ?_, B1.hP.same sT2, ?_⟩, SameBut.trans b8 (Bx.Same.but sT2), but_free b8 (src_ne B1.A nT2).symm nT2⟩
        · rw [show gasg (Str.ofString "words") n = [] ++ [(Str.ofString "", Va.num n)] from if_pos rfl]
          exact B1.hE.same sT2
        · rw [show grd (Str.ofString "words") n = [gnd n] from if_pos rfl]
          exact hT2
      · walk_at "rd"
        refine hD' _ HT ⟨T, rfl, ?_, b07, fT⟩
        rw [show gasg x n = [] from if_neg nW, show grd x n = [] from if_neg nW]
        exact B0
    rintro σ1 H5 ⟨T', rfl, B2, b5, fT'⟩
    clear B0 b07 fT
    -- the dicts
    have ul : us.length = l.length := B2.hus.len
    walk_at "rd"
    refine ⟨D, us, rfl, sq B2.hpl, fun Rv nRv => ?_⟩
    tm_at "gn Rv hRv"
    have B3 := B2.same sRv
    have b6 : SameBut src H HRv := SameBut.trans b5 (Bx.Same.but sRv)
    have nsR : src ≠ Rv := src_ne B2.A nRv
    clear B2 b5 sRv nRv
    have ndr : (l.reverse.map (·.1)).Nodup := by
      rw [List.map_reverse]
      exact (List.Perm.nodup_iff (List.reverse_perm _)).mpr ndl
    refine ⟨Rv, rfl, ⟨_, sq hRv⟩, for_it walk_list (fun i σ H' => ∃ o7 : Option V, σ = [some (.str x), some (.ref src), some (.int (n : Int)), some (.ref D), some (.ref Ed), some (.ref Pd), some (.ref T'), o7, none, none, none, none] ∧ Bun H' src D Ed Pd T' us l (gasg x n ++ l.reverse.take i) (l.reverse.take i) (grd x n) ∧ SameBut src H H' ∧ H' Rv = some (.lst us.reverse))
      ⟨none, rfl, by rw [List.take_zero, List.append_nil]; exact B3, b6, hRv⟩ (fun _ _ _ _ ⟨_, _, _, _, h⟩ => sq h) ?_ ?_⟩
    · rintro i y σ H6a H6 hi ⟨o7, rfl, B4, b7, hR6⟩ ⟨rfl, hy⟩
      obtain ⟨p, hp, r, v, rfl, hr, hv⟩ := all2_at (all2_rev B4.hus) hy
      have hpm : p ∈ l := List.mem_reverse.mp (List.mem_of_getElem? hp)
      have hnm := (gl.all p hpm).1
      have hz := nd_take ndr hp
      obtain ⟨kvs, hk, kl, B5⟩ := B4.putP hz hv
      walk_at "rd"
      refine ⟨_, _, _, _, rfl, rfl, sqt hr, atI_nat (j := 1) rfl, ?_⟩
      walk_at "rd"
      refine ⟨_, _, _, _, rfl, rfl, sqt hr, atI_nat (j := 0) rfl, ?_⟩
      have tl5 : (l.reverse.take i).length ≤ 4 := by
        have := gl.len
        rw [List.length_take, List.length_reverse]
        omega
      refine ⟨Pd, _, rfl, DPut.k (k := .inr p.1) hk (szl (by omega)), ?_⟩
      have hR7 : (upd H6 Pd (.dK (putK kvs (.inr p.1) v))) Rv = some (.lst us.reverse) := by
        rw [upd_ne (fun e => by rw [e, hk] at hR6; cases hR6)]
        exact hR6
      have hr7 : (upd H6 Pd (.dK (putK kvs (.inr p.1) v))) r = some (.tup [.str p.1, v]) := by
        rw [upd_ne (fun e => by rw [e, hk] at hr; cases hr)]
        exact hr
      have hv7 : VaAt (upd H6 Pd (.dK (putK kvs (.inr p.1) v))) v p.2 := hv.updD hk
      have b8 := but_at (u := .dK (putK kvs (.inr p.1) v)) fPd b7
      generalize upd H6 Pd _ = H7 at B5 hR7 hr7 hv7 b8 ⊢
      have hz2 : p.1 ∉ (gasg x n ++ l.reverse.take i).map (·.1) := by
        rw [List.map_append]
        intro h
        rcases List.mem_append.mp h with h | h
        · exact gasg_no hnm h
        · exact hz h
      obtain ⟨kvs2, hk2, kl2, B6⟩ := B5.putE hz2 hv7
      walk_at "rd"
      refine ⟨_, _, _, _, rfl, rfl, sqt hr7, atI_nat (j := 1) rfl, ?_⟩
      walk_at "rd"
      refine ⟨_, _, _, _, rfl, rfl, sqt hr7, atI_nat (j := 0) rfl, ?_⟩
      have gl1 : (gasg x n).length ≤ 1 := by
        unfold gasg
        split
        · exact Nat.le_refl _
        · exact Nat.zero_le _
      refine ⟨Ed, _, rfl, DPut.k (k := .inr p.1) hk2 (szl (by rw [kl2, List.length_append]; omega)), ?_⟩
      refine ⟨_, rfl, ?_, but_at (u := .dK (putK kvs2 (.inr p.1) v)) fEd b8, ?_⟩
      · rw [List.take_add_one, hp]
        rw [List.append_assoc] at B6
        exact B6
      · rw [upd_ne (fun e => by rw [e, hk2] at hR7; cases hR7)]
        exact hR7
    rintro σ2 H6 ⟨o7, rfl, B4, b7, _⟩
    rw [List.length_reverse, ul, show l.length = l.reverse.length from List.length_reverse.symm, List.take_length] at B4
    clear hRv B3 b6 nsR
    try dsimp only
    refine Go.st_co (fun H' => Bun H' src D Ed Pd T' us l (gasg x n ++ l.reverse) (l.reverse ++ gasg x n) (grd x n) ∧ SameBut src H H') (fun D' hD' _ => ?_) ?_
    · walk_at "rd"
      tm_at "eqs x words nW"
      · have hz : Str.ofString "" ∉ l.reverse.map (·.1) := fun h => by
          obtain ⟨p, hp, e⟩ := List.mem_map.mp h
          exact name_ne (gl.all p (List.mem_reverse.mp hp)).1 e
        obtain ⟨kvs, hk, kl, B5⟩ := B4.putP hz (v := .int (n : Int)) (x := .num n) rfl
        walk_at "rd"
        refine ⟨Pd, _, rfl, DPut.k (k := .inr (Str.ofString "")) hk (szl (by have := gl.len; rw [kl, List.length_reverse]; omega)), ?_⟩
        refine hD' _ ⟨?_, but_at (u := .dK (putK kvs (.inr (Str.ofString "")) (.int (n : Int)))) fPd b7⟩
        rw [show l.reverse ++ gasg x n = l.reverse ++ [(Str.ofString "", Va.num n)] by rw [show gasg x n = [(Str.ofString "", Va.num n)] from if_pos nW]]
        exact B5
      · walk_at "rd"
        refine hD' _ ⟨?_, b7⟩
        rw [show l.reverse ++ gasg x n = l.reverse by rw [show gasg x n = [] from if_neg nW, List.append_nil]]
        exact B4
    rintro H7 ⟨B5, b8⟩
    clear B4 b7
    walk_at "rd"
    refine draw_of (lim := 2) B5.A (by decide) fun r3 H8 d0 d1 b9 A8 => ?_
    have B6 := B5.but b9 A8
    walk_at "rd"
    refine ⟨⟨by decide, by decide, by decide⟩, ?_⟩
    walk_at "rd"
    refine draw_of (lim := 10 ^ 6) A8 (by decide) fun r4 H9 e0 e1 b10 A9 => ?_
    have B7 := B6.but b10 A9
    have b11 := (b8.trans b9).trans b10
    have hm : 0 ≤ r3 * r4 ∧ r3 * r4 < 10 ^ 6 := by
      have : r3 = 0 ∨ r3 = 1 := by omega
      rcases this with rfl | rfl
      · rw [Int.zero_mul]
        exact ⟨by decide, by decide⟩
      · rw [Int.one_mul]
        exact ⟨e0, e1⟩
    walk_at "rd"
    refine ⟨.inl ⟨by omega, by omega⟩, ?_⟩
    walk_at "rd"
    have hat : (1 + r3 * r4).natAbs.log2 < 1920 := log31 (by omega)
    obtain ⟨at_, e_at⟩ : ∃ a : Int, a = 1 + r3 * r4 := ⟨_, rfl⟩
    rw [← e_at] at hat
    clear hm B5 B6 b8 b9 b10 A8 A9 d0 d1 e0 e1
    have goodp : ∀ {i : Nat} {p : Str × Va}, l[i]? = some p → NameOk p.1 ∧ GoodVa x n p.2 := fun h => gl.all _ (List.mem_of_getElem? h)
    refine ⟨⟨_, sq B7.hpl⟩, for_it walk_list (fun i σ H' => ∃ o7 o9 o10 : Option V, σ = [some (.str x), some (.ref src), some (.int (n : Int)), some (.ref D), some (.ref Ed), some (.ref Pd), some (.ref T'), o7, some (.int at_), o9, o10, none] ∧ Bun H' src D Ed Pd T' us l (gasg x n ++ l.reverse) (l.reverse ++ gasg x n) (grd x n ++ (l.take i).map tk) ∧ SameBut src H H')
      ⟨o7, none, none, (by rw [e_at]; rfl), by rw [List.take_zero, List.map_nil, List.append_nil]; exact B7, b11⟩ (fun _ _ _ _ ⟨_, _, _, _, B, _⟩ => sq B.hpl) ?_ ?_⟩
    · rintro i y σ H10a H10 hi ⟨o7, o9, o10, rfl, B8, b12⟩ ⟨rfl, hy⟩
      obtain ⟨p, hp, r, v0, rfl, _, _⟩ := all2_at B8.hus hy
      obtain ⟨hnm, hgv⟩ := goodp hp
      have pr : ∀ {Hx : Hp} {le lp : Asg} {ts : List Str}, Bun Hx src D Ed Pd T' us l le lp ts → ∃ v, Hx r = some (.tup [.str p.1, v]) ∧ VaAt Hx v p.2 := fun {Hx le lp ts} B => by
        obtain ⟨p2, hp2, r2, v2, e2, h1, h2⟩ := all2_at B.hus hy
        rw [hp] at hp2
        cases hp2
        cases e2
        exact ⟨v2, h1, h2⟩
      have lt := good_len hgv hn8
      have ltk : (grd x n ++ (l.take i).map tk).length ≤ 5 := by
        have := grd_len x n
        have := gl.len
        rw [List.length_append, List.length_map, List.length_take]
        omega
      have tch : ∀ d ∈ tl (txtV p.2), d < 0x110000 := fun d hd => by
        have := good_ch hgv d hd
        omega
      obtain ⟨v, hr, hv⟩ := pr B8
      walk_at "rd"
      refine ⟨_, _, _, _, rfl, rfl, sqt hr, atI_nat (j := 1) rfl, ?_⟩
      walk_at "rd"
      unfold spVText
      refine ⟨x, v, p.2, rfl, hv, hgv.ok hn8, fun H11 s11 => ?_⟩
      have B9 := B8.same s11
      have b13 : SameBut src H H11 := SameBut.trans b12 (Bx.Same.but s11)
      clear hr hv B8 b12
      obtain ⟨v, hr, hv⟩ := pr B9
      walk_at "rd"
      refine ⟨.inl ⟨rfl, _, sq B9.hT⟩, ?_⟩
      walk_at "rd"
      refine ⟨_, _, _, _, rfl, rfl, sqt hr, atI_nat (j := 0) rfl, ?_⟩
      walk_at "rd"
      have l17 := hnm.2.1
      refine ⟨sz (by rw [show (Str.ofString "=").length = 1 by decide +kernel]; omega), ?_⟩
      walk_at "rd"
      refine ⟨sz (by rw [app_len, show (Str.ofString "=").length = 1 by decide +kernel]; omega), ?_⟩
      refine ⟨T', _, _, rfl, rfl, B9.hT, szl (by rw [List.length_map]; omega), ?_⟩
      have B10 := B9.addT (tk p)
      have b14 := but_at (u := .lst ((grd x n ++ (l.take i).map tk).map V.str ++ [V.str (tk p)])) fT' b13
      have ets : grd x n ++ (l.take i).map tk ++ [tk p] = grd x n ++ (l.take (i + 1)).map tk := by
        rw [List.take_add_one, hp, List.map_append, List.append_assoc]
        rfl
      rw [ets] at B10
      clear hr hv B9 b13
      change Bun (upd H11 T' (.lst ((grd x n ++ (l.take i).map tk).map V.str ++ [V.str (p.1 ++ Str.ofString "=" ++ txtV p.2)]))) _ _ _ _ _ _ _ _ _ _ at B10
      change SameBut src H (upd H11 T' (.lst ((grd x n ++ (l.take i).map tk).map V.str ++ [V.str (p.1 ++ Str.ofString "=" ++ txtV p.2)]))) at b14
      generalize upd H11 T' _ = H12 at B10 b14 ⊢
      obtain ⟨v, hr, hv⟩ := pr B10
      walk_at "rd"
      refine ⟨_, _, _, _, rfl, rfl, sqt hr, atI_nat (j := 1) rfl, ?_⟩
      walk_at "rd"
      unfold spFormat
      refine ⟨x, v, p.2, rfl, hv, hgv.ok hn8, fun H13 s13 => ?_⟩
      have B11 := B10.same s13
      have b15 : SameBut src H H13 := SameBut.trans b14 (Bx.Same.but s13)
      clear hr hv B10 b14
      walk_at "rd"
      refine ⟨_, _, .let (txtV p.2), rfl, rfl, rfl, True.intro, fun H14 s14 => ?_⟩
      have B12 := B11.same s14
      have b16 : SameBut src H H14 := SameBut.trans b15 (Bx.Same.but s14)
      clear B11 b15
      walk_at "rd"
      unfold spLReadV
      refine ⟨x, txtV p.2, at_, rfl, by omega, tch, hat, fun _ u H15 s15 hu15 => ?_, fun hk => absurd hk (by rw [(good_reads hgv).1]; decide)⟩
      rw [(good_reads hgv).2] at hu15
      have B13 := B12.same s15
      have b17 : SameBut src H H15 := SameBut.trans b16 (Bx.Same.but s15)
      clear B12 b16
      obtain ⟨v, hr, hv⟩ := pr B13
      walk_at "rd"
      refine ⟨_, _, _, _, rfl, rfl, sqt hr, atI_nat (j := 1) rfl, ?_⟩
      refine ⟨u, v, p.2, rfl, hu15, hv, (by cases p.2 <;> first | exact True.intro | (show 1 ≤ 2; decide)), fun H16 s16 => ?_⟩
      have B14 := B13.same s16
      have b18 : SameBut src H H16 := SameBut.trans b17 (Bx.Same.but s16)
      clear hr hv hu15 B13 b17
      obtain ⟨v, hr, hv⟩ := pr B14
      walk_at "rd"
      refine ⟨_, _, _, _, rfl, rfl, sqt hr, atI_nat (j := 1) rfl, ?_⟩
      walk_at "rd"
      unfold spBad
      refine ⟨x, src, v, n, p.2, rfl, B14.A, hv, hgv, hn8, fun z H17 b19 A17 hz => ?_⟩
      have B15 := B14.but b19 A17
      have b20 := b18.trans b19
      clear hr hv B14 b18 b19 A17
      walk_at "rd"
      tm_at "eqs x words nW"
      · walk_at "rd"
        exact ⟨_, _, _, rfl, B15, b20⟩
      · walk_at "rd"
        have hbad : okVal x z = false := by
          have := hz.1
          unfold Bad at this
          rwa [if_neg nW] at this
        refine ⟨x, z, at_, rfl, by have := hz.2.2; omega, fun d hd => by have := hz.2.1 d hd; omega, hat, fun hk => absurd hk (by rw [hbad]; decide), fun _ r5 H18 s18 hr5 => ?_⟩
        walk_at "rd"
        tm_at "al M"
        refine ⟨_, _, dp_refused (sM _ _ hr5), dp_refused hM, shape lay_refused (by decide), shape lay_refused (by decide), ?_⟩
        rw [eq_refl lay_refused]
        walk_at "rd"
        exact ⟨_, _, _, rfl, B15.same (s18.trans sM), SameBut.trans b20 (Bx.Same.but (s18.trans sM))⟩
    rintro σ3 H10 ⟨o7, o9, o10, rfl, B8, b12⟩
    rw [ul, List.take_length] at B8
    have B8 : Bun H10 src D Ed Pd T' us l (gasg x n ++ l.reverse) (l.reverse ++ gasg x n) (texts x n l) := B8
    clear B7 b11
    have tokT := gl.tok
    have ll4 := gl.len
    have lenT : (texts x n l).length ≤ 5 := by
      have := grd_len x n
      unfold texts
      rw [List.length_append, List.length_map]
      omega
    have hbnd := bnd (fun t h => (tokT t h).1) (show (texts x n l).length ≤ 20 by omega)
    obtain ⟨js1, js2⟩ := joinT_small fun t h => (tokT t h).1
    obtain ⟨ga1, ga2⟩ := good_asg gl
    have gll := gasg_len x n
    have pm1 : (gasg x n ++ l).Perm (l.reverse ++ gasg x n) := (List.Perm.append_left _ (List.reverse_perm l).symm).trans List.perm_append_comm
    have pm2 : (l.reverse ++ gasg x n).Perm (gasg x n ++ l.reverse) := List.perm_append_comm
    have gasc := gasg_asc gl
    have gall := gasg_all gl
    have nd1 : ((gasg x n ++ l).map (·.1)).Nodup := asc_nodup gasc
    have nd2 : ((l.reverse ++ gasg x n).map (·.1)).Nodup := (pm1.map (·.1)).nodup_iff.mp nd1
    have gl5 : (l.reverse ++ gasg x n).length ≤ 20 := by
      rw [List.length_append, List.length_reverse]
      omega
    have gl6 : (gasg x n ++ l).length ≤ 20 := by
      rw [List.length_append]
      omega
    walk_at "rd"
    unfold spFormatA
    refine ⟨x, Pd, l.reverse ++ gasg x n, gasg x n ++ l, rfl, B8.hP, gl5, nd2, pm1, gasc, fun p hp => ?_, fun H11 s11 => ?_⟩
    · obtain ⟨g1, g2, g3, _⟩ := gall p (pm1.mem_iff.mpr hp)
      exact ⟨g1, g2, g3⟩
    rw [asgT_eq]
    have B9 := B8.same s11
    have b13 : SameBut src H H11 := SameBut.trans b12 (Bx.Same.but s11)
    clear B8 b12
    walk_at "rd"
    refine ⟨_, _, texts x n l, rfl, rfl, .inl (sq B9.hT), hbnd, ?_⟩
    refine ⟨_, _, .let (joinT (texts x n l)), rfl, rfl, rfl, True.intro, fun H12 s12 => ?_⟩
    have B10 := B9.same s12
    have b14 : SameBut src H H12 := SameBut.trans b13 (Bx.Same.but s12)
    clear B9 b13
    walk_at "rd"
    unfold spSame
    refine ⟨Pd, Ed, _, _, rfl, B10.EP.symm, B10.hP, B10.hE, pm2, nd2, gl5, fun p hp => (gall p (pm1.mem_iff.mpr hp)).2.2.2, fun H13 s13 => ?_⟩
    have B11 := B10.same s13
    have b15 : SameBut src H H13 := SameBut.trans b14 (Bx.Same.but s13)
    clear B10 b14
    walk_at "rd"
    refine ⟨_, _, texts x n l, rfl, rfl, .inl (sq B11.hT), hbnd, ?_⟩
    walk_at "rd"
    unfold spLRead
    refine ⟨x, joinT (texts x n l), at_, rfl, by omega, js2, hat, fun _ r5 H14 s14 n5 hr5 => ?_, fun hk => absurd hk (by rw [ga1]; decide)⟩
    rw [ga2] at hr5
    have n5E : r5 ≠ Ed := fun e => by
      obtain ⟨ws, hw, _⟩ := B11.hE
      rw [← e, n5] at hw
      cases hw
    have B12 := B11.same s14
    have b16 : SameBut src H H14 := SameBut.trans b15 (Bx.Same.but s14)
    clear B11 b15
    walk_at "rd"
    refine ⟨r5, Ed, gasg x n ++ l, _, rfl, n5E, hr5, B12.hE, pm1.trans pm2, nd1, gl6, fun p hp => (gall p hp).2.2.2, fun H15 s15 => ?_⟩
    have B13 := B12.same s15
    have b17 : SameBut src H H15 := SameBut.trans b16 (Bx.Same.but s15)
    clear B12 b16 hr5
    walk_at "rd"
    unfold spSpoilt
    refine ⟨src, D, T', x, n, l, us, rfl, B13.A, B13.npl, B13.nT, B13.hpl, B13.hus, B13.hT, gl, fun z H16 b18 A16 hz => ?_⟩
    have b19 := b17.trans b18
    walk_at "rd"
    refine ⟨x, z, at_, rfl, hz.2.1, hz.2.2, hat, fun hk => absurd hk (by rw [hz.1]; decide), fun _ r6 H17 s17 hr6 => ?_⟩
    walk_at "rd"
    tm_at "al M"
    refine ⟨_, _, dp_refused (sM _ _ hr6), dp_refused hM, shape lay_refused (by decide), shape lay_refused (by decide), ?_⟩
    rw [eq_refl lay_refused]
    exact q HM (SameBut.trans b19 (Bx.Same.but (s17.trans sM)))
def spLaw (K : PySem.W.Frag) : Sp := fun vs H Q _ => ∃ (a : Addr) (ns : List Int), vs = [.ref a] ∧ SqL K H a (ns.map V.int) ∧ ns.length ≤ 63 ∧ ∀ H', Q (.bl true) H'
theorem ok_law {f : Addr} {fd : FuncData} (F : Fun K "law" "law" s_law f fd) (m_range : mg "range" = none) (C__law_source : Cal P w K mg base "_law_source" 1 ["_law_script", "_law_k"] (spSource K)) (C__law_right : Cal P w K mg base "_law_right" 10 ["_law_word", "_law_source_here"] spRight) : FnOk P w K mg base CX0 11 f fd ["_law_script"] (spLaw K) := by
  refine F.ok sc_law (fun vs H Q E h => ?_) (fun cdv A outer s H vs Q E hr h => ?_)
  · obtain ⟨a, ns, rfl, _⟩ := h
    rfl
  · obtain ⟨a, ns, rfl, hS, _, q⟩ := h
    refine ⟨_, (pss_cons (ps_set (i := 1) sc_law.nd rfl (Or.inl rfl) (pe_lst (pa_cons pe_str (pa_cons pe_str (pa_cons pe_str (pa_cons pe_str (pa_cons pe_str (pa_cons pe_str pa_nil))))))))
    (pss_cons (ps_for PassesOwn.never rfl (pi_range1 (by rfl) m_range (pa_cons pe_int pa_nil)) (pg_name (i := 2) sc_law.nd rfl (Or.inl rfl))
      (pss_one (ps_if (pt_not (pt_val (pe_cal C__law_right (hr.mono (by decide)) (pa_cons (pe_ix ix_list (pv 1) (pv 2) (fun _ _ => rfl)) (pa_cons (pe_cal C__law_source (hr.mono (by decide)) (pa_cons (pv 0) (pa_cons (pv 2) pa_nil))) pa_nil)))))
      (pss_one (ps_ret pe_bl))
      pss_nil)))
    (pss_one (ps_ret pe_bl)))), ?_⟩
    walk_at "rd"
    tm_at "al W"
    refine ⟨by decide, by decide, for_it walk_range (fun i σ H' => ∃ o2 : Option V, σ = [some (.ref a), some (.ref W), o2] ∧ Same HW H') ⟨none, rfl, Same.refl HW⟩ (fun _ _ _ _ _ => trivial) ?_ ?_⟩
    · rintro i y σ H1a H1 hi ⟨o2, rfl, s1⟩ ⟨rfl, rfl⟩
      walk_at "rd"
      obtain ⟨v, hv, hm⟩ := at_of (xs := [V.str (Str.ofString "bits"), V.str (Str.ofString "steps"), V.str (Str.ofString "lines"), V.str (Str.ofString "wholes"), V.str (Str.ofString "rows"), V.str (Str.ofString "words")]) (r := 0 + (i : Int)) (by omega) (by show 0 + (i : Int) < 6; omega)
      obtain ⟨z, rfl⟩ : ∃ z, v = .str z := by
        simp only [List.mem_cons, List.not_mem_nil, or_false] at hm
        rcases hm with rfl | rfl | rfl | rfl | rfl | rfl <;> exact ⟨_, rfl⟩
      refine ⟨_, _, _, _, rfl, rfl, sq (s1 _ _ hW), hv, ?_⟩
      walk_at "rd"
      refine ⟨a, ns, i, (by show [V.ref a, V.int (0 + (i : Int))] = _; rw [Int.zero_add]), Same.seq (sW.trans s1) hS, by omega, fun p n c np => ?_⟩
      walk_at "rd"
      unfold spRight
      refine ⟨z, p, rfl, ⟨n, c, upd_same⟩, fun H2 b2 => ?_⟩
      walk_at "rd"
      refine fun e o h => ?_
      have h1 := s1 e o h
      have ne := ne_of_none h1 np
      exact b2 e o ne (by rw [upd_ne ne]; exact h1)
    · rintro σ H1 ⟨o2, rfl, s1⟩
      walk_at "rd"
      exact q H1
end
end K06
namespace K06
open PySem PySem.Spec PyProof.Rows L2 Bx TL Dx Zx Sup Er NdefX Px
theorem kit_t {K : PySem.W.Frag} {C D : Addr} {cd : ClassData} (c : PySem.W.clsIn K D = some cd) (t : PySem.W.typeIn K (.ref D) = some (.type "type")) (s : PySem.W.subIn K (.ref C) (.ref D) = some true) : PySem.W.kitOne K (.ref C) (.ref D) = some true := by
  unfold PySem.W.kitOne PySem.W.kitCls
  split
  · rfl
  · show (if ((PySem.W.clsIn K D).isSome && PySem.W.typeIn K (.ref D) == some (.type "type")) = true then PySem.W.subIn K (.ref C) (.ref D) else none) = _
    rw [if_pos (by rw [c, t]; rfl)]
    exact s
theorem kit_exm {K : PySem.W.Frag} {C : Addr} {cd : ClassData} (b : PySem.W.subIn K (.ref C) (.type "BaseException") = some true) (c : PySem.W.clsIn K C = some cd) (t : PySem.W.typeIn K (.ref C) = some (.type "type")) (s : PySem.W.subIn K (.ref C) (.ref C) = some true) : PySem.W.exmOne K (.ref C) (.ref C) = some true := by
  show (if (PySem.W.subIn K (.ref C) (.type "BaseException") == some true) = true then (if ((PySem.W.clsIn K C).isSome && PySem.W.typeIn K (.ref C) == some (.type "type")) = true then PySem.W.subIn K (.ref C) (.ref C) else none) else none) = _
  rw [if_pos (by rw [b]; rfl), if_pos (by rw [c, t]; rfl)]
  exact s
theorem kit_f {K : PySem.W.Frag} {C D : Addr} {cd : ClassData} (ss : PySem.W.subIn K (.ref C) (.ref C) = some true) (c : PySem.W.clsIn K D = some cd) (t : PySem.W.typeIn K (.ref D) = some (.type "type")) (s : PySem.W.subIn K (.ref C) (.ref D) = some false) : PySem.W.kitOne K (.ref C) (.ref D) = some false := by
  unfold PySem.W.kitOne PySem.W.kitCls
  split
  · rename_i h
    have e : Value.ref C = Value.ref D := eq_of_beq h
    rw [← e, ss] at s
    cases s
  · show (if ((PySem.W.clsIn K D).isSome && PySem.W.typeIn K (.ref D) == some (.type "type")) = true then PySem.W.subIn K (.ref C) (.ref D) else none) = _
    rw [if_pos (by rw [c, t]; rfl)]
    exact s
theorem kit_v {K : PySem.W.Frag} {C : Addr} (s : PySem.W.subIn K (.ref C) (.type "ValueError") = some true) : PySem.W.kitOne K (.ref C) (.type "ValueError") = some true := by
  unfold PySem.W.kitOne PySem.W.kitCls
  split
  · rfl
  · show (if PySem.W.kitMeta "ValueError" = true then PySem.W.subIn K (.ref C) (.type "ValueError") else none) = _
    rw [if_pos (by decide +kernel)]
    exact s
theorem exm_f {K : PySem.W.Frag} {C D : Addr} {cd : ClassData} (b : PySem.W.subIn K (.ref D) (.type "BaseException") = some true) (c : PySem.W.clsIn K D = some cd) (t : PySem.W.typeIn K (.ref D) = some (.type "type")) (s : PySem.W.subIn K (.ref C) (.ref D) = some false) : PySem.W.exmOne K (.ref C) (.ref D) = some false := by
  show (if (PySem.W.subIn K (.ref D) (.type "BaseException") == some true) = true then (if ((PySem.W.clsIn K D).isSome && PySem.W.typeIn K (.ref D) == some (.type "type")) = true then PySem.W.subIn K (.ref C) (.ref D) else none) else none) = _
  rw [if_pos (by rw [b]; rfl), if_pos (by rw [c, t]; rfl)]
  exact s
set_option maxHeartbeats 8000000 in
theorem all_mk {l : PySem.W.OpenLaw} {w : World} {K : PySem.W.Frag} {h : Heap} {mg : Str → Option Value} {fa : Addr} (X : K.In h) (G : h.Ns mainGlobals mg) (hfa : mg "law" = some (.ref fa))
    {CI : Addr}
    {fICI ccCI cdaCI : Addr} {ocCI kVCI dcCI pmCI ctCI clCI cclCI : Value} {odCI anCI cldCI cddCI : Option Addr} {oslCI cslCI ccsCI : Array (Option Value)} {vsCI : Array Value} {fileCI : Str} {tfCI : Tok} {nmCI qCI : Str} {ACI : Addr} {bsCI bmCI : List Value} {snCI : List Str} {subCI : List Value} {abCI : Bool} {colCI : Option Bool} {ddCI : Option Addr} {k0CI k1CI k2CI k3CI k5CI : Option Value}
    {cdCI : ClassData}
    {f_is_number : Addr} {oc_is_number kV_is_number dc_is_number pm_is_number cd_is_number ct_is_number : Value} {od_is_number an_is_number : Option Addr} {sl_is_number : Array (Option Value)}
    {t_DIGITS : Tok}
    {f_parse_number : Addr} {oc_parse_number dc_parse_number pm_parse_number cd_parse_number ct_parse_number : Value} {od_parse_number an_parse_number : Option Addr} {sl_parse_number : Array (Option Value)} {kd_parse_number : Addr} {tk_parse_number : Tok}
    {f_is_name : Addr} {oc_is_name kV_is_name dc_is_name pm_is_name cd_is_name ct_is_name : Value} {od_is_name an_is_name : Option Addr} {sl_is_name : Array (Option Value)}
    {t_LONGEST : Tok}
    {t_LETTERS : Tok}
    {t_LETTERS_AND_DIGITS : Tok}
    {f_is_full_name : Addr} {oc_is_full_name kV_is_full_name dc_is_full_name pm_is_full_name cd_is_full_name ct_is_full_name : Value} {od_is_full_name an_is_full_name : Option Addr} {sl_is_full_name : Array (Option Value)}
    {f_is_ascending : Addr} {oc_is_ascending kV_is_ascending dc_is_ascending pm_is_ascending cd_is_ascending ct_is_ascending : Value} {od_is_ascending an_is_ascending : Option Addr} {sl_is_ascending : Array (Option Value)}
    {f_are_full_names : Addr} {oc_are_full_names kV_are_full_names dc_are_full_names pm_are_full_names cd_are_full_names ct_are_full_names : Value} {od_are_full_names an_are_full_names : Option Addr} {sl_are_full_names : Array (Option Value)}
    {f_parse_names : Addr} {oc_parse_names dc_parse_names pm_parse_names cd_parse_names ct_parse_names : Value} {od_parse_names an_parse_names : Option Addr} {sl_parse_names : Array (Option Value)} {kd_parse_names : Addr} {tk_parse_names : Tok}
    {f__parse_small : Addr} {oc__parse_small kV__parse_small dc__parse_small pm__parse_small cd__parse_small ct__parse_small : Value} {od__parse_small an__parse_small : Option Addr} {sl__parse_small : Array (Option Value)}
    {f__parse_letters : Addr} {oc__parse_letters kV__parse_letters dc__parse_letters pm__parse_letters cd__parse_letters ct__parse_letters : Value} {od__parse_letters an__parse_letters : Option Addr} {sl__parse_letters : Array (Option Value)}
    {f__parse_fraction : Addr} {oc__parse_fraction kV__parse_fraction dc__parse_fraction pm__parse_fraction cd__parse_fraction ct__parse_fraction : Value} {od__parse_fraction an__parse_fraction : Option Addr} {sl__parse_fraction : Array (Option Value)}
    {f_parse_value : Addr} {oc_parse_value dc_parse_value pm_parse_value cd_parse_value ct_parse_value : Value} {od_parse_value an_parse_value : Option Addr} {sl_parse_value : Array (Option Value)} {kd_parse_value : Addr} {tk_parse_value : Tok}
    {f_format_value : Addr} {oc_format_value kV_format_value dc_format_value pm_format_value cd_format_value ct_format_value : Value} {od_format_value an_format_value : Option Addr} {sl_format_value : Array (Option Value)}
    {f__format_entry : Addr} {oc__format_entry kV__format_entry dc__format_entry pm__format_entry cd__format_entry ct__format_entry : Value} {od__format_entry an__format_entry : Option Addr} {sl__format_entry : Array (Option Value)}
    {f__parse_entries : Addr} {oc__parse_entries kV__parse_entries dc__parse_entries pm__parse_entries cd__parse_entries ct__parse_entries : Value} {od__parse_entries an__parse_entries : Option Addr} {sl__parse_entries : Array (Option Value)}
    {f_format_assignment : Addr} {oc_format_assignment kV_format_assignment dc_format_assignment pm_format_assignment cd_format_assignment ct_format_assignment : Value} {od_format_assignment an_format_assignment : Option Addr} {sl_format_assignment : Array (Option Value)}
    {f__parse_grounded : Addr} {oc__parse_grounded kV__parse_grounded dc__parse_grounded pm__parse_grounded cd__parse_grounded ct__parse_grounded : Value} {od__parse_grounded an__parse_grounded : Option Addr} {sl__parse_grounded : Array (Option Value)}
    {f_parse_assignment : Addr} {oc_parse_assignment dc_parse_assignment pm_parse_assignment cd_parse_assignment ct_parse_assignment : Value} {od_parse_assignment an_parse_assignment : Option Addr} {sl_parse_assignment : Array (Option Value)} {kd_parse_assignment : Addr} {tk_parse_assignment : Tok}
    {f__law_source : Addr} {oc__law_source kV__law_source dc__law_source pm__law_source cd__law_source ct__law_source : Value} {od__law_source an__law_source : Option Addr} {sl__law_source : Array (Option Value)}
    {f__law_draw : Addr} {oc__law_draw kV__law_draw dc__law_draw pm__law_draw cd__law_draw ct__law_draw : Value} {od__law_draw an__law_draw : Option Addr} {sl__law_draw : Array (Option Value)}
    {f__law_names : Addr} {oc__law_names kV__law_names dc__law_names pm__law_names cd__law_names ct__law_names : Value} {od__law_names an__law_names : Option Addr} {sl__law_names : Array (Option Value)}
    {f__law_fraction : Addr} {oc__law_fraction kV__law_fraction dc__law_fraction pm__law_fraction cd__law_fraction ct__law_fraction : Value} {od__law_fraction an__law_fraction : Option Addr} {sl__law_fraction : Array (Option Value)}
    {f__law_value : Addr} {oc__law_value kV__law_value dc__law_value pm__law_value cd__law_value ct__law_value : Value} {od__law_value an__law_value : Option Addr} {sl__law_value : Array (Option Value)}
    {f__law_value_text : Addr} {oc__law_value_text kV__law_value_text dc__law_value_text pm__law_value_text cd__law_value_text ct__law_value_text : Value} {od__law_value_text an__law_value_text : Option Addr} {sl__law_value_text : Array (Option Value)}
    {f__law_bad_value : Addr} {oc__law_bad_value kV__law_bad_value dc__law_bad_value pm__law_bad_value cd__law_bad_value ct__law_bad_value : Value} {od__law_bad_value an__law_bad_value : Option Addr} {sl__law_bad_value : Array (Option Value)}
    {f__law_spoilt : Addr} {oc__law_spoilt kV__law_spoilt dc__law_spoilt pm__law_spoilt cd__law_spoilt ct__law_spoilt : Value} {od__law_spoilt an__law_spoilt : Option Addr} {sl__law_spoilt : Array (Option Value)}
    {f__law_equal : Addr} {oc__law_equal kV__law_equal dc__law_equal pm__law_equal cd__law_equal ct__law_equal : Value} {od__law_equal an__law_equal : Option Addr} {sl__law_equal : Array (Option Value)}
    {f__law_read : Addr} {oc__law_read kV__law_read dc__law_read pm__law_read cd__law_read ct__law_read : Value} {od__law_read an__law_read : Option Addr} {sl__law_read : Array (Option Value)}
    {f__law_read_value : Addr} {oc__law_read_value kV__law_read_value dc__law_read_value pm__law_read_value cd__law_read_value ct__law_read_value : Value} {od__law_read_value an__law_read_value : Option Addr} {sl__law_read_value : Array (Option Value)}
    {f__law_same : Addr} {oc__law_same kV__law_same dc__law_same pm__law_same cd__law_same ct__law_same : Value} {od__law_same an__law_same : Option Addr} {sl__law_same : Array (Option Value)}
    {f__law_right : Addr} {oc__law_right kV__law_right dc__law_right pm__law_right cd__law_right ct__law_right : Value} {od__law_right an__law_right : Option Addr} {sl__law_right : Array (Option Value)}
    {f_law : Addr} {oc_law kV_law dc_law pm_law cd_law ct_law : Value} {od_law an_law : Option Addr} {sl_law : Array (Option Value)}
    (aCI : PySem.W.nsIn K mainGlobals "InvalidText" = some (some (.ref CI)))
    (sp_ : PySem.W.specialIn K (.builtin "object.__class__") "__get__" = some (some (.builtin "getset_descriptor.__get__")))
    (tk_ : PySem.W.takesIn K (.builtin "object.__class__") = some true)
    (gaCI : PySem.W.findIn K (.ref CI) "__getattribute__" = some (some (.builtin "BaseException.__getattribute__")))
    (ggCI : PySem.W.findIn K (.ref CI) "__getattr__" = some none)
    (bbCI : PySem.W.subIn K (.ref CI) (.type "BaseException") = some true)
    (hxCI : PySem.W.hasDictIn K CI = true)
    (gcCI : PySem.W.findIn K (.ref CI) "__class__" = some (some (.builtin "object.__class__")))
    (moCI : PySem.W.mroIn K CI (.type "object") = some true)
    (p_top : (l.prog.main.scope.names.lookup ("super" : Str)).isSome = false)
    (z_super : PySem.W.nsIn K mainGlobals "super" = some none)
    (any_ : PySem.W.nsIn K cStatics "thirdparty.any" = some none)
    (cfCI : PySem.W.clsIn K CI = some cdCI)
    (ttCI : PySem.W.typeIn K (.ref CI) = some (.type "type"))
    (ssCI : PySem.W.subIn K (.ref CI) (.ref CI) = some true)
    (l_CCI : K.lookup CI = some (excClassObj nmCI qCI CI ACI bsCI bmCI true snCI subCI abCI colCI ddCI k0CI k1CI k2CI k3CI k5CI "ValueError.__new__"))
    (r_CCI : PySem.HandSPX.refsVE bmCI = true)
    (sa_CCI : PySem.W.findIn K (.ref CI) "__setattr__" = some (some (.builtin "object.__setattr__")))
    (kp_CCI : PySem.W.keepIn K (.ref CI) = true)
    (i_CCI : PySem.W.findIn K (.ref CI) "__init__" = some (some (.ref fICI)))
    (t_fICI : PySem.W.typeIn K (.ref fICI) = some (.type "function"))
    (l_fICI : K.lookup fICI = some ⟨ocCI, odCI, .func (PySem.W.fnX "__init__" "InvalidText.__init__" (defArgs s_InvalidText___init__) (defBody s_InvalidText___init__) (defScope s_InvalidText___init__) [(("__class__" : Str), ccCI)] .none kVCI dcCI pmCI anCI (.ref cdaCI) ctCI), oslCI⟩)
    (c_fICI : PySem.W.codeIn K (.ref cdaCI) "InvalidText.__init__" = true)
    (l_ccCI : K.lookup ccCI = some ⟨clCI, cldCI, .cell (some (.ref CI)), cslCI⟩)
    (l_cdaCI : K.lookup cdaCI = some ⟨cclCI, cddCI, .fields vsCI, ccsCI⟩)
    (v_cdaCI : vsCI[2]? = some (.str fileCI tfCI))
    (p_fileCI : ((l.prog.main.file : Str) == fileCI) = true)
    (m_CCI : PySem.W.mroIn K CI (.ref CI) = some true)
    (s_CCI : PySem.W.ks_superIn K CI CI "__init__" = some (some (.builtin "ValueError.__init__")))
    (no_CCI : PySem.W.findIn K (.ref CI) "line" = some none)
    (veCI : PySem.W.subIn K (.ref CI) (.type "ValueError") = some true)
    (z_gcd : PySem.W.nsIn K mainGlobals "gcd" = some (some (.builtin "math.gcd")))
    (a_is_number : PySem.W.nsIn K mainGlobals "is_number" = some (some (.ref f_is_number)))
    (l_is_number : K.lookup f_is_number = some ⟨oc_is_number, od_is_number, .func (PySem.W.fnOf "is_number" "is_number" (defArgs s_is_number) (defBody s_is_number) (defScope s_is_number) .none kV_is_number dc_is_number pm_is_number an_is_number cd_is_number ct_is_number), sl_is_number⟩)
    (c_is_number : PySem.W.codeIn K cd_is_number "is_number" = true)
    (k_is_number : PySem.W.keepIn K (.ref f_is_number) = true)
    (z_DIGITS : PySem.W.nsIn K mainGlobals "DIGITS" = some (some (.str (Str.ofString "0123456789") t_DIGITS)))
    (a_parse_number : PySem.W.nsIn K mainGlobals "parse_number" = some (some (.ref f_parse_number)))
    (l_parse_number : K.lookup f_parse_number = some ⟨oc_parse_number, od_parse_number, .func (PySem.W.fnOf "parse_number" "parse_number" (defArgs s_parse_number) (defBody s_parse_number) (defScope s_parse_number) .none (.ref kd_parse_number) dc_parse_number pm_parse_number an_parse_number cd_parse_number ct_parse_number), sl_parse_number⟩)
    (c_parse_number : PySem.W.codeIn K cd_parse_number "parse_number" = true)
    (k_parse_number : PySem.W.keepIn K (.ref f_parse_number) = true)
    (kw_parse_number : PySem.W.nsIn K kd_parse_number "line" = some (some (.int 1 tk_parse_number)))
    (a_is_name : PySem.W.nsIn K mainGlobals "is_name" = some (some (.ref f_is_name)))
    (l_is_name : K.lookup f_is_name = some ⟨oc_is_name, od_is_name, .func (PySem.W.fnOf "is_name" "is_name" (defArgs s_is_name) (defBody s_is_name) (defScope s_is_name) .none kV_is_name dc_is_name pm_is_name an_is_name cd_is_name ct_is_name), sl_is_name⟩)
    (c_is_name : PySem.W.codeIn K cd_is_name "is_name" = true)
    (k_is_name : PySem.W.keepIn K (.ref f_is_name) = true)
    (z_LONGEST : PySem.W.nsIn K mainGlobals "LONGEST" = some (some (.int 8 t_LONGEST)))
    (z_LETTERS : PySem.W.nsIn K mainGlobals "LETTERS" = some (some (.str (Str.ofString "abcdefghijklmnopqrstuvwxyz") t_LETTERS)))
    (z_LETTERS_AND_DIGITS : PySem.W.nsIn K mainGlobals "LETTERS_AND_DIGITS" = some (some (.str (Str.ofString "abcdefghijklmnopqrstuvwxyz0123456789") t_LETTERS_AND_DIGITS)))
    (a_is_full_name : PySem.W.nsIn K mainGlobals "is_full_name" = some (some (.ref f_is_full_name)))
    (l_is_full_name : K.lookup f_is_full_name = some ⟨oc_is_full_name, od_is_full_name, .func (PySem.W.fnOf "is_full_name" "is_full_name" (defArgs s_is_full_name) (defBody s_is_full_name) (defScope s_is_full_name) .none kV_is_full_name dc_is_full_name pm_is_full_name an_is_full_name cd_is_full_name ct_is_full_name), sl_is_full_name⟩)
    (c_is_full_name : PySem.W.codeIn K cd_is_full_name "is_full_name" = true)
    (k_is_full_name : PySem.W.keepIn K (.ref f_is_full_name) = true)
    (a_is_ascending : PySem.W.nsIn K mainGlobals "is_ascending" = some (some (.ref f_is_ascending)))
    (l_is_ascending : K.lookup f_is_ascending = some ⟨oc_is_ascending, od_is_ascending, .func (PySem.W.fnOf "is_ascending" "is_ascending" (defArgs s_is_ascending) (defBody s_is_ascending) (defScope s_is_ascending) .none kV_is_ascending dc_is_ascending pm_is_ascending an_is_ascending cd_is_ascending ct_is_ascending), sl_is_ascending⟩)
    (c_is_ascending : PySem.W.codeIn K cd_is_ascending "is_ascending" = true)
    (k_is_ascending : PySem.W.keepIn K (.ref f_is_ascending) = true)
    (a_are_full_names : PySem.W.nsIn K mainGlobals "are_full_names" = some (some (.ref f_are_full_names)))
    (l_are_full_names : K.lookup f_are_full_names = some ⟨oc_are_full_names, od_are_full_names, .func (PySem.W.fnOf "are_full_names" "are_full_names" (defArgs s_are_full_names) (defBody s_are_full_names) (defScope s_are_full_names) .none kV_are_full_names dc_are_full_names pm_are_full_names an_are_full_names cd_are_full_names ct_are_full_names), sl_are_full_names⟩)
    (c_are_full_names : PySem.W.codeIn K cd_are_full_names "are_full_names" = true)
    (k_are_full_names : PySem.W.keepIn K (.ref f_are_full_names) = true)
    (a_parse_names : PySem.W.nsIn K mainGlobals "parse_names" = some (some (.ref f_parse_names)))
    (l_parse_names : K.lookup f_parse_names = some ⟨oc_parse_names, od_parse_names, .func (PySem.W.fnOf "parse_names" "parse_names" (defArgs s_parse_names) (defBody s_parse_names) (defScope s_parse_names) .none (.ref kd_parse_names) dc_parse_names pm_parse_names an_parse_names cd_parse_names ct_parse_names), sl_parse_names⟩)
    (c_parse_names : PySem.W.codeIn K cd_parse_names "parse_names" = true)
    (k_parse_names : PySem.W.keepIn K (.ref f_parse_names) = true)
    (kw_parse_names : PySem.W.nsIn K kd_parse_names "line" = some (some (.int 1 tk_parse_names)))
    (a__parse_small : PySem.W.nsIn K mainGlobals "_parse_small" = some (some (.ref f__parse_small)))
    (l__parse_small : K.lookup f__parse_small = some ⟨oc__parse_small, od__parse_small, .func (PySem.W.fnOf "_parse_small" "_parse_small" (defArgs s__parse_small) (defBody s__parse_small) (defScope s__parse_small) .none kV__parse_small dc__parse_small pm__parse_small an__parse_small cd__parse_small ct__parse_small), sl__parse_small⟩)
    (c__parse_small : PySem.W.codeIn K cd__parse_small "_parse_small" = true)
    (k__parse_small : PySem.W.keepIn K (.ref f__parse_small) = true)
    (a__parse_letters : PySem.W.nsIn K mainGlobals "_parse_letters" = some (some (.ref f__parse_letters)))
    (l__parse_letters : K.lookup f__parse_letters = some ⟨oc__parse_letters, od__parse_letters, .func (PySem.W.fnOf "_parse_letters" "_parse_letters" (defArgs s__parse_letters) (defBody s__parse_letters) (defScope s__parse_letters) .none kV__parse_letters dc__parse_letters pm__parse_letters an__parse_letters cd__parse_letters ct__parse_letters), sl__parse_letters⟩)
    (c__parse_letters : PySem.W.codeIn K cd__parse_letters "_parse_letters" = true)
    (k__parse_letters : PySem.W.keepIn K (.ref f__parse_letters) = true)
    (a__parse_fraction : PySem.W.nsIn K mainGlobals "_parse_fraction" = some (some (.ref f__parse_fraction)))
    (l__parse_fraction : K.lookup f__parse_fraction = some ⟨oc__parse_fraction, od__parse_fraction, .func (PySem.W.fnOf "_parse_fraction" "_parse_fraction" (defArgs s__parse_fraction) (defBody s__parse_fraction) (defScope s__parse_fraction) .none kV__parse_fraction dc__parse_fraction pm__parse_fraction an__parse_fraction cd__parse_fraction ct__parse_fraction), sl__parse_fraction⟩)
    (c__parse_fraction : PySem.W.codeIn K cd__parse_fraction "_parse_fraction" = true)
    (k__parse_fraction : PySem.W.keepIn K (.ref f__parse_fraction) = true)
    (a_parse_value : PySem.W.nsIn K mainGlobals "parse_value" = some (some (.ref f_parse_value)))
    (l_parse_value : K.lookup f_parse_value = some ⟨oc_parse_value, od_parse_value, .func (PySem.W.fnOf "parse_value" "parse_value" (defArgs s_parse_value) (defBody s_parse_value) (defScope s_parse_value) .none (.ref kd_parse_value) dc_parse_value pm_parse_value an_parse_value cd_parse_value ct_parse_value), sl_parse_value⟩)
    (c_parse_value : PySem.W.codeIn K cd_parse_value "parse_value" = true)
    (k_parse_value : PySem.W.keepIn K (.ref f_parse_value) = true)
    (kw_parse_value : PySem.W.nsIn K kd_parse_value "line" = some (some (.int 1 tk_parse_value)))
    (a_format_value : PySem.W.nsIn K mainGlobals "format_value" = some (some (.ref f_format_value)))
    (l_format_value : K.lookup f_format_value = some ⟨oc_format_value, od_format_value, .func (PySem.W.fnOf "format_value" "format_value" (defArgs s_format_value) (defBody s_format_value) (defScope s_format_value) .none kV_format_value dc_format_value pm_format_value an_format_value cd_format_value ct_format_value), sl_format_value⟩)
    (c_format_value : PySem.W.codeIn K cd_format_value "format_value" = true)
    (k_format_value : PySem.W.keepIn K (.ref f_format_value) = true)
    (a__format_entry : PySem.W.nsIn K mainGlobals "_format_entry" = some (some (.ref f__format_entry)))
    (l__format_entry : K.lookup f__format_entry = some ⟨oc__format_entry, od__format_entry, .func (PySem.W.fnOf "_format_entry" "_format_entry" (defArgs s__format_entry) (defBody s__format_entry) (defScope s__format_entry) .none kV__format_entry dc__format_entry pm__format_entry an__format_entry cd__format_entry ct__format_entry), sl__format_entry⟩)
    (c__format_entry : PySem.W.codeIn K cd__format_entry "_format_entry" = true)
    (k__format_entry : PySem.W.keepIn K (.ref f__format_entry) = true)
    (a__parse_entries : PySem.W.nsIn K mainGlobals "_parse_entries" = some (some (.ref f__parse_entries)))
    (l__parse_entries : K.lookup f__parse_entries = some ⟨oc__parse_entries, od__parse_entries, .func (PySem.W.fnOf "_parse_entries" "_parse_entries" (defArgs s__parse_entries) (defBody s__parse_entries) (defScope s__parse_entries) .none kV__parse_entries dc__parse_entries pm__parse_entries an__parse_entries cd__parse_entries ct__parse_entries), sl__parse_entries⟩)
    (c__parse_entries : PySem.W.codeIn K cd__parse_entries "_parse_entries" = true)
    (k__parse_entries : PySem.W.keepIn K (.ref f__parse_entries) = true)
    (a_format_assignment : PySem.W.nsIn K mainGlobals "format_assignment" = some (some (.ref f_format_assignment)))
    (l_format_assignment : K.lookup f_format_assignment = some ⟨oc_format_assignment, od_format_assignment, .func (PySem.W.fnOf "format_assignment" "format_assignment" (defArgs s_format_assignment) (defBody s_format_assignment) (defScope s_format_assignment) .none kV_format_assignment dc_format_assignment pm_format_assignment an_format_assignment cd_format_assignment ct_format_assignment), sl_format_assignment⟩)
    (c_format_assignment : PySem.W.codeIn K cd_format_assignment "format_assignment" = true)
    (k_format_assignment : PySem.W.keepIn K (.ref f_format_assignment) = true)
    (a__parse_grounded : PySem.W.nsIn K mainGlobals "_parse_grounded" = some (some (.ref f__parse_grounded)))
    (l__parse_grounded : K.lookup f__parse_grounded = some ⟨oc__parse_grounded, od__parse_grounded, .func (PySem.W.fnOf "_parse_grounded" "_parse_grounded" (defArgs s__parse_grounded) (defBody s__parse_grounded) (defScope s__parse_grounded) .none kV__parse_grounded dc__parse_grounded pm__parse_grounded an__parse_grounded cd__parse_grounded ct__parse_grounded), sl__parse_grounded⟩)
    (c__parse_grounded : PySem.W.codeIn K cd__parse_grounded "_parse_grounded" = true)
    (k__parse_grounded : PySem.W.keepIn K (.ref f__parse_grounded) = true)
    (a_parse_assignment : PySem.W.nsIn K mainGlobals "parse_assignment" = some (some (.ref f_parse_assignment)))
    (l_parse_assignment : K.lookup f_parse_assignment = some ⟨oc_parse_assignment, od_parse_assignment, .func (PySem.W.fnOf "parse_assignment" "parse_assignment" (defArgs s_parse_assignment) (defBody s_parse_assignment) (defScope s_parse_assignment) .none (.ref kd_parse_assignment) dc_parse_assignment pm_parse_assignment an_parse_assignment cd_parse_assignment ct_parse_assignment), sl_parse_assignment⟩)
    (c_parse_assignment : PySem.W.codeIn K cd_parse_assignment "parse_assignment" = true)
    (k_parse_assignment : PySem.W.keepIn K (.ref f_parse_assignment) = true)
    (kw_parse_assignment : PySem.W.nsIn K kd_parse_assignment "line" = some (some (.int 1 tk_parse_assignment)))
    (a__law_source : PySem.W.nsIn K mainGlobals "_law_source" = some (some (.ref f__law_source)))
    (l__law_source : K.lookup f__law_source = some ⟨oc__law_source, od__law_source, .func (PySem.W.fnOf "_law_source" "_law_source" (defArgs s__law_source) (defBody s__law_source) (defScope s__law_source) .none kV__law_source dc__law_source pm__law_source an__law_source cd__law_source ct__law_source), sl__law_source⟩)
    (c__law_source : PySem.W.codeIn K cd__law_source "_law_source" = true)
    (k__law_source : PySem.W.keepIn K (.ref f__law_source) = true)
    (a__law_draw : PySem.W.nsIn K mainGlobals "_law_draw" = some (some (.ref f__law_draw)))
    (l__law_draw : K.lookup f__law_draw = some ⟨oc__law_draw, od__law_draw, .func (PySem.W.fnOf "_law_draw" "_law_draw" (defArgs s__law_draw) (defBody s__law_draw) (defScope s__law_draw) .none kV__law_draw dc__law_draw pm__law_draw an__law_draw cd__law_draw ct__law_draw), sl__law_draw⟩)
    (c__law_draw : PySem.W.codeIn K cd__law_draw "_law_draw" = true)
    (k__law_draw : PySem.W.keepIn K (.ref f__law_draw) = true)
    (a__law_names : PySem.W.nsIn K mainGlobals "_law_names" = some (some (.ref f__law_names)))
    (l__law_names : K.lookup f__law_names = some ⟨oc__law_names, od__law_names, .func (PySem.W.fnOf "_law_names" "_law_names" (defArgs s__law_names) (defBody s__law_names) (defScope s__law_names) .none kV__law_names dc__law_names pm__law_names an__law_names cd__law_names ct__law_names), sl__law_names⟩)
    (c__law_names : PySem.W.codeIn K cd__law_names "_law_names" = true)
    (k__law_names : PySem.W.keepIn K (.ref f__law_names) = true)
    (a__law_fraction : PySem.W.nsIn K mainGlobals "_law_fraction" = some (some (.ref f__law_fraction)))
    (l__law_fraction : K.lookup f__law_fraction = some ⟨oc__law_fraction, od__law_fraction, .func (PySem.W.fnOf "_law_fraction" "_law_fraction" (defArgs s__law_fraction) (defBody s__law_fraction) (defScope s__law_fraction) .none kV__law_fraction dc__law_fraction pm__law_fraction an__law_fraction cd__law_fraction ct__law_fraction), sl__law_fraction⟩)
    (c__law_fraction : PySem.W.codeIn K cd__law_fraction "_law_fraction" = true)
    (k__law_fraction : PySem.W.keepIn K (.ref f__law_fraction) = true)
    (a__law_value : PySem.W.nsIn K mainGlobals "_law_value" = some (some (.ref f__law_value)))
    (l__law_value : K.lookup f__law_value = some ⟨oc__law_value, od__law_value, .func (PySem.W.fnOf "_law_value" "_law_value" (defArgs s__law_value) (defBody s__law_value) (defScope s__law_value) .none kV__law_value dc__law_value pm__law_value an__law_value cd__law_value ct__law_value), sl__law_value⟩)
    (c__law_value : PySem.W.codeIn K cd__law_value "_law_value" = true)
    (k__law_value : PySem.W.keepIn K (.ref f__law_value) = true)
    (a__law_value_text : PySem.W.nsIn K mainGlobals "_law_value_text" = some (some (.ref f__law_value_text)))
    (l__law_value_text : K.lookup f__law_value_text = some ⟨oc__law_value_text, od__law_value_text, .func (PySem.W.fnOf "_law_value_text" "_law_value_text" (defArgs s__law_value_text) (defBody s__law_value_text) (defScope s__law_value_text) .none kV__law_value_text dc__law_value_text pm__law_value_text an__law_value_text cd__law_value_text ct__law_value_text), sl__law_value_text⟩)
    (c__law_value_text : PySem.W.codeIn K cd__law_value_text "_law_value_text" = true)
    (k__law_value_text : PySem.W.keepIn K (.ref f__law_value_text) = true)
    (a__law_bad_value : PySem.W.nsIn K mainGlobals "_law_bad_value" = some (some (.ref f__law_bad_value)))
    (l__law_bad_value : K.lookup f__law_bad_value = some ⟨oc__law_bad_value, od__law_bad_value, .func (PySem.W.fnOf "_law_bad_value" "_law_bad_value" (defArgs s__law_bad_value) (defBody s__law_bad_value) (defScope s__law_bad_value) .none kV__law_bad_value dc__law_bad_value pm__law_bad_value an__law_bad_value cd__law_bad_value ct__law_bad_value), sl__law_bad_value⟩)
    (c__law_bad_value : PySem.W.codeIn K cd__law_bad_value "_law_bad_value" = true)
    (k__law_bad_value : PySem.W.keepIn K (.ref f__law_bad_value) = true)
    (a__law_spoilt : PySem.W.nsIn K mainGlobals "_law_spoilt" = some (some (.ref f__law_spoilt)))
    (l__law_spoilt : K.lookup f__law_spoilt = some ⟨oc__law_spoilt, od__law_spoilt, .func (PySem.W.fnOf "_law_spoilt" "_law_spoilt" (defArgs s__law_spoilt) (defBody s__law_spoilt) (defScope s__law_spoilt) .none kV__law_spoilt dc__law_spoilt pm__law_spoilt an__law_spoilt cd__law_spoilt ct__law_spoilt), sl__law_spoilt⟩)
    (c__law_spoilt : PySem.W.codeIn K cd__law_spoilt "_law_spoilt" = true)
    (k__law_spoilt : PySem.W.keepIn K (.ref f__law_spoilt) = true)
    (a__law_equal : PySem.W.nsIn K mainGlobals "_law_equal" = some (some (.ref f__law_equal)))
    (l__law_equal : K.lookup f__law_equal = some ⟨oc__law_equal, od__law_equal, .func (PySem.W.fnOf "_law_equal" "_law_equal" (defArgs s__law_equal) (defBody s__law_equal) (defScope s__law_equal) .none kV__law_equal dc__law_equal pm__law_equal an__law_equal cd__law_equal ct__law_equal), sl__law_equal⟩)
    (c__law_equal : PySem.W.codeIn K cd__law_equal "_law_equal" = true)
    (k__law_equal : PySem.W.keepIn K (.ref f__law_equal) = true)
    (a__law_read : PySem.W.nsIn K mainGlobals "_law_read" = some (some (.ref f__law_read)))
    (l__law_read : K.lookup f__law_read = some ⟨oc__law_read, od__law_read, .func (PySem.W.fnOf "_law_read" "_law_read" (defArgs s__law_read) (defBody s__law_read) (defScope s__law_read) .none kV__law_read dc__law_read pm__law_read an__law_read cd__law_read ct__law_read), sl__law_read⟩)
    (c__law_read : PySem.W.codeIn K cd__law_read "_law_read" = true)
    (k__law_read : PySem.W.keepIn K (.ref f__law_read) = true)
    (a__law_read_value : PySem.W.nsIn K mainGlobals "_law_read_value" = some (some (.ref f__law_read_value)))
    (l__law_read_value : K.lookup f__law_read_value = some ⟨oc__law_read_value, od__law_read_value, .func (PySem.W.fnOf "_law_read_value" "_law_read_value" (defArgs s__law_read_value) (defBody s__law_read_value) (defScope s__law_read_value) .none kV__law_read_value dc__law_read_value pm__law_read_value an__law_read_value cd__law_read_value ct__law_read_value), sl__law_read_value⟩)
    (c__law_read_value : PySem.W.codeIn K cd__law_read_value "_law_read_value" = true)
    (k__law_read_value : PySem.W.keepIn K (.ref f__law_read_value) = true)
    (a__law_same : PySem.W.nsIn K mainGlobals "_law_same" = some (some (.ref f__law_same)))
    (l__law_same : K.lookup f__law_same = some ⟨oc__law_same, od__law_same, .func (PySem.W.fnOf "_law_same" "_law_same" (defArgs s__law_same) (defBody s__law_same) (defScope s__law_same) .none kV__law_same dc__law_same pm__law_same an__law_same cd__law_same ct__law_same), sl__law_same⟩)
    (c__law_same : PySem.W.codeIn K cd__law_same "_law_same" = true)
    (k__law_same : PySem.W.keepIn K (.ref f__law_same) = true)
    (a__law_right : PySem.W.nsIn K mainGlobals "_law_right" = some (some (.ref f__law_right)))
    (l__law_right : K.lookup f__law_right = some ⟨oc__law_right, od__law_right, .func (PySem.W.fnOf "_law_right" "_law_right" (defArgs s__law_right) (defBody s__law_right) (defScope s__law_right) .none kV__law_right dc__law_right pm__law_right an__law_right cd__law_right ct__law_right), sl__law_right⟩)
    (c__law_right : PySem.W.codeIn K cd__law_right "_law_right" = true)
    (k__law_right : PySem.W.keepIn K (.ref f__law_right) = true)
    (a_law : PySem.W.nsIn K mainGlobals "law" = some (some (.ref f_law)))
    (l_law : K.lookup f_law = some ⟨oc_law, od_law, .func (PySem.W.fnOf "law" "law" (defArgs s_law) (defBody s_law) (defScope s_law) .none kV_law dc_law pm_law an_law cd_law ct_law), sl_law⟩)
    (c_law : PySem.W.codeIn K cd_law "law" = true)
    (k_law : PySem.W.keepIn K (.ref f_law) = true)
    (z_all : PySem.W.nsIn K mainGlobals "all" = some none)
    (z_int : PySem.W.nsIn K mainGlobals "int" = some none)
    (z_len : PySem.W.nsIn K mainGlobals "len" = some none)
    (z_list : PySem.W.nsIn K mainGlobals "list" = some none)
    (z_set : PySem.W.nsIn K mainGlobals "set" = some none)
    (z_sorted : PySem.W.nsIn K mainGlobals "sorted" = some none)
    (z_tuple : PySem.W.nsIn K mainGlobals "tuple" = some none)
    (z_str : PySem.W.nsIn K mainGlobals "str" = some none)
    (z_zip : PySem.W.nsIn K mainGlobals "zip" = some none)
    (z_range : PySem.W.nsIn K mainGlobals "range" = some none)
    (z_isinstance : PySem.W.nsIn K mainGlobals "isinstance" = some none)
    (z_bool : PySem.W.nsIn K mainGlobals "bool" = some none)
    (z_dict : PySem.W.nsIn K mainGlobals "dict" = some none)
    : ∃ fd : FuncData, (∀ (s : Shared) (v : Value), BindsTo s fd ⟨[v], []⟩ [("_law_script", v)]) ∧ ∀ base : Heap, K.In base → base.Ns mainGlobals mg → FnOk l.prog w K mg base CX0 11 fa fd ["_law_script"] (spLaw K) := by
  have e := hfa.symm.trans (PySem.W.mg_of X G a_law)
  cases e
  have g_InvalidText := PySem.W.mg_of X G aCI
  have xcCI : ExcC K CI := ⟨gaCI, ggCI, bbCI, hxCI, gcCI, sp_, tk_, moCI⟩
  have excCI : OexC K CI := ⟨⟨nmCI, qCI, ACI, bsCI, bmCI, snCI, subCI, abCI, colCI, ddCI, k0CI, k1CI, k2CI, k3CI, k5CI, l_CCI, r_CCI⟩, sa_CCI, bbCI, ttCI, kp_CCI⟩
  have TCI : SupC K CI CI := ⟨⟨cdCI, cfCI⟩, m_CCI, s_CCI, veCI, excCI⟩
  have m_gcd := PySem.W.mg_of X G z_gcd
  have F_is_number := fun_mk (x := "is_number") (qual := "is_number") (st := s_is_number) l_is_number c_is_number k_is_number
  have b_is_number := F_is_number.binds (ps := ["text"]) fun _ _ _ _ _ _ us hl => match us, hl with | [_], _ => rfl
  have m_DIGITS := PySem.W.mg_of X G z_DIGITS
  have F_parse_number : FunD K "parse_number" "parse_number" (defArgs s_parse_number) (defBody s_parse_number) (defScope s_parse_number) [] [(("line" : Str), V.int 1)] f_parse_number _ := ⟨⟨_, _, _, _, _, _, _, _, _, _, rfl, l_parse_number, c_parse_number, .inl ⟨rfl, rfl⟩, .inr ⟨kd_parse_number, rfl, fun q hq => by rw [List.mem_singleton.mp hq]; exact ⟨_, kw_parse_number, ⟨_, rfl⟩⟩⟩⟩, k_parse_number⟩
  have F_is_name := fun_mk (x := "is_name") (qual := "is_name") (st := s_is_name) l_is_name c_is_name k_is_name
  have b_is_name := F_is_name.binds (ps := ["text"]) fun _ _ _ _ _ _ us hl => match us, hl with | [_], _ => rfl
  have m_LONGEST := PySem.W.mg_of X G z_LONGEST
  have m_LETTERS := PySem.W.mg_of X G z_LETTERS
  have m_LETTERS_AND_DIGITS := PySem.W.mg_of X G z_LETTERS_AND_DIGITS
  have F_is_full_name := fun_mk (x := "is_full_name") (qual := "is_full_name") (st := s_is_full_name) l_is_full_name c_is_full_name k_is_full_name
  have b_is_full_name := F_is_full_name.binds (ps := ["text"]) fun _ _ _ _ _ _ us hl => match us, hl with | [_], _ => rfl
  have F_is_ascending := fun_mk (x := "is_ascending") (qual := "is_ascending") (st := s_is_ascending) l_is_ascending c_is_ascending k_is_ascending
  have b_is_ascending := F_is_ascending.binds (ps := ["values"]) fun _ _ _ _ _ _ us hl => match us, hl with | [_], _ => rfl
  have F_are_full_names := fun_mk (x := "are_full_names") (qual := "are_full_names") (st := s_are_full_names) l_are_full_names c_are_full_names k_are_full_names
  have b_are_full_names := F_are_full_names.binds (ps := ["names"]) fun _ _ _ _ _ _ us hl => match us, hl with | [_], _ => rfl
  have F_parse_names : FunD K "parse_names" "parse_names" (defArgs s_parse_names) (defBody s_parse_names) (defScope s_parse_names) [] [(("line" : Str), V.int 1)] f_parse_names _ := ⟨⟨_, _, _, _, _, _, _, _, _, _, rfl, l_parse_names, c_parse_names, .inl ⟨rfl, rfl⟩, .inr ⟨kd_parse_names, rfl, fun q hq => by rw [List.mem_singleton.mp hq]; exact ⟨_, kw_parse_names, ⟨_, rfl⟩⟩⟩⟩, k_parse_names⟩
  have F__parse_small := fun_mk (x := "_parse_small") (qual := "_parse_small") (st := s__parse_small) l__parse_small c__parse_small k__parse_small
  have b__parse_small := F__parse_small.binds (ps := ["text", "highest", "line"]) fun _ _ _ _ _ _ us hl => match us, hl with | [_, _, _], _ => rfl
  have F__parse_letters := fun_mk (x := "_parse_letters") (qual := "_parse_letters") (st := s__parse_letters) l__parse_letters c__parse_letters k__parse_letters
  have b__parse_letters := F__parse_letters.binds (ps := ["text", "line"]) fun _ _ _ _ _ _ us hl => match us, hl with | [_, _], _ => rfl
  have F__parse_fraction := fun_mk (x := "_parse_fraction") (qual := "_parse_fraction") (st := s__parse_fraction) l__parse_fraction c__parse_fraction k__parse_fraction
  have b__parse_fraction := F__parse_fraction.binds (ps := ["text", "line"]) fun _ _ _ _ _ _ us hl => match us, hl with | [_, _], _ => rfl
  have F_parse_value : FunD K "parse_value" "parse_value" (defArgs s_parse_value) (defBody s_parse_value) (defScope s_parse_value) [] [(("line" : Str), V.int 1)] f_parse_value _ := ⟨⟨_, _, _, _, _, _, _, _, _, _, rfl, l_parse_value, c_parse_value, .inl ⟨rfl, rfl⟩, .inr ⟨kd_parse_value, rfl, fun q hq => by rw [List.mem_singleton.mp hq]; exact ⟨_, kw_parse_value, ⟨_, rfl⟩⟩⟩⟩, k_parse_value⟩
  have F_format_value := fun_mk (x := "format_value") (qual := "format_value") (st := s_format_value) l_format_value c_format_value k_format_value
  have b_format_value := F_format_value.binds (ps := ["word", "value"]) fun _ _ _ _ _ _ us hl => match us, hl with | [_, _], _ => rfl
  have F__format_entry := fun_mk (x := "_format_entry") (qual := "_format_entry") (st := s__format_entry) l__format_entry c__format_entry k__format_entry
  have b__format_entry := F__format_entry.binds (ps := ["word", "name", "value"]) fun _ _ _ _ _ _ us hl => match us, hl with | [_, _, _], _ => rfl
  have F__parse_entries := fun_mk (x := "_parse_entries") (qual := "_parse_entries") (st := s__parse_entries) l__parse_entries c__parse_entries k__parse_entries
  have b__parse_entries := F__parse_entries.binds (ps := ["word", "tokens", "line"]) fun _ _ _ _ _ _ us hl => match us, hl with | [_, _, _], _ => rfl
  have F_format_assignment := fun_mk (x := "format_assignment") (qual := "format_assignment") (st := s_format_assignment) l_format_assignment c_format_assignment k_format_assignment
  have b_format_assignment := F_format_assignment.binds (ps := ["word", "assignment"]) fun _ _ _ _ _ _ us hl => match us, hl with | [_, _], _ => rfl
  have F__parse_grounded := fun_mk (x := "_parse_grounded") (qual := "_parse_grounded") (st := s__parse_grounded) l__parse_grounded c__parse_grounded k__parse_grounded
  have b__parse_grounded := F__parse_grounded.binds (ps := ["tokens", "line"]) fun _ _ _ _ _ _ us hl => match us, hl with | [_, _], _ => rfl
  have F_parse_assignment : FunD K "parse_assignment" "parse_assignment" (defArgs s_parse_assignment) (defBody s_parse_assignment) (defScope s_parse_assignment) [] [(("line" : Str), V.int 1)] f_parse_assignment _ := ⟨⟨_, _, _, _, _, _, _, _, _, _, rfl, l_parse_assignment, c_parse_assignment, .inl ⟨rfl, rfl⟩, .inr ⟨kd_parse_assignment, rfl, fun q hq => by rw [List.mem_singleton.mp hq]; exact ⟨_, kw_parse_assignment, ⟨_, rfl⟩⟩⟩⟩, k_parse_assignment⟩
  have F__law_source := fun_mk (x := "_law_source") (qual := "_law_source") (st := s__law_source) l__law_source c__law_source k__law_source
  have b__law_source := F__law_source.binds (ps := ["_law_script", "_law_k"]) fun _ _ _ _ _ _ us hl => match us, hl with | [_, _], _ => rfl
  have F__law_draw := fun_mk (x := "_law_draw") (qual := "_law_draw") (st := s__law_draw) l__law_draw c__law_draw k__law_draw
  have b__law_draw := F__law_draw.binds (ps := ["_law_source_here", "_law_limit"]) fun _ _ _ _ _ _ us hl => match us, hl with | [_, _], _ => rfl
  have F__law_names := fun_mk (x := "_law_names") (qual := "_law_names") (st := s__law_names) l__law_names c__law_names k__law_names
  have b__law_names := F__law_names.binds (ps := ["_law_source_here", "_law_most"]) fun _ _ _ _ _ _ us hl => match us, hl with | [_, _], _ => rfl
  have F__law_fraction := fun_mk (x := "_law_fraction") (qual := "_law_fraction") (st := s__law_fraction) l__law_fraction c__law_fraction k__law_fraction
  have b__law_fraction := F__law_fraction.binds (ps := ["_law_source_here"]) fun _ _ _ _ _ _ us hl => match us, hl with | [_], _ => rfl
  have F__law_value := fun_mk (x := "_law_value") (qual := "_law_value") (st := s__law_value) l__law_value c__law_value k__law_value
  have b__law_value := F__law_value.binds (ps := ["_law_word", "_law_source_here", "_law_size"]) fun _ _ _ _ _ _ us hl => match us, hl with | [_, _, _], _ => rfl
  have F__law_value_text := fun_mk (x := "_law_value_text") (qual := "_law_value_text") (st := s__law_value_text) l__law_value_text c__law_value_text k__law_value_text
  have b__law_value_text := F__law_value_text.binds (ps := ["_law_word", "_law_value_here"]) fun _ _ _ _ _ _ us hl => match us, hl with | [_, _], _ => rfl
  have F__law_bad_value := fun_mk (x := "_law_bad_value") (qual := "_law_bad_value") (st := s__law_bad_value) l__law_bad_value c__law_bad_value k__law_bad_value
  have b__law_bad_value := F__law_bad_value.binds (ps := ["_law_word", "_law_source_here", "_law_value_here"]) fun _ _ _ _ _ _ us hl => match us, hl with | [_, _, _], _ => rfl
  have F__law_spoilt := fun_mk (x := "_law_spoilt") (qual := "_law_spoilt") (st := s__law_spoilt) l__law_spoilt c__law_spoilt k__law_spoilt
  have b__law_spoilt := F__law_spoilt.binds (ps := ["_law_source_here", "_law_word", "_law_pairs", "_law_texts", "_law_size"]) fun _ _ _ _ _ _ us hl => match us, hl with | [_, _, _, _, _], _ => rfl
  have F__law_equal := fun_mk (x := "_law_equal") (qual := "_law_equal") (st := s__law_equal) l__law_equal c__law_equal k__law_equal
  have b__law_equal := F__law_equal.binds (ps := ["_law_actual", "_law_expected"]) fun _ _ _ _ _ _ us hl => match us, hl with | [_, _], _ => rfl
  have F__law_read := fun_mk (x := "_law_read") (qual := "_law_read") (st := s__law_read) l__law_read c__law_read k__law_read
  have b__law_read := F__law_read.binds (ps := ["_law_word", "_law_text", "_law_at"]) fun _ _ _ _ _ _ us hl => match us, hl with | [_, _, _], _ => rfl
  have F__law_read_value := fun_mk (x := "_law_read_value") (qual := "_law_read_value") (st := s__law_read_value) l__law_read_value c__law_read_value k__law_read_value
  have b__law_read_value := F__law_read_value.binds (ps := ["_law_word", "_law_text", "_law_at"]) fun _ _ _ _ _ _ us hl => match us, hl with | [_, _, _], _ => rfl
  have F__law_same := fun_mk (x := "_law_same") (qual := "_law_same") (st := s__law_same) l__law_same c__law_same k__law_same
  have b__law_same := F__law_same.binds (ps := ["_law_actual", "_law_expected"]) fun _ _ _ _ _ _ us hl => match us, hl with | [_, _], _ => rfl
  have F__law_right := fun_mk (x := "_law_right") (qual := "_law_right") (st := s__law_right) l__law_right c__law_right k__law_right
  have b__law_right := F__law_right.binds (ps := ["_law_word", "_law_source_here"]) fun _ _ _ _ _ _ us hl => match us, hl with | [_, _], _ => rfl
  have F_law := fun_mk (x := "law") (qual := "law") (st := s_law) l_law c_law k_law
  have m_all := PySem.W.mg_none_of X G z_all
  have m_int := PySem.W.mg_none_of X G z_int
  have m_len := PySem.W.mg_none_of X G z_len
  have m_list := PySem.W.mg_none_of X G z_list
  have m_set := PySem.W.mg_none_of X G z_set
  have m_sorted := PySem.W.mg_none_of X G z_sorted
  have m_tuple := PySem.W.mg_none_of X G z_tuple
  have m_str := PySem.W.mg_none_of X G z_str
  have m_zip := PySem.W.mg_none_of X G z_zip
  have m_range := PySem.W.mg_none_of X G z_range
  have m_isinstance := PySem.W.mg_none_of X G z_isinstance
  have m_bool := PySem.W.mg_none_of X G z_bool
  have m_dict := PySem.W.mg_none_of X G z_dict
  refine ⟨PySem.W.fnOf "law" "law" (defArgs s_law) (defBody s_law) (defScope s_law) .none kV_law dc_law pm_law an_law cd_law ct_law, fun s v => .of_eq rfl, fun base _ _ => ?_⟩
  have E_InvalidText : Err l.prog w K mg base "InvalidText" CI "line" "line" okI 1 := ⟨⟨fICI, _, i_CCI, t_fICI, ok_init l_fICI c_fICI ⟨clCI, cldCI, cslCI, l_ccCI⟩ ⟨cclCI, cddCI, vsCI, ccsCI, fileCI, tfCI, l_cdaCI, v_cdaCI, p_fileCI⟩ p_top (PySem.W.mg_none_of X G z_super) any_ TCI no_CCI, Binds.all fun us hl => match us, hl with | [_, _], _ => rfl⟩, excCI, g_InvalidText, kit_exm bbCI cfCI ttCI ssCI, ⟨gaCI, ggCI, bbCI, hxCI⟩, no_CCI⟩
  have C_is_number : Cal l.prog w K mg base "is_number" 1 ["text"] spIsNumber := ⟨_, _, ok_is_number (F := F_is_number) (m_all := m_all) (m_DIGITS := m_DIGITS), PySem.W.mg_of X G a_is_number, F_is_number.kp, b_is_number⟩
  have CN_parse_number : Rc.CalN l.prog w K mg base "parse_number" "line" 1 3 ["text", "line"] (.int 1) (spParseNumber CI) := ⟨_, _, ok_parse_number F_parse_number (m_int := m_int) (C_is_number := C_is_number) (E_InvalidText := E_InvalidText), PySem.W.mg_of X G a_parse_number, F_parse_number.kp, F_parse_number.binds0 (ps := ["text", "line"]) 1 (by simp) rfl (fun D doc pm an cdv ct us ks h1 h2 => match us, ks, h1, h2 with | [_], [_], _, _ => ⟨_, _, _, _, _, _, rfl, rfl, rfl⟩), ⟨fun s us ws _ h1 h2 => match us, ws, h1, h2 with | [_], [_], _, _ => .of_eq rfl, fun r rz => r.append rz⟩⟩
  have C_is_name : Cal l.prog w K mg base "is_name" 1 ["text"] spIsName := ⟨_, _, ok_is_name (F := F_is_name) (m_len := m_len) (m_all := m_all) (m_LONGEST := m_LONGEST) (m_LETTERS := m_LETTERS) (m_LETTERS_AND_DIGITS := m_LETTERS_AND_DIGITS), PySem.W.mg_of X G a_is_name, F_is_name.kp, b_is_name⟩
  have C_is_full_name : Cal l.prog w K mg base "is_full_name" 2 ["text"] spFull := ⟨_, _, ok_is_full_name (F := F_is_full_name) (m_all := m_all) (C_is_name := C_is_name), PySem.W.mg_of X G a_is_full_name, F_is_full_name.kp, b_is_full_name⟩
  have C_is_ascending : Cal l.prog w K mg base "is_ascending" 1 ["values"] (spAsc K) := ⟨_, _, ok_is_ascending (F := F_is_ascending) (m_list := m_list) (m_set := m_set) (m_sorted := m_sorted), PySem.W.mg_of X G a_is_ascending, F_is_ascending.kp, b_is_ascending⟩
  have C_are_full_names : Cal l.prog w K mg base "are_full_names" 3 ["names"] (spAre K) := ⟨_, _, ok_are_full_names (F := F_are_full_names) (m_all := m_all) (C_is_full_name := C_is_full_name) (C_is_ascending := C_is_ascending), PySem.W.mg_of X G a_are_full_names, F_are_full_names.kp, b_are_full_names⟩
  have CN_parse_names : Rc.CalN l.prog w K mg base "parse_names" "line" 1 4 ["words", "line"] (.int 1) (spParseNames K CI) := ⟨_, _, ok_parse_names F_parse_names (m_tuple := m_tuple) (C_are_full_names := C_are_full_names) (E_InvalidText := E_InvalidText), PySem.W.mg_of X G a_parse_names, F_parse_names.kp, F_parse_names.binds0 (ps := ["words", "line"]) 1 (by simp) rfl (fun D doc pm an cdv ct us ks h1 h2 => match us, ks, h1, h2 with | [_], [_], _, _ => ⟨_, _, _, _, _, _, rfl, rfl, rfl⟩), ⟨fun s us ws _ h1 h2 => match us, ws, h1, h2 with | [_], [_], _, _ => .of_eq rfl, fun r rz => r.append rz⟩⟩
  have C__parse_small : CalE l.prog w K mg base "_parse_small" 4 ["text", "highest", "line"] (spSmall CI) := ⟨_, _, ok_small (F := F__parse_small) (CN_parse_number := CN_parse_number) (E_InvalidText := E_InvalidText), PySem.W.mg_of X G a__parse_small, F__parse_small.kp, b__parse_small⟩
  have C__parse_letters : CalE l.prog w K mg base "_parse_letters" 3 ["text", "line"] (spLetters CI) := ⟨_, _, ok_letters (F := F__parse_letters) (m_all := m_all) (E_InvalidText := E_InvalidText), PySem.W.mg_of X G a__parse_letters, F__parse_letters.kp, b__parse_letters⟩
  have C__parse_fraction : CalE l.prog w K mg base "_parse_fraction" 4 ["text", "line"] (spFrac CI) := ⟨_, _, ok_frac (F := F__parse_fraction) (m_gcd := m_gcd) (CN_parse_number := CN_parse_number) (E_InvalidText := E_InvalidText), PySem.W.mg_of X G a__parse_fraction, F__parse_fraction.kp, b__parse_fraction⟩
  have CN_parse_value : Rc.CalN l.prog w K mg base "parse_value" "line" 2 5 ["word", "text", "line"] (.int 1) (spValue CI) := ⟨_, _, ok_value F_parse_value (C__parse_small := C__parse_small) (C__parse_fraction := C__parse_fraction) (C__parse_letters := C__parse_letters) (CN_parse_number := CN_parse_number), PySem.W.mg_of X G a_parse_value, F_parse_value.kp, F_parse_value.binds0 (ps := ["word", "text", "line"]) 2 (by simp) rfl (fun D doc pm an cdv ct us ks h1 h2 => match us, ks, h1, h2 with | [_, _], [_], _, _ => ⟨_, _, _, _, _, _, rfl, rfl, rfl⟩), ⟨fun s us ws _ h1 h2 => match us, ws, h1, h2 with | [_, _], [_], _, _ => .of_eq rfl, fun r rz => r.append rz⟩⟩
  have C_format_value : Cal l.prog w K mg base "format_value" 1 ["word", "value"] spFormat := ⟨_, _, ok_format (F := F_format_value) (m_str := m_str), PySem.W.mg_of X G a_format_value, F_format_value.kp, b_format_value⟩
  have C__format_entry : Cal l.prog w K mg base "_format_entry" 2 ["word", "name", "value"] spEntry := ⟨_, _, ok_entry (F := F__format_entry) (C_format_value := C_format_value), PySem.W.mg_of X G a__format_entry, F__format_entry.kp, b__format_entry⟩
  have C__parse_entries : CalE l.prog w K mg base "_parse_entries" 6 ["word", "tokens", "line"] (spEntries CI) := ⟨_, _, ok_entries (F := F__parse_entries) (m_all := m_all) (m_zip := m_zip) (CN_parse_names := CN_parse_names) (CN_parse_value := CN_parse_value) (E_InvalidText := E_InvalidText), PySem.W.mg_of X G a__parse_entries, F__parse_entries.kp, b__parse_entries⟩
  have C_format_assignment : Cal l.prog w K mg base "format_assignment" 3 ["word", "assignment"] spFormatA := ⟨_, _, ok_formatA (F := F_format_assignment) (m_sorted := m_sorted) (C__format_entry := C__format_entry), PySem.W.mg_of X G a_format_assignment, F_format_assignment.kp, b_format_assignment⟩
  have C__parse_grounded : CalE l.prog w K mg base "_parse_grounded" 7 ["tokens", "line"] (spGrounded CI) := ⟨_, _, ok_grounded (F := F__parse_grounded) (m_all := m_all) (m_len := m_len) (CN_parse_number := CN_parse_number) (C__parse_entries := C__parse_entries) (E_InvalidText := E_InvalidText), PySem.W.mg_of X G a__parse_grounded, F__parse_grounded.kp, b__parse_grounded⟩
  have CN_parse_assignment : Rc.CalN l.prog w K mg base "parse_assignment" "line" 2 8 ["word", "text", "line"] (.int 1) (spParseA CI) := ⟨_, _, ok_parseA F_parse_assignment (C__parse_entries := C__parse_entries) (C__parse_grounded := C__parse_grounded), PySem.W.mg_of X G a_parse_assignment, F_parse_assignment.kp, F_parse_assignment.binds0 (ps := ["word", "text", "line"]) 2 (by simp) rfl (fun D doc pm an cdv ct us ks h1 h2 => match us, ks, h1, h2 with | [_, _], [_], _, _ => ⟨_, _, _, _, _, _, rfl, rfl, rfl⟩), ⟨fun s us ws _ h1 h2 => match us, ws, h1, h2 with | [_, _], [_], _, _ => .of_eq rfl, fun r rz => r.append rz⟩⟩
  have C__law_source : Cal l.prog w K mg base "_law_source" 1 ["_law_script", "_law_k"] (spSource K) := ⟨_, _, ok_source (F := F__law_source) (m_len := m_len) (m_int := m_int), PySem.W.mg_of X G a__law_source, F__law_source.kp, b__law_source⟩
  have C__law_draw : Cal l.prog w K mg base "_law_draw" 1 ["_law_source_here", "_law_limit"] spDraw := ⟨_, _, ok_draw (F := F__law_draw) (m_int := m_int), PySem.W.mg_of X G a__law_draw, F__law_draw.kp, b__law_draw⟩
  have C__law_names : Cal l.prog w K mg base "_law_names" 2 ["_law_source_here", "_law_most"] (spNames K) := ⟨_, _, ok_names (F := F__law_names) (m_range := m_range) (m_len := m_len) (m_tuple := m_tuple) (m_sorted := m_sorted) (C__law_draw := C__law_draw), PySem.W.mg_of X G a__law_names, F__law_names.kp, b__law_names⟩
  have C__law_fraction : Cal l.prog w K mg base "_law_fraction" 2 ["_law_source_here"] spFraction := ⟨_, _, ok_fraction (F := F__law_fraction) (m_range := m_range) (m_int := m_int) (C__law_draw := C__law_draw), PySem.W.mg_of X G a__law_fraction, F__law_fraction.kp, b__law_fraction⟩
  have C__law_value : Cal l.prog w K mg base "_law_value" 3 ["_law_word", "_law_source_here", "_law_size"] spLValue := ⟨_, _, ok_lvalue (F := F__law_value) (m_range := m_range) (C__law_draw := C__law_draw) (C__law_fraction := C__law_fraction), PySem.W.mg_of X G a__law_value, F__law_value.kp, b__law_value⟩
  have C__law_value_text : Cal l.prog w K mg base "_law_value_text" 1 ["_law_word", "_law_value_here"] spVText := ⟨_, _, ok_vtext (F := F__law_value_text) (m_str := m_str), PySem.W.mg_of X G a__law_value_text, F__law_value_text.kp, b__law_value_text⟩
  have C__law_bad_value : Cal l.prog w K mg base "_law_bad_value" 2 ["_law_word", "_law_source_here", "_law_value_here"] spBad := ⟨_, _, ok_bad (F := F__law_bad_value) (m_str := m_str) (C__law_draw := C__law_draw), PySem.W.mg_of X G a__law_bad_value, F__law_bad_value.kp, b__law_bad_value⟩
  have C__law_spoilt : Cal l.prog w K mg base "_law_spoilt" 3 ["_law_source_here", "_law_word", "_law_pairs", "_law_texts", "_law_size"] spSpoilt := ⟨_, _, ok_spoilt (F := F__law_spoilt) (m_str := m_str) (m_int := m_int) (m_len := m_len) (C__law_draw := C__law_draw) (C__law_value_text := C__law_value_text) (C__law_bad_value := C__law_bad_value), PySem.W.mg_of X G a__law_spoilt, F__law_spoilt.kp, b__law_spoilt⟩
  have C__law_equal : Cal l.prog w K mg base "_law_equal" 4 ["_law_actual", "_law_expected"] (spEq 3) := ⟨_, _, ok_equal (F := F__law_equal) (m_isinstance := m_isinstance) (m_tuple := m_tuple) (m_int := m_int) (m_bool := m_bool) (m_str := m_str) (m_len := m_len) (gS := PySem.W.mg_of X G a__law_equal) (kS := F__law_equal.kp) (bS := b__law_equal) 3, PySem.W.mg_of X G a__law_equal, F__law_equal.kp, b__law_equal⟩
  have C__law_read : Cal l.prog w K mg base "_law_read" 9 ["_law_word", "_law_text", "_law_at"] spLRead := ⟨_, _, ok_lread (F := F__law_read) (CN_parse_assignment := CN_parse_assignment) (E_InvalidText := E_InvalidText), PySem.W.mg_of X G a__law_read, F__law_read.kp, b__law_read⟩
  have C__law_read_value : Cal l.prog w K mg base "_law_read_value" 6 ["_law_word", "_law_text", "_law_at"] spLReadV := ⟨_, _, ok_lreadv (F := F__law_read_value) (CN_parse_value := CN_parse_value) (E_InvalidText := E_InvalidText), PySem.W.mg_of X G a__law_read_value, F__law_read_value.kp, b__law_read_value⟩
  have C__law_same : Cal l.prog w K mg base "_law_same" 5 ["_law_actual", "_law_expected"] spSame := ⟨_, _, ok_same (F := F__law_same) (m_isinstance := m_isinstance) (m_dict := m_dict) (m_sorted := m_sorted) (C__law_equal := C__law_equal), PySem.W.mg_of X G a__law_same, F__law_same.kp, b__law_same⟩
  have C__law_right : Cal l.prog w K mg base "_law_right" 10 ["_law_word", "_law_source_here"] spRight := ⟨_, _, ok_right (F := F__law_right) (m_str := m_str) (C__law_draw := C__law_draw) (C__law_names := C__law_names) (C__law_value := C__law_value) (C__law_value_text := C__law_value_text) (C__law_bad_value := C__law_bad_value) (C_format_value := C_format_value) (C_format_assignment := C_format_assignment) (C__law_equal := C__law_equal) (C__law_read_value := C__law_read_value) (C__law_read := C__law_read) (C__law_same := C__law_same) (C__law_spoilt := C__law_spoilt), PySem.W.mg_of X G a__law_right, F__law_right.kp, b__law_right⟩
  exact ok_law F_law (m_range := m_range) (C__law_source := C__law_source) (C__law_right := C__law_right)
end K06
open PySem PySem.W PyProof.Rows
set_option maxRecDepth 100000 in
set_option maxHeartbeats 0 in
theorem PySem.Challenge.cw_shadowlinks_k06_assignments_read_back_holds : PySem.Challenge.rw_shadowlinks_k06_assignments_read_back.Holds := by
  w_on; o_law; k_head; (case hw => w_witness2)
  k_fill
  refine L2.walk_of (l := PySem.Challenge.rw_shadowlinks_k06_assignments_read_back) (n := 63) (k := 11) (x := "_law_script") (CX := fun _ => L2.CX0) (sp := fun w => K06.spLaw _) rfl (by decide) rfl ⟨rfl, by decide, by decide⟩ (fun w h Y => PySem.W.kIn_of Y) ?F (fun _ _ a ns hl _ hS => ⟨a, ns, rfl, hS, hl, fun _ => rfl⟩) (fun _ _ _ _ _ h => h)
  case F =>
    intro w mg fa h KX G hmg
    refine' K06.all_mk KX G hmg ?aCI ?sp_ ?tk_ ?gaCI ?ggCI ?bbCI ?hxCI ?gcCI ?moCI ?p_top ?z_super ?any_ ?cfCI ?ttCI ?ssCI ?l_CCI ?r_CCI ?sa_CCI ?kp_CCI ?i_CCI ?t_fICI ?l_fICI ?c_fICI ?l_ccCI ?l_cdaCI ?v_cdaCI ?p_fileCI ?m_CCI ?s_CCI ?no_CCI ?veCI ?z_gcd ?a_is_number ?l_is_number ?c_is_number ?k_is_number ?z_DIGITS ?a_parse_number ?l_parse_number ?c_parse_number ?k_parse_number ?kw_parse_number ?a_is_name ?l_is_name ?c_is_name ?k_is_name ?z_LONGEST ?z_LETTERS ?z_LETTERS_AND_DIGITS ?a_is_full_name ?l_is_full_name ?c_is_full_name ?k_is_full_name ?a_is_ascending ?l_is_ascending ?c_is_ascending ?k_is_ascending ?a_are_full_names ?l_are_full_names ?c_are_full_names ?k_are_full_names ?a_parse_names ?l_parse_names ?c_parse_names ?k_parse_names ?kw_parse_names ?a__parse_small ?l__parse_small ?c__parse_small ?k__parse_small ?a__parse_letters ?l__parse_letters ?c__parse_letters ?k__parse_letters ?a__parse_fraction ?l__parse_fraction ?c__parse_fraction ?k__parse_fraction ?a_parse_value ?l_parse_value ?c_parse_value ?k_parse_value ?kw_parse_value ?a_format_value ?l_format_value ?c_format_value ?k_format_value ?a__format_entry ?l__format_entry ?c__format_entry ?k__format_entry ?a__parse_entries ?l__parse_entries ?c__parse_entries ?k__parse_entries ?a_format_assignment ?l_format_assignment ?c_format_assignment ?k_format_assignment ?a__parse_grounded ?l__parse_grounded ?c__parse_grounded ?k__parse_grounded ?a_parse_assignment ?l_parse_assignment ?c_parse_assignment ?k_parse_assignment ?kw_parse_assignment ?a__law_source ?l__law_source ?c__law_source ?k__law_source ?a__law_draw ?l__law_draw ?c__law_draw ?k__law_draw ?a__law_names ?l__law_names ?c__law_names ?k__law_names ?a__law_fraction ?l__law_fraction ?c__law_fraction ?k__law_fraction ?a__law_value ?l__law_value ?c__law_value ?k__law_value ?a__law_value_text ?l__law_value_text ?c__law_value_text ?k__law_value_text ?a__law_bad_value ?l__law_bad_value ?c__law_bad_value ?k__law_bad_value ?a__law_spoilt ?l__law_spoilt ?c__law_spoilt ?k__law_spoilt ?a__law_equal ?l__law_equal ?c__law_equal ?k__law_equal ?a__law_read ?l__law_read ?c__law_read ?k__law_read ?a__law_read_value ?l__law_read_value ?c__law_read_value ?k__law_read_value ?a__law_same ?l__law_same ?c__law_same ?k__law_same ?a__law_right ?l__law_right ?c__law_right ?k__law_right ?a_law ?l_law ?c_law ?k_law ?z_all ?z_int ?z_len ?z_list ?z_set ?z_sorted ?z_tuple ?z_str ?z_zip ?z_range ?z_isinstance ?z_bool ?z_dict
    (case aCI => k_is)
    (case sp_ => k_is)
    (case tk_ => k_is)
    (case gaCI => k_is)
    (case ggCI => k_is)
    (case bbCI => k_is)
    (case hxCI => k_is)
    (case gcCI => k_is)
    (case moCI => k_is)
    (case p_top => rfl)
    (case z_super => k_is)
    (case any_ => k_is)
    (case cfCI => k_is)
    (case ttCI => k_is)
    (case ssCI => k_is)
    (case l_CCI => k_is)
    (case r_CCI => rfl)
    (case sa_CCI => k_is)
    (case kp_CCI => k_is)
    (case i_CCI => k_is)
    (case t_fICI => k_is)
    (case l_fICI => k_is)
    (case c_fICI => k_is)
    (case l_ccCI => k_is)
    (case l_cdaCI => k_is)
    (case v_cdaCI => rfl)
    (case p_fileCI => rfl)
    (case m_CCI => k_is)
    (case s_CCI => ks_is)
    (case no_CCI => k_is)
    (case veCI => k_is)
    (case z_gcd => k_is)
    (case a_is_number => k_is)
    (case l_is_number => k_is)
    (case c_is_number => k_is)
    (case k_is_number => k_is)
    (case z_DIGITS => k_is)
    (case a_parse_number => k_is)
    (case l_parse_number => k_is)
    (case c_parse_number => k_is)
    (case k_parse_number => k_is)
    (case kw_parse_number => k_is)
    (case a_is_name => k_is)
    (case l_is_name => k_is)
    (case c_is_name => k_is)
    (case k_is_name => k_is)
    (case z_LONGEST => k_is)
    (case z_LETTERS => k_is)
    (case z_LETTERS_AND_DIGITS => k_is)
    (case a_is_full_name => k_is)
    (case l_is_full_name => k_is)
    (case c_is_full_name => k_is)
    (case k_is_full_name => k_is)
    (case a_is_ascending => k_is)
    (case l_is_ascending => k_is)
    (case c_is_ascending => k_is)
    (case k_is_ascending => k_is)
    (case a_are_full_names => k_is)
    (case l_are_full_names => k_is)
    (case c_are_full_names => k_is)
    (case k_are_full_names => k_is)
    (case a_parse_names => k_is)
    (case l_parse_names => k_is)
    (case c_parse_names => k_is)
    (case k_parse_names => k_is)
    (case kw_parse_names => k_is)
    (case a__parse_small => k_is)
    (case l__parse_small => k_is)
    (case c__parse_small => k_is)
    (case k__parse_small => k_is)
    (case a__parse_letters => k_is)
    (case l__parse_letters => k_is)
    (case c__parse_letters => k_is)
    (case k__parse_letters => k_is)
    (case a__parse_fraction => k_is)
    (case l__parse_fraction => k_is)
    (case c__parse_fraction => k_is)
    (case k__parse_fraction => k_is)
    (case a_parse_value => k_is)
    (case l_parse_value => k_is)
    (case c_parse_value => k_is)
    (case k_parse_value => k_is)
    (case kw_parse_value => k_is)
    (case a_format_value => k_is)
    (case l_format_value => k_is)
    (case c_format_value => k_is)
    (case k_format_value => k_is)
    (case a__format_entry => k_is)
    (case l__format_entry => k_is)
    (case c__format_entry => k_is)
    (case k__format_entry => k_is)
    (case a__parse_entries => k_is)
    (case l__parse_entries => k_is)
    (case c__parse_entries => k_is)
    (case k__parse_entries => k_is)
    (case a_format_assignment => k_is)
    (case l_format_assignment => k_is)
    (case c_format_assignment => k_is)
    (case k_format_assignment => k_is)
    (case a__parse_grounded => k_is)
    (case l__parse_grounded => k_is)
    (case c__parse_grounded => k_is)
    (case k__parse_grounded => k_is)
    (case a_parse_assignment => k_is)
    (case l_parse_assignment => k_is)
    (case c_parse_assignment => k_is)
    (case k_parse_assignment => k_is)
    (case kw_parse_assignment => k_is)
    (case a__law_source => k_is)
    (case l__law_source => k_is)
    (case c__law_source => k_is)
    (case k__law_source => k_is)
    (case a__law_draw => k_is)
    (case l__law_draw => k_is)
    (case c__law_draw => k_is)
    (case k__law_draw => k_is)
    (case a__law_names => k_is)
    (case l__law_names => k_is)
    (case c__law_names => k_is)
    (case k__law_names => k_is)
    (case a__law_fraction => k_is)
    (case l__law_fraction => k_is)
    (case c__law_fraction => k_is)
    (case k__law_fraction => k_is)
    (case a__law_value => k_is)
    (case l__law_value => k_is)
    (case c__law_value => k_is)
    (case k__law_value => k_is)
    (case a__law_value_text => k_is)
    (case l__law_value_text => k_is)
    (case c__law_value_text => k_is)
    (case k__law_value_text => k_is)
    (case a__law_bad_value => k_is)
    (case l__law_bad_value => k_is)
    (case c__law_bad_value => k_is)
    (case k__law_bad_value => k_is)
    (case a__law_spoilt => k_is)
    (case l__law_spoilt => k_is)
    (case c__law_spoilt => k_is)
    (case k__law_spoilt => k_is)
    (case a__law_equal => k_is)
    (case l__law_equal => k_is)
    (case c__law_equal => k_is)
    (case k__law_equal => k_is)
    (case a__law_read => k_is)
    (case l__law_read => k_is)
    (case c__law_read => k_is)
    (case k__law_read => k_is)
    (case a__law_read_value => k_is)
    (case l__law_read_value => k_is)
    (case c__law_read_value => k_is)
    (case k__law_read_value => k_is)
    (case a__law_same => k_is)
    (case l__law_same => k_is)
    (case c__law_same => k_is)
    (case k__law_same => k_is)
    (case a__law_right => k_is)
    (case l__law_right => k_is)
    (case c__law_right => k_is)
    (case k__law_right => k_is)
    (case a_law => k_is)
    (case l_law => k_is)
    (case c_law => k_is)
    (case k_law => k_is)
    (case z_all => k_is)
    (case z_int => k_is)
    (case z_len => k_is)
    (case z_list => k_is)
    (case z_set => k_is)
    (case z_sorted => k_is)
    (case z_tuple => k_is)
    (case z_str => k_is)
    (case z_zip => k_is)
    (case z_range => k_is)
    (case z_isinstance => k_is)
    (case z_bool => k_is)
    (case z_dict => k_is)
#print axioms PySem.Challenge.cw_shadowlinks_k06_assignments_read_back_holds
